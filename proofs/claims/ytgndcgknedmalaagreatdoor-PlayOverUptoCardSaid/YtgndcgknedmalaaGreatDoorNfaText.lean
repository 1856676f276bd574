/-
  Stage 7's and 8's statements: texts that numbers make; nodes of a call's own.
-/
import Derived.Test.YtgndcgknedmalaaGreatDoorNfaVar
import Derived.LoopTactic
namespace Go.Proofs.YtgndcgknedmalaaGreatDoor
open Go.RowKit
set_option linter.unusedVariables false


def txt1 (c : UInt8) : UInt8 := UInt8.ofNat (97 + c.toNat % 3)
def txt (ns : List UInt8) : List UInt8 := (ns.take 14).map txt1
theorem txt_len (ns : List UInt8) : (txt ns).length ≤ 14 := by simp [txt]; omega
theorem txt_len2 (ns : List UInt8) : (txt ns).length ≤ ns.length := by simp [txt]; omega
theorem txt_more {ns : List UInt8} {j : Nat} {c : UInt8} (hc : ns[j]? = some c) (hj : j < 14) : txt (ns.take (j + 1)) = txt (ns.take j) ++ [txt1 c] := by
  have h1 : (ns.take (j + 1)).take 14 = ns.take (j + 1) := List.take_of_length_le (by simp; omega)
  have h2 : (ns.take j).take 14 = ns.take j := List.take_of_length_le (by simp; omega)
  unfold txt
  rw [h1, h2, List.take_succ_of hc]
  simp
theorem txt_same {ns : List UInt8} {j : Nat} (hj : 14 ≤ j) : txt (ns.take (j + 1)) = txt (ns.take j) := by
  unfold txt
  rw [List.take_take, List.take_take, Nat.min_eq_left (by omega), Nat.min_eq_left (by omega)]
theorem run_abc (r : Nat) (hr : r < 3) (W : World) : (Instr.slice 9 (.string ⟨#[97, 98, 99]⟩) (some (.int .u8 (r : Int))) (some (.int .u8 ((r : Int) + 1))) none).run Tryz.prog W = .ok (.string (strB [UInt8.ofNat (97 + r)])) W := by
  have h := run_slice_string W 9 ⟨#[97, 98, 99]⟩ .u8 .u8 (r : Int) ((r : Int) + 1) Tryz.underlying9 (by omega) (by omega) (by simp [ByteArray.size]; omega)
  rw [h]
  clear h
  have e1 : ((r : Int)).toNat = r := by omega
  have e2 : ((r : Int) + 1).toNat = r + 1 := by omega
  rw [e1, e2]
  have key : ∀ q : Fin 3, (⟨#[97, 98, 99]⟩ : ByteArray).extract q.val (q.val + 1) = strB [UInt8.ofNat (97 + q.val)] := by decide +kernel
  rw [key ⟨r, hr⟩]
set_option maxHeartbeats 1000000 in
theorem text_any {B n k : Nat} {A : Option Addr} (ns : List UInt8) {w : World} (hy : Bys w B A n ns) :
    Calls Tryz.prog 13 #[.slice A n k] w fun e w' => e = .returned (.string (strB (txt ns))) ∧ w = w' := by
  have HY := keepHid hy
  have hm := hy.max
  clear hy
  have e0 : (⟨#[]⟩ : ByteArray) = strB (txt (ns.take 0)) := rfl
  go_enter Tryz.func13, Tryz.ntmps13
  go_wp2
  go_loop [3, 8] (fun s i => ∃ j : Nat, j ≤ n ∧ i = .int .i64 j ∧ s = .string (strB (txt (ns.take j)))) (fun _ i => n - (intOf i).toNat)
  case atStart => exact ⟨0, Nat.zero_le _, rfl, by rw [← e0]⟩
  case round =>
    obtain ⟨j, hj, rfl, rfl⟩ := hrel
    rcases Nat.lt_or_ge j n with hlt | hge
    · obtain ⟨ad, c, rfl, _, hc, hcell⟩ := HY.out.at_ hlt
      have c1 := u8lt c
      have hji : (j : Int) < (n : Int) := by omega
      rcases Nat.lt_or_ge j 14 with h14 | h14
      · have HT := keepHid (txt_more hc h14)
        have hj14 : (j : Int) < 14 := by omega
        obtain ⟨r, hr⟩ : ∃ r, c.toNat % 3 = r := ⟨_, rfl⟩
        have hr3 : r < 3 := by rw [← hr]; exact Nat.mod_lt _ (by omega)
        have hab : ∀ W, (Instr.slice 9 (.string ⟨#[97, 98, 99]⟩) (some (.int .u8 ((c.toNat : Int) % 3))) (some (.int .u8 ((c.toNat : Int) % 3 + 1))) none).run Tryz.prog W = .ok (.string (strB [txt1 c])) W := fun W => by
          have := run_abc r hr3 W
          rw [show ((c.toNat : Int) % 3) = (r : Int) by omega]
          unfold txt1
          rw [hr]; exact this
        have hadd : ∀ W, (Op.stringOp .add (strB (txt (ns.take j))) (strB [txt1 c])).run Tryz.prog W = .ok (.string (strB (txt (ns.take j) ++ [txt1 c]))) W := fun W => run_strAdd _ _ (by have := txt_len (ns.take j); simp; omega) W
        have i1 : (0 : Int) ≤ (c.toNat : Int) := by omega
        have i2 : (c.toNat : Int) ≤ 255 := by omega
        clear hc hr hr3 c1 e0
        go_wp2
        go_round
        case rel => exact ⟨j + 1, by omega, by go_num, by rw [HT.out]⟩
        case measure => simp [intOf]; omega
      · have HT := keepHid (txt_same (ns := ns) h14)
        have hj14 : ¬ (j : Int) < 14 := by omega
        clear hc c1 e0
        go_wp2
        go_round
        case rel => exact ⟨j + 1, by omega, by go_num, by rw [HT.out]⟩
        case measure => simp [intOf]; omega
    · have e : ns.take j = ns := List.take_of_length_le (by rw [HY.out.len]; exact hge)
      have HE := keepHid e
      clear e e0
      go_wp2
      go_ret
      exact ⟨by rw [HE.out]; rfl, rfl⟩

theorem run_head {l : List UInt8} {k : Nat} (hk : k ≤ l.length) (v : Int) (hv : v = (k : Int)) (W : World) :
    (Instr.slice 9 (.string (strB l)) none (some (.int .i64 v)) none).run Tryz.prog W = .ok (.string (strB (l.take k))) W := by
  subst hv
  have h := run_slice_string_h W 9 (strB l) Tryz.underlying9 .i64 (k : Int) (by omega) (by rw [strB_size]; omega)
  rw [h]
  rw [show ((k : Int)).toNat = k by omega, strB_take]
theorem run_tail {l : List UInt8} {k : Nat} (hk : k ≤ l.length) (v : Int) (hv : v = (k : Int)) (W : World) :
    (Instr.slice 9 (.string (strB l)) (some (.int .i64 v)) none none).run Tryz.prog W = .ok (.string (strB (l.drop k))) W := by
  subst hv
  have h := run_slice_string_l W 9 (strB l) Tryz.underlying9 .i64 (k : Int) (by omega) (by rw [strB_size]; omega)
  rw [h]
  rw [show ((k : Int)).toNat = k by omega, strB_size, strB_drop]
end Go.Proofs.YtgndcgknedmalaaGreatDoor
