/-
  Texts in parts; the law's own small helpers: whether a byte is one of some, what a sign is worth, a number in a base, a text in quotes.
-/
import Derived.Test.YtgokejoieafgiaaDoorTokenRows
import Derived.Test.YtgokejoieafgiaaDoorMake
import Derived.WalkKit
import Derived.ProofKit
import Derived.WalkLawsBesides
import Derived.IntWalk
import Derived.RegionTactic
import Derived.BigRegion
import Derived.ChangeAlike
import Derived.Deep.QuietTactic
import Derived.BigQuiet
import Derived.Deep.RegionHeld3
import Derived.Deep.DrawnRows
import Derived.Outline
namespace Go.Proofs.YtgokejoieafgiaaDoor
open Go.RowKit
set_option linter.unusedVariables false

theorem ret_bool {a b : Bool} (h : a = b) : Ending.returned (.bool a) = .returned (.bool b) := by rw [h]
/-- A byte of a string. -/
theorem run_idx {l : List UInt8} {k : Nat} {c : UInt8} (h : l[k]? = some c) (i : Int) (hi : i = (k : Int)) (w : World) :
    (Instr.index 9 (.string (strB l)) (.int .i64 i)).run Tryd.prog w = .ok (.int .u8 (c.toNat : Int)) w := by
  subst hi
  have hk : k < l.length := (List.getElem?_eq_some_iff.1 h).1
  rw [run_index_string w 9 (strB l) .i64 k Tryd.underlying9, dif_pos ⟨by omega, by rw [strB_size]; omega⟩]
  have key : ∀ (i : Nat) (hi : i < (strB l).size), i = k → (strB l)[i] = c := by
    rintro i hi rfl
    have h2 : (strB l).data[i]? = some c := by show l.toArray[i]? = some c; simpa using h
    exact (Array.getElem?_eq_some_iff.1 h2).2
  rw [key _ _ (by omega)]
theorem run_mid {l : List UInt8} {i j : Nat} (hi : i ≤ j) (hj : j ≤ l.length) (kx ky : IntKind) (x y : Int) (hx : x = (i : Int)) (hy : y = (j : Int)) (w : World) :
    (Instr.slice 9 (.string (strB l)) (some (.int kx x)) (some (.int ky y)) none).run Tryd.prog w = .ok (.string (strB ((l.drop i).take (j - i)))) w := by
  subst hx hy
  rw [run_slice_string w 9 (strB l) kx ky (i : Int) (j : Int) Tryd.underlying9 (by omega) (by omega) (by rw [strB_size]; omega)]
  have e : (strB l).extract i j = strB ((l.drop i).take (j - i)) := by
    apply ByteArray.ext
    apply Array.toList_inj.1
    simp [strB, ByteArray.data_extract]
  show Result.ok (Value.string ((strB l).extract ((i : Int)).toNat ((j : Int)).toNat)) w = _
  rw [show ((i : Int)).toNat = i by omega, show ((j : Int)).toNat = j by omega, e]
theorem run_cut1 {l : List UInt8} {k : Nat} {c : UInt8} (h : l[k]? = some c) (x y : Int) (hx : x = (k : Int)) (hy : y = (k : Int) + 1) (w : World) :
    (Instr.slice 9 (.string (strB l)) (some (.int .i64 x)) (some (.int .i64 y)) none).run Tryd.prog w = .ok (.string (strB [c])) w := by
  have hk : k < l.length := (List.getElem?_eq_some_iff.1 h).1
  rw [run_mid (i := k) (j := k + 1) (by omega) hk .i64 .i64 x y hx (by omega) w, show k + 1 - k = 1 by omega]
  have : (l.drop k).take 1 = [c] := by
    rw [List.drop_eq_getElem_cons hk]
    have := (List.getElem?_eq_some_iff.1 h).2
    simp [this]
  rw [this]
theorem run_from {l : List UInt8} {k : Nat} (hk : k ≤ l.length) (x : Int) (hx : x = (k : Int)) (w : World) :
    (Instr.slice 9 (.string (strB l)) (some (.int .i64 x)) none none).run Tryd.prog w = .ok (.string (strB (l.drop k))) w := by
  subst hx
  rw [run_slice_string_from_if (P := Tryd.prog) (w := w) 9 (strB l) .i64 (k : Int) Tryd.underlying9, if_pos ⟨by omega, by rw [strB_size]; omega⟩]
  show Result.ok (Value.string ((strB l).extract ((k : Int)).toNat (strB l).size)) w = _
  rw [show ((k : Int)).toNat = k by omega, strB_size, strB_drop]
theorem run_upto {l : List UInt8} {k : Nat} (hk : k ≤ l.length) (x : Int) (hx : x = (k : Int)) (w : World) :
    (Instr.slice 9 (.string (strB l)) none (some (.int .i64 x)) none).run Tryd.prog w = .ok (.string (strB (l.take k))) w := by
  subst hx
  rw [run_slice_string_to_if (P := Tryd.prog) (w := w) 9 (strB l) .i64 (k : Int) Tryd.underlying9, if_pos ⟨by omega, by rw [strB_size]; omega⟩]
  show Result.ok (Value.string ((strB l).extract 0 ((k : Int)).toNat)) w = _
  rw [show ((k : Int)).toNat = k by omega, strB_take]

/-! ### is a byte one of some? -/
theorem in_any (l : List UInt8) (c : UInt8) (hl : l.length ≤ 1000) (w : World) :
    Calls Tryd.prog 22 #[.int .u8 (c.toNat : Int), .string (strB l)] w fun e w' => e = .returned (.bool (l.contains c)) ∧ w' = w := by
  obtain ⟨N, hN⟩ : ∃ N, l.length = N := ⟨_, rfl⟩
  have hsz : (strB l).size = N := by rw [strB_size, hN]
  have HN := keepHid hN
  obtain ⟨n, hn⟩ : ∃ n, c.toNat = n := ⟨_, rfl⟩
  have hn' := keepHid hn
  have hlt : n < 256 := by rw [← hn]; exact c.toNat_lt
  have HE : Hid ((l.drop N).contains c = false) := keepHid (by rw [List.drop_of_length_le (by omega)]; rfl)
  have HS : Hid (∀ k d, l[k]? = some d → (l.drop k).contains c = (decide (d.toNat = n) || (l.drop (k + 1)).contains c)) := keepHid (fun k d h => by
    obtain ⟨hk, hd⟩ := List.getElem?_eq_some_iff.1 h
    rw [List.drop_eq_getElem_cons hk, List.contains_cons, hd]
    congr 1
    rw [Bool.eq_iff_iff, beq_iff_eq, decide_eq_true_eq, ← hn]
    exact ⟨fun h => by rw [h], fun h => UInt8.toNat_inj.1 h.symm⟩)
  have HA : Hid ((l.drop 0).contains c = l.contains c) := keepHid (by rw [List.drop_zero])
  have hNb : N ≤ 1000 := by omega
  rw [hn]
  generalize l.contains c = b at HA ⊢
  clear hN hn hl
  go_enter Tryd.func22, Tryd.ntmps22
  go_wp2
  go_loop [5] (fun v => ∃ k : Nat, k ≤ N ∧ v = .int .i64 k ∧ (l.drop k).contains c = b) (fun v => N - (intOf v).toNat)
  case atStart => exact ⟨0, Nat.zero_le _, rfl, HA.out⟩
  case round =>
    obtain ⟨k, hk, rfl, hc⟩ := hrel
    have HC := keepHid hc
    clear hc
    rcases Nat.lt_or_ge k N with hkN | hkN
    · obtain ⟨d, hd⟩ : ∃ d, l[k]? = some d := ⟨_, List.getElem?_eq_getElem (by rw [HN.out]; exact hkN)⟩
      have hidx := fun w => run_idx hd k rfl w
      have HD := keepHid (HS.out k d hd)
      obtain ⟨m, hm⟩ : ∃ m, d.toNat = m := ⟨_, rfl⟩
      rw [hm] at hidx HD
      have hk' : (k : Int) < (N : Int) := by omega
      clear hd hm
      by_cases he : m = n
      · have he' : (m : Int) = (n : Int) := by omega
        go_wp2
        go_ret
        exact ⟨ret_bool (by rw [← HC.out, HD.out]; simp [he]), rfl⟩
      · have he' : ¬ (m : Int) = (n : Int) := by omega
        go_wp2
        go_round
        case rel => exact ⟨k + 1, by omega, by go_num, by rw [← HC.out, HD.out]; simp [he]⟩
        case measure => simp [intOf]; omega
    · obtain rfl : k = N := by omega
      go_wp2
      go_ret
      exact ⟨ret_bool (by rw [← HC.out, HE.out]), rfl⟩

theorem value_any (c : UInt8) (h : c.toNat ≤ 57 ∧ 48 ≤ c.toNat ∨ 97 ≤ c.toNat ∧ c.toNat ≤ 102) (w : World) :
    Calls Tryd.prog 34 #[.int .u8 (c.toNat : Int)] w fun e w' => e = .returned (.int .u64 (dgt c : Int)) ∧ w' = w := by
  have HD : Hid ((dgt c : Int) = if (c.toNat : Int) ≤ 57 then (c.toNat : Int) - 48 else (c.toNat : Int) - 87) := keepHid (by
    unfold dgt
    by_cases h1 : c.toNat ≤ 57
    · rw [if_pos h1, if_pos (by omega)]; omega
    · rw [if_neg h1, if_neg (by omega)]; omega)
  obtain ⟨n, hn⟩ : ∃ n, c.toNat = n := ⟨_, rfl⟩
  generalize (dgt c : Int) = d at *
  rw [hn] at h HD ⊢
  clear hn
  by_cases h1 : n ≤ 57
  · have h2 : (n : Int) ≤ 57 := by omega
    have h3 : (48 : Int) ≤ (n : Int) := by omega
    go_enter Tryd.func34, Tryd.ntmps34
    go_wp2
    go_ret
    exact ⟨ret_int (by rw [HD.out, if_pos h2]; try omega), rfl⟩
  · have h2 : ¬ (n : Int) ≤ 57 := by omega
    have h3 : (97 : Int) ≤ (n : Int) := by omega
    have h4 : (n : Int) ≤ 102 := by omega
    go_enter Tryd.func34, Tryd.ntmps34
    go_wp2
    go_ret
    exact ⟨ret_int (by rw [HD.out, if_neg (by omega)]; try omega), rfl⟩
end Go.Proofs.YtgokejoieafgiaaDoor
