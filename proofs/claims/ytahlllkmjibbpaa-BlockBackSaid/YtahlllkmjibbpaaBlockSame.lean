/-
  What the law's own helper 'same' answers of rows that read alike.
-/
import Derived.Test.YtahlllkmjibbpaaBlockNumber
import Derived.Test.YtahlllkmjibbpaaBlockTake
namespace Go.Proofs.Ytahlllkmjibbpaa
open Go.RowKit
set_option linter.unusedVariables false

theorem RowsB.drewN {w : World} {A : Option Addr} {n : Nat} {rows : List (List UInt8)} (h : RowsB w A n rows) (m : Nat) : RowsB (w.drewN m) A n rows := h
theorem drewN_drewN (w : World) (a b : Nat) : ∃ c, (w.drewN a).drewN b = w.drewN c := ⟨a + b, by simp [World.drewN, Nat.add_assoc]⟩
set_option maxHeartbeats 4000000 in
theorem same_any (A B : Option Addr) (n c1 c2 : Nat) (rows : List (List UInt8)) (w : World) (hA : RowsB w A n rows) (hB : RowsB w B n rows) (hn : n ≤ 9223372036854775807) :
    Calls Try.prog 18 #[.slice A n c1, .slice B n c2] w fun e w' => e = .returned (.bool true) ∧ ∃ m, w' = w.drewN m := by
  have HA := keepHid hA
  have HB := keepHid hB
  clear hA hB
  go_enter Try.func18, Try.ntmps18
  go_wp2
  go_loopw [13] (fun i wr => ∃ k : Nat, k ≤ n ∧ i = .int .i64 k ∧ RowsB wr A n rows ∧ RowsB wr B n rows ∧ ∃ m, wr = w.drewN m) (fun i _ => n - (intOf i).toNat)
  case atStart => exact ⟨0, Nat.zero_le _, rfl, HA.out, HB.out, 0, rfl⟩
  case round =>
    obtain ⟨k, hk, rfl, hA, hB, m, hm⟩ := hrel
    have HM := keepHid hm
    have HA1 := keepHid hA
    have HB1 := keepHid hB
    clear hm hA hB
    by_cases hlt : k < n
    · obtain ⟨bs, hrow⟩ : ∃ bs, rows[k]? = some bs := ⟨_, List.getElem?_eq_getElem (by rw [HA1.out.1]; exact hlt)⟩
      obtain ⟨ad, Ak, ck, rfl, had, hc0, hlc, hcm, hby⟩ := HA1.out.2 k bs hrow
      obtain ⟨bd, Bk, dk, rfl, hbd, hc1, hld, hdm, hbz⟩ := HB1.out.2 k bs hrow
      have hcv1 : ∀ a, (convert 22 9 (.slice Ak bs.length ck)).run Try.prog (wr.drewN a) = .ok (.string (strB bs)) (wr.drewN a) := fun a => run_str 22 5 9 Try.underlying22 Try.underlying5 Try.underlying9 (hby.drewN a)
      have hcv2 : ∀ a, (convert 22 9 (.slice Bk bs.length dk)).run Try.prog (wr.drewN a) = .ok (.string (strB bs)) (wr.drewN a) := fun a => run_str 22 5 9 Try.underlying22 Try.underlying5 Try.underlying9 (hbz.drewN a)
      generalize bs.length = nb at *
      clear hrow hby hbz
      go_wp2
      go_quiet (fail)
      go_wp2
      go_roundw
      case rel => exact ⟨k + 1, by omega, by go_num, HA1.out, HB1.out, by rw [HM.out]; exact drewN_drewN w m nq⟩
      case measure => simp [intOf]; omega
    · go_wp2
      go_ret
      exact ⟨rfl, m, HM.out⟩
end Go.Proofs.Ytahlllkmjibbpaa
