/-
  The printer of bytes that come in parts, and the print of bytes.
-/
import Derived.Test.YtonloefjhofeeaaGreatDoorChecked
import Derived.Test.YtonloefjhofeeaaGreatDoorSumPlain
import Derived.WalkKit
import Derived.ProofKit
import Derived.WalkLawsBesides
import Derived.IntWalk
import Derived.RegionTactic
import Derived.BigRegion
import Derived.ChangeAlike
import Derived.Deep.QuietTactic
import Derived.BigQuiet
import Derived.Outline
namespace Go.Proofs.YtonloefjhofeeaaGreatDoor
open Go.RowKit
set_option linter.unusedVariables false

/-- A printer lies in block g. -/
def Prn (w : World) (g : Nat) (x : Nat × Nat) : Prop := Blk w g 86 #[.int .u32 (x.1 : Int), .int .u32 (x.2 : Int)]

theorem write_any (g : Nat) (x : Nat × Nat) (A : Option Addr) (n c B : Nat) (bs : List UInt8) (w : World) (hx : x.1 < 65521 ∧ x.2 < 65521) (hp : Prn w g x) (h : Bys w B A n bs) (hB : B ≤ g) :
    Calls Tryz.prog 41 #[.pointer (some ⟨g, 0, none⟩), .slice A n c] w fun e w' => e = .returned (.tuple #[]) ∧ Prn w' g (bs.foldl pStep x) ∧ Only g w w' := by
  have hm := h.max
  have hgl := Blk.lt hp
  go_enter Tryz.func41, Tryz.ntmps41
  go_wp2
  go_loopw [8] (fun i wr => ∃ k : Nat, k ≤ n ∧ i = .int .i64 k ∧ Prn wr g ((bs.take k).foldl pStep x) ∧ Only g w wr) (fun i _ => n - (intOf i).toNat)
  case atStart => exact ⟨0, Nat.zero_le _, rfl, hp, Only.refl _ _⟩
  case round =>
    obtain ⟨k, hk, rfl, hpr, hon⟩ := hrel
    have hbr := h.only hon hB (by omega)
    by_cases hlt : k < n
    · obtain ⟨ad, y, rfl, hadb, hy, hc⟩ := hbr.at_ hlt
      have HS := keepHid (fold_take pStep x bs k y hy)
      clear hy
      have hq := prF_lt (bs.take k) x hx
      generalize (bs.take k).foldl pStep x = q at *
      obtain ⟨s, t⟩ := q
      simp only at hq
      have h2 := u8lt y
      have hc0 : wr.cell? ⟨g, 0, none⟩ = some (.int .u32 (s : Int)) := Blk.cell hpr 0
      have hc1 : wr.cell? ⟨g, 1, none⟩ = some (.int .u32 (t : Int)) := Blk.cell hpr 1
      have hf0 : wr.frozen? ⟨g, 0, none⟩ = false := Blk.frozen hpr 0
      have hf1 : wr.frozen? ⟨g, 1, none⟩ = false := Blk.frozen hpr 1
      have HP := keepHid hpr
      have HO := keepHid hon
      clear hpr hon hbr h hp
      go_wp2
      go_region
      all_goals
        go_wp2
        go_roundw
        case rel =>
          refine ⟨k + 1, by omega, by go_num, ?_, ?_⟩
          · rw [HS.out]
            have hb := ((Blk.put HP.out 0 (.int .u32 (((s : Int) + (y.toNat : Int)) % 65521))).put 1 (.int .u32 (((t : Int) + ((s : Int) + (y.toNat : Int)) % 65521 + 1) % 65521))).drew
            simpa [Prn, pStep, pS] using hb
          · exact ((HO.out.setCell (.inl rfl) _).setCell (.inl rfl) _).drew
        case measure => simp [intOf]; omega
    · have e : bs.take k = bs := List.take_of_length_le (by rw [h.len]; omega)
      rw [e] at hpr
      clear e h
      go_wp2
      go_end0
      exact ⟨rfl, hpr, hon⟩

theorem sum_any (g : Nat) (x : Nat × Nat) (w : World) (hx : x.1 < 65521 ∧ x.2 < 65521) (hp : Prn w g x) :
    Calls Tryz.prog 42 #[.pointer (some ⟨g, 0, none⟩)] w fun e w' => e = .returned (.int .u32 (prNum x : Nat)) ∧ ∃ m, w' = w.drewN m := by
  obtain ⟨s, t⟩ := x
  simp only at hx
  have hc0 : w.cell? ⟨g, 0, none⟩ = some (.int .u32 (s : Int)) := Blk.cell hp 0
  have hc1 : w.cell? ⟨g, 1, none⟩ = some (.int .u32 (t : Int)) := Blk.cell hp 1
  clear hp
  go_enter Tryz.func42, Tryz.ntmps42
  go_wp2
  go_quiet (fail)
  go_wp2
  go_ret
  exact ⟨rfl, nq, rfl⟩

theorem print_any (A : Option Addr) (n c : Nat) (bs : List UInt8) (w : World) (h : Bys w w.heap.size A n bs) :
    Calls Tryz.prog 25 #[.slice A n c] w fun e w' => e = .returned (.int .u32 (prNum (prL bs) : Nat)) ∧ Below w.heap.size w w' := by
  go_enter Tryz.func25, Tryz.ntmps25
  go_wp2_with fail
  refine (write_any w.heap.size (0, 0) _ _ _ w.heap.size bs _ (by omega) (Blk.new w _ _) (h.alloc (Nat.le_refl _) _) (Nat.le_refl _)).mono ?_
  rintro e w1 ⟨rfl, hp, ho⟩
  go_wp2_with fail
  refine (sum_any w.heap.size _ _ (pr_lt bs) hp).mono ?_
  rintro e w2 ⟨rfl, m, rfl⟩
  go_wp2
  go_ret
  refine ⟨rfl, ?_⟩
  have hb : Below w.heap.size w w1 := ((Below.refl _ _).alloc (Nat.le_refl _) _).trans (ho.below (Nat.le_refl _) (by simp))
  exact ⟨hb.os, hb.tape, hb.output, hb.size, hb.block⟩
end Go.Proofs.YtonloefjhofeeaaGreatDoor
