/-
  The reader of patterns: a letter, a range.
-/
import Derived.Test.YtlmjijejgfhmmaaRegexTake
import Derived.Test.YtlmjijejgfhmmaaRegexEnds
import Derived.WalkKit
import Derived.ProofKit
import Derived.WalkLawsBesides
import Derived.IntWalk
import Derived.RegionTactic
import Derived.BigRegion
import Derived.ChangeAlike
import Derived.Deep.QuietTactic
import Derived.BigQuiet
import Derived.Deep.RegionHeld3
import Derived.Deep.DrawnRows
import Derived.Outline
namespace Go.Proofs.Ytlmjijejgfhmmaa
open Go.RowKit
set_option linter.unusedVariables false


theorem Went.trans {g d : Nat} {bs r r' : List UInt8} {w w1 w2 : World} (h : Only g w w1) (k : Went g bs d r' w1 w2) : Went g bs d r' w w2 := ⟨k.at_, h.trans k.only⟩
def LetPost (g : Nat) (bs : List UInt8) (d : Nat) (l : List UInt8) (w : World) (e : Ending) (w' : World) : Prop :=
  ∃ (v : Nat) (ok : Bool), e = .returned (.tuple #[.int .u8 (v : Int), .bool ok]) ∧ v < 256 ∧ (ok = true → ∃ c : UInt8, c.toNat = v ∧ (letF l).1 = some c) ∧ (ok = false → (letF l).1 = none) ∧ Went g bs d (letF l).2 w w'
theorem letF_nil {l : List UInt8} (h : (if nx 92 l then l.tail else l) = []) : letF l = (none, l) := by unfold letF; rw [h]
theorem letF_cons {l r : List UInt8} {c : UInt8} (h : (if nx 92 l then l.tail else l) = c :: r) : letF l = (some c, r) := by unfold letF; rw [h]
set_option maxHeartbeats 1000000 in
theorem letter_any {g i d : Nat} {bs : List UInt8} {w : World} (h : Ps w g bs i d) :
    Calls Try.prog 63 #[.pointer (some ⟨g, 0, none⟩)] w (LetPost g bs d (bs.drop i) w) := by
  have HT := keepHid (take_any h 92 92 rfl)
  have HP := keepHid h
  obtain ⟨c0, c1, c2, cf⟩ := h.cells
  have HM := keepHid h.max
  clear h
  go_enter Try.func63, Try.ntmps63
  go_wp2_with fail
  refine HT.out.mono ?_
  rintro e w1 ⟨rfl, ⟨⟨j, hj, hp1⟩, ho1⟩⟩
  clear c0 c1 c2 cf HT
  have HJ := keepHid hj
  have HD := keepHid (done_any hp1)
  have HP1 := keepHid hp1
  have HO1 := keepHid ho1
  clear hj ho1 hp1
  rcases Nat.lt_or_ge j bs.length with hlt | hge
  · obtain ⟨x, hx, hdr⟩ := head_of hlt
    have he : (bs.drop j).isEmpty = false := by rw [hdr]; rfl
    have HL := keepHid (letF_cons (HJ.out.symm.trans hdr))
    have HX := keepHid (u8lt x)
    have hix := fun w => run_idx hx (j : Int) rfl w
    have hm : bs.length ≤ 64 := HM.out
    have hxx : (x.toNat : Int) = (x.toNat : Int) := rfl
    rw [he] at HD
    clear hdr he HJ hx
    go_wp2_with fail
    refine HD.out.mono ?_
    rintro e w' ⟨rfl, m, rfl⟩
    have HP2 := keepHid (HP1.out.drewN m)
    have HO2 := keepHid (HO1.out.drewN m)
    generalize w1.drewN m = w2 at *
    obtain ⟨c0, c1, c2, cf⟩ := HP2.out.cells
    have hsz : (strB bs).size = bs.length := strB_size bs
    generalize strB bs = S at *
    obtain ⟨y, hy⟩ : ∃ y, x.toNat = y := ⟨_, rfl⟩
    have HY := keepHid hy
    rw [hy] at hix
    clear hy hxx
    go_wp2_with fail
    go_quiet (fail)
    go_wp2
    go_ret2
    refine ⟨y, true, rfl, ?_, fun _ => ⟨x, HY.out, by rw [HL.out]⟩, (fun h => by cases h), ⟨j + 1, by rw [HL.out], ?_⟩, ?_⟩
    · rw [← HY.out]; exact HX.out
    · have := (HP2.out.drewN nq).put (j + 1) hlt
      simpa using this
    · exact (HO2.out.drewN nq).setCell (.inl rfl) _
  · have he : (bs.drop j).isEmpty = true := by rw [List.drop_eq_nil_of_le hge]; rfl
    have HL := keepHid (letF_nil (HJ.out.symm.trans (List.drop_eq_nil_of_le hge)))
    rw [he] at HD
    clear he HJ hge
    go_wp2_with fail
    refine HD.out.mono ?_
    rintro e w' ⟨rfl, m, rfl⟩
    have HP2 := keepHid (HP1.out.drewN m)
    have HO2 := keepHid (HO1.out.drewN m)
    generalize w1.drewN m = w2 at *
    obtain ⟨c0, c1, c2, cf⟩ := HP2.out.cells
    go_wp2
    go_ret2
    refine ⟨0, false, rfl, by omega, (fun h => by cases h), (fun _ => by rw [HL.out]), ⟨i, by rw [HL.out], HP2.out.put i HP.out.le⟩, HO2.out.setCell (.inl rfl) _⟩
end Go.Proofs.Ytlmjijejgfhmmaa
