/-
  A text, quoted: the contract of package regex's Quote.
-/
import Derived.Test.YtgidoieppplhpaaRegexRead
import Derived.Test.YtgidoieppplhpaaBuilder
import Derived.Test.YtgidoieppplhpaaShelf
import Derived.WalkKit
import Derived.ProofKit
import Derived.WalkLawsBesides
import Derived.IntWalk
import Derived.RegionTactic
import Derived.BigCall
import Derived.Outline
namespace Go.Proofs.Ytgidoieppplhpaa
open Go.RowKit
set_option linter.unusedVariables false

/-- The bytes that a pattern wants quoted. -/
def spcL : List UInt8 := [40, 41, 91, 93, 46, 42, 43, 63, 124, 92]
def spc (c : UInt8) : Bool := spcL.contains c
def quo1 (c : UInt8) : List UInt8 := if spc c then [92, c] else [c]
def quo : List UInt8 → List UInt8
  | [] => []
  | c :: r => quo1 c ++ quo r
theorem quo_append : ∀ (a b : List UInt8), quo (a ++ b) = quo a ++ quo b
  | [], b => rfl
  | c :: r, b => by
    show quo1 c ++ quo (r ++ b) = (quo1 c ++ quo r) ++ quo b
    rw [quo_append r b, List.append_assoc]
theorem quo1_len (c : UInt8) : (quo1 c).length ≤ 2 := by unfold quo1; split <;> simp
theorem quo_len : ∀ (l : List UInt8), (quo l).length ≤ 2 * l.length
  | [] => by simp [quo]
  | c :: r => by
    have h1 := quo1_len c
    have h2 := quo_len r
    simp only [quo, List.length_append, List.length_cons]
    omega
theorem take_snoc {l : List UInt8} {k : Nat} {c : UInt8} (h : l[k]? = some c) : l.take (k + 1) = l.take k ++ [c] := by
  have hk : k < l.length := (List.getElem?_eq_some_iff.1 h).1
  rw [List.take_add_one, h]; rfl
theorem quo_take {l : List UInt8} {k : Nat} {c : UInt8} (h : l[k]? = some c) : quo (l.take (k + 1)) = quo (l.take k) ++ quo1 c := by
  rw [take_snoc h, quo_append]
  show quo (l.take k) ++ (quo1 c ++ []) = _
  rw [List.append_nil]
theorem ix_all : ∀ n : Fin 256, decide (0 ≤ Lib.indexByte spcL (UInt8.ofNat n.val)) = spc (UInt8.ofNat n.val) := by decide +kernel
theorem ix_spc (c : UInt8) : decide (0 ≤ Lib.indexByte spcL c) = spc c := by
  have h := ix_all ⟨c.toNat, u8lt c⟩
  have e : UInt8.ofNat c.toNat = c := by simp
  simp only [e] at h
  exact h
theorem special_any (c : UInt8) (w : World) : Calls Try.prog 19 #[.string ⟨#[40, 41, 91, 93, 46, 42, 43, 63, 124, 92]⟩, .int .u8 (c.toNat : Int)] w fun e w' => (∃ z : Int, e = .returned (.int .i64 z) ∧ decide (0 ≤ z) = spc c) ∧ w' = w :=
  (Try.strings_IndexByte _ _ w).mono fun e w' ⟨he, hw⟩ => ⟨⟨_, he, by
    have : ((c.toNat : Int)).toNat.toUInt8 = c := by simp
    rw [this]; exact ix_spc c⟩, hw⟩
abbrev Bld (w : World) (b : Nat) (l : List UInt8) : Prop := Lib.IsBuilderF 60 5 b b (Lib.byteCells l) w
theorem write_any (b : Nat) (l : List UInt8) (c : UInt8) (w : World) (h : Bld w b l) (hl : l.length + 1 ≤ 140737488355328) (hb : b ≤ w.heap.size) :
    Calls Try.prog 20 #[.pointer (some ⟨b, 0, none⟩), .int .u8 (c.toNat : Int)] w fun e w' => e = .returned .nilIface ∧ Bld w' b (l ++ [c]) ∧ Below b w w' :=
  (writeByte_any b b _ _ w h (by rw [Lib.byteCells_length]; exact hl) hb).mono fun e w' ⟨he, h1, h2, _⟩ => ⟨he, by
    show Lib.IsBuilderF _ _ b b (Lib.byteCells (l ++ [c])) w'
    rw [Lib.byteCells_append]; exact Or.inr h1, h2⟩
theorem write_92 (b : Nat) (l : List UInt8) (w : World) (h : Bld w b l) (hl : l.length + 1 ≤ 140737488355328) (hb : b ≤ w.heap.size) :
    Calls Try.prog 20 #[.pointer (some ⟨b, 0, none⟩), .int .u8 92] w fun e w' => e = .returned .nilIface ∧ Bld w' b (l ++ [92]) ∧ Below b w w' := write_any b l 92 w h hl hb
theorem btext_any (b : Nat) (l : List UInt8) (w : World) (h : Bld w b l) (hb : b ≤ w.heap.size) :
    Calls Try.prog 21 #[.pointer (some ⟨b, 0, none⟩)] w fun e w' => e = .returned (.string (strB l)) ∧ Below b w w' :=
  (Try.Builder_String_any_k b b l w h hb).mono fun e w' ⟨he, _, h2, _⟩ => ⟨he, h2⟩
set_option maxHeartbeats 2000000 in
theorem quote_any (l : List UInt8) (w : World) (hl : l.length ≤ 1099511627776) :
    Calls Try.prog 9 #[.string (strB l)] w fun e w' => e = .returned (.string (strB (quo l))) ∧ Below w.heap.size w w' := by
  obtain ⟨w1, hw1⟩ : ∃ w1, w.alloc (.cells #[.pointer none, .slice none 0 0] 60) = w1 := ⟨_, rfl⟩
  have HI1 : Hid (Bld w1 w.heap.size (quo (l.take 0))) := keepHid (by rw [← hw1]; exact Lib.IsBuilderF.of (Lib.fresh_isBuilder _ _ w))
  have HB1 : Hid (Below w.heap.size w w1) := keepHid (by rw [← hw1]; exact (Below.refl _ w).alloc (Nat.le_refl _) _)
  obtain ⟨N, hN⟩ : ∃ N, l.length = N := ⟨_, rfl⟩
  have hsz : (strB l).size = N := by rw [strB_size, hN]
  have HL := keepHid hl
  rw [hN] at HL
  have HN := keepHid hN
  have hNb : N ≤ 1099511627776 := HL.out
  clear hl hN
  go_enter Try.func9, Try.ntmps9
  go_wp2_with fail
  try rw [hw1]
  clear hw1
  go_loopw [7] (fun iv wr => ∃ k : Nat, k ≤ N ∧ iv = .int .i64 (k : Int) ∧ Bld wr w.heap.size (quo (l.take k)) ∧ Below w.heap.size w wr) (fun iv _ => N - (intOf iv).toNat)
  case atStart => exact ⟨0, Nat.zero_le _, rfl, HI1.out, HB1.out⟩
  case round =>
    obtain ⟨k, hk, rfl, hi, hb⟩ := hrel
    have HI := keepHid hi
    have HB := keepHid hb
    have HQ : Hid (w.heap.size ≤ wr.heap.size) := keepHid hb.size
    by_cases hlt : k < N
    · obtain ⟨c, hc⟩ : ∃ c, l[k]? = some c := ⟨_, List.getElem?_eq_getElem (by rw [HN.out]; exact hlt)⟩
      have hix := run_idx hc (k : Int) rfl
      have HT := keepHid (quo_take hc)
      have HLQ : Hid ((quo (l.take k)).length + 2 ≤ 140737488355328) := keepHid (by
        have h1 := quo_len (l.take k)
        have h2 : (l.take k).length ≤ k := by simp; omega
        omega)
      have HSP := keepHid (special_any c wr)
      have HW1 := keepHid (fun w' h1 h2 => write_any w.heap.size (quo (l.take k)) c w' h1 (by have := HLQ.out; omega) h2)
      have HW0 := keepHid (fun w' h1 h2 => write_92 w.heap.size (quo (l.take k)) w' h1 (by have := HLQ.out; omega) h2)
      have HW2 := keepHid (fun w' h1 h2 => write_any w.heap.size (quo (l.take k) ++ [92]) c w' h1 (by have := HLQ.out; simp; omega) h2)
      have hk' : (k : Int) < (N : Int) := by omega
      obtain ⟨y, hy⟩ : ∃ y, c.toNat = y := ⟨_, rfl⟩
      rw [hy] at hix HSP HW1 HW2
      clear hc hi hb hy
      go_wp2_with fail
      with_reducible refine HSP.out.mono ?_
      rintro e w' ⟨⟨z, rfl, hz⟩, rfl⟩
      cases hs : spc c
      · have hz0 : z < 0 := by rw [hs] at hz; simpa using hz
        have HE : Hid (quo (l.take (k + 1)) = quo (l.take k) ++ [c]) := keepHid (by rw [HT.out]; unfold quo1; rw [hs]; rfl)
        clear hz hs
        go_wp2_with fail
        refine (HW1.out _ HI.out HQ.out).mono ?_
        rintro e w2 ⟨rfl, hi2, hb2⟩
        have HI2 := keepHid hi2
        have HB2 : Hid (Below w.heap.size w w2) := keepHid (HB.out.trans hb2)
        clear hi2 hb2
        go_wp2
        go_roundw
        case rel => exact ⟨k + 1, by omega, by go_num, by rw [HE.out]; exact HI2.out, HB2.out⟩
        case measure => simp [intOf]; omega
      · have hz0 : 0 ≤ z := by rw [hs] at hz; simpa using hz
        have HE : Hid (quo (l.take (k + 1)) = (quo (l.take k) ++ [92]) ++ [c]) := keepHid (by rw [HT.out]; unfold quo1; rw [hs]; simp)
        clear hz hs
        go_wp2_with fail
        refine (HW0.out _ HI.out HQ.out).mono ?_
        rintro e w2 ⟨rfl, hi2, hb2⟩
        have HI2 := keepHid hi2
        have HQ2 : Hid (w.heap.size ≤ w2.heap.size) := keepHid (Nat.le_trans HQ.out hb2.size)
        have HB2 : Hid (Below w.heap.size w w2) := keepHid (HB.out.trans hb2)
        clear hi2 hb2
        go_wp2_with fail
        refine (HW2.out _ HI2.out HQ2.out).mono ?_
        rintro e w3 ⟨rfl, hi3, hb3⟩
        have HI3 := keepHid hi3
        have HB3 : Hid (Below w.heap.size w w3) := keepHid (HB2.out.trans hb3)
        clear hi3 hb3
        go_wp2
        go_roundw
        case rel => exact ⟨k + 1, by omega, by go_num, by rw [HE.out]; exact HI3.out, HB3.out⟩
        case measure => simp [intOf]; omega
    · obtain rfl : k = N := by omega
      have hall : l.take k = l := List.take_of_length_le (by rw [HN.out]; exact Nat.le_refl _)
      rw [hall] at HI
      have HS := keepHid (btext_any w.heap.size (quo l) wr HI.out HQ.out)
      clear hi hb
      go_wp2_with fail
      refine HS.out.mono ?_
      rintro e w2 ⟨rfl, hb2⟩
      have HB2 : Hid (Below w.heap.size w w2) := keepHid (HB.out.trans hb2)
      go_wp2
      go_ret
      exact ⟨rfl, HB2.out⟩
end Go.Proofs.Ytgidoieppplhpaa
