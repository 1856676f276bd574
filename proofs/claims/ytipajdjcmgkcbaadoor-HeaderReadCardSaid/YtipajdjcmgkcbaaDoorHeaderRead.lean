/-
  What 'Read' makes of bytes: the file whose own they are, or none.
-/
import Derived.Test.YtipajdjcmgkcbaaDoorHeaderGuess
import Derived.Test.YtipajdjcmgkcbaaDoorHeaderEq
import Derived.Test.YtipajdjcmgkcbaaDoorBytesEqual
import Derived.WalkKit
import Derived.ProofKit
import Derived.WalkLawsBesides
import Derived.IntWalk
import Derived.RegionTactic
import Derived.BigRegion
import Derived.ChangeAlike
import Derived.Deep.QuietTactic
import Derived.BigQuiet
import Derived.Deep.RegionHeld3
import Derived.Deep.DrawnRows
import Derived.Outline
namespace Go.Proofs.YtipajdjcmgkcbaaDoor
open Go.RowKit
set_option linter.unusedVariables false

def fl0 : Fl := ⟨[], 0, 0, 0⟩
/-- What 'Read' answers. -/
structure Reads (bs : List UInt8) (f : Fl) (ok : Bool) : Prop where
  fits : Fits f
  yes : ok = true → May f ∧ bs = encL f
  no : ok = false → f = fl0 ∧ ∀ g, May g → bs ≠ encL g
def ReadPost (bs : List UInt8) (w : World) (e : Ending) (w' : World) : Prop :=
  (∃ f ok, e = .returned (.tuple #[flV f, .bool ok]) ∧ Reads bs f ok) ∧ Below w.heap.size w w'
theorem fits0 : Fits fl0 := ⟨by show 0 ≤ _; omega, by show _ ∧ _; exact ⟨by show _ ≤ (0 : Int); omega, by show (0 : Int) ≤ _; omega⟩, by exact ⟨by show _ ≤ (0 : Int); omega, by show (0 : Int) ≤ _; omega⟩, by exact ⟨by show _ ≤ (0 : Int); omega, by show (0 : Int) ≤ _; omega⟩⟩

/-- The result's block is read at the return. -/
theorem ret_file (w : World) (g : Nat) (f : Fl) (tmps : Array Value) (hb : Blk w g 23 (flCells f)) (h4 : tmps.getD 2 undef = .pointer (some ⟨g, 0, none⟩)) :
    (results Tryd.f12 tmps).run Tryd.prog w = .ok (.tuple #[flV f, tmps.getD 3 undef]) w := by
  have q0 : w.cell? ⟨g, 0, none⟩ = some (.string (strB f.name)) := hb.cell 0
  have q1 : w.cell? ⟨g, 1, none⟩ = some (.int .i64 f.size) := hb.cell 1
  have q2 : w.cell? ⟨g, 2, none⟩ = some (.int .i64 f.time) := hb.cell 2
  have q3 : w.cell? ⟨g, 3, none⟩ = some (.int .i64 f.mode) := hb.cell 3
  rw [results_cell_tmp (p := 2) (u := 3) (ty := 23) rfl, h4]
  simp [go_sem, q0, q1, q2, q3, flV, flCells]

set_option maxHeartbeats 4000000 in
theorem read_any (A : Option Addr) (n c : Nat) (bs : List UInt8) (w : World) (h : Bys w w.heap.size A n bs) (hT : Tabs w) (hE : Errs w) :
    Calls Tryd.prog 12 #[.slice A n c] w (ReadPost bs w) := by
  have hln := h.len
  obtain ⟨w1, hw1⟩ : ∃ w1, w.alloc (.cells #[.string ⟨#[]⟩, .int .i64 0, .int .i64 0, .int .i64 0] 23) = w1 := ⟨_, rfl⟩
  have hk1 : Blk w1 w.heap.size 23 (flCells fl0) := by rw [← hw1]; exact Blk.new _ _ _
  have hb1 : Below w.heap.size w w1 := by rw [← hw1]; exact (Below.refl _ _).alloc (Nat.le_refl _) _
  have HK1 := keepHid hk1
  have HB1 := keepHid hb1
  by_cases hn : n = 128
  · subst hn
    have hcv := run_str (P := Tryd.prog) (c := c) 24 5 9 Tryd.underlying24 Tryd.underlying5 Tryd.underlying9 (h.below hb1)
    have HY1 := keepHid (h.below hb1)
    have HT1 := keepHid (hT.below hb1 (Nat.le_refl _))
    have HE1 := keepHid (hE.below hb1 (Nat.le_refl _))
    have HLN := keepHid hln
    clear h hln hT hE hb1
    go_enter Tryd.func12, Tryd.ntmps12
    go_wp2_with fail
    refine (guess_any bs (by rw [HLN.out]; omega) _ HE1.out).mono ?_
    rintro e w2 ⟨⟨f, rfl, hfit, hnm, hspec⟩, hb2⟩
    have HK2 := keepHid (HK1.out.below hb2 HK1.out.lt)
    have HB2 := keepHid (HB1.out.trans (hb2.mono HB1.out.size))
    have HT2 := keepHid (HT1.out.below hb2 (Nat.le_refl _))
    have hs12 := hb2.size
    have hs1 : w.heap.size < w1.heap.size := HK1.out.lt
    have HY2 := keepHid (HY1.out.below (hb2.mono (Nat.le_of_lt hs1)))
    have HSP := keepHid hspec
    have HFIT := keepHid hfit
    clear hw1 hcv hb2 hspec hfit hk1 hnm
    obtain ⟨l, a, b, d⟩ := f
    unfold flV flCells
    dsimp only
    obtain ⟨w3, hw3⟩ : ∃ w3, w2.alloc (.cells #[.string (strB l), .int .i64 a, .int .i64 b, .int .i64 d] 23) = w3 := ⟨_, rfl⟩
    have hk3 : Blk w3 w2.heap.size 23 (flCells ⟨l, a, b, d⟩) := by rw [← hw3]; exact Blk.new _ _ _
    have hb3 : Below w2.heap.size w2 w3 := by rw [← hw3]; exact (Below.refl _ _).alloc (Nat.le_refl _) _
    have HW3 := keepHid hw3
    have HK3 := keepHid hk3
    have HB3 := keepHid (HB2.out.trans (hb3.mono HB2.out.size))
    have HR3 := keepHid (HK2.out.below hb3 HK2.out.lt)
    have HT3 := keepHid (HT2.out.below hb3 (Nat.le_refl _))
    have HY3 := keepHid (HY2.out.below (hb3.mono (by omega)))
    have fa3 := fileAt_blk hk3
    have hc0 := fa3.c0; have hc1 := fa3.c1; have hc2 := fa3.c2; have hc3 := fa3.c3
    clear hw3 hk3 hb3 fa3
    go_wp2_with (go_at_call 11; fail)
    rw [HW3.out]
    refine (make_any ⟨l, a, b, d⟩ HFIT.out.name _ HT3.out).mono ?_
    rintro e w4 ⟨⟨A4, n4, c4, E4, rfl, hy4, hn4, hc4, he4⟩, hb4⟩
    have HY4 := keepHid (HY3.out.below (hb4.mono (by have := HK3.out.lt; omega)))
    have HF4 := keepHid ((fileAt_blk HK3.out).below hb4 HK3.out.lt)
    have HR4 := keepHid (HR3.out.below hb4 HR3.out.lt)
    have HB4 := keepHid (HB3.out.trans (hb4.mono HB3.out.size))
    have HEQ := keepHid (equal_any A4 A n4 128 c4 c _ _ E4 bs w4 hy4 HY4.out)
    have HYES : Hid (mayB ⟨l, a, b, d⟩ = true → E4 = bs → Reads bs ⟨l, a, b, d⟩ true) := keepHid fun h1 h2 =>
      ⟨HFIT.out, fun _ => ⟨(mayB_iff _).1 h1, by rw [← h2, he4, if_pos h1]⟩, fun h => by cases h⟩
    have HNO : Hid ((mayB ⟨l, a, b, d⟩ = true → E4 ≠ bs) → Reads bs fl0 false) := keepHid fun h1 =>
      ⟨fits0, (fun h => by cases h), fun _ => ⟨rfl, fun g hg he => by
        have hfg := HSP.out g hg he
        have hm : mayB ⟨l, a, b, d⟩ = true := by rw [hfg]; exact (mayB_iff _).2 hg
        exact h1 hm (by rw [he4, if_pos hm, hfg, he])⟩⟩
    obtain ⟨p, hp⟩ : ∃ p, mayB ⟨l, a, b, d⟩ = p := ⟨_, rfl⟩
    obtain ⟨q, hq⟩ : ∃ q, decide (E4 = bs) = q := ⟨_, rfl⟩
    rw [hp] at HYES HNO ⊢
    rw [hq] at HEQ
    have HQ := keepHid hq
    have fa4 := HF4.out
    have fr4 := fileAt_blk HR4.out
    clear hc0 hc1 hc2 hc3 hy4 he4 hb4 hp hq hn4 hc4
    have hc0 := fa4.c0; have hc1 := fa4.c1; have hc2 := fa4.c2; have hc3 := fa4.c3
    have hr0 := fr4.c0; have hr1 := fr4.c1; have hr2 := fr4.c2; have hr3 := fr4.c3
    have hf0 := HR4.out.frozen 0; have hf1 := HR4.out.frozen 1; have hf2 := HR4.out.frozen 2; have hf3 := HR4.out.frozen 3
    clear fa4 fr4
    cases p
    · have HNO2 := keepHid (HNO.out (fun h => by cases h))
      go_wp2
      refine bodyPost_ret (ret_file _ w.heap.size fl0 _ (put4 HR4.out) rfl) rfl ?_
      exact ⟨⟨fl0, false, rfl, HNO2.out⟩, below_put4 HB4.out (Nat.le_refl _) _ _ _ _⟩
    · cases q
      · have HNO2 := keepHid (HNO.out (fun _ h => by have := HQ.out; rw [decide_eq_true h] at this; cases this))
        go_wp2_with (refine HEQ.out.mono ?_; rintro e w' ⟨rfl, rfl⟩)
        refine bodyPost_ret (ret_file _ w.heap.size fl0 _ (put4 HR4.out) rfl) rfl ?_
        exact ⟨⟨fl0, false, rfl, HNO2.out⟩, below_put4 HB4.out (Nat.le_refl _) _ _ _ _⟩
      · have HYES2 := keepHid (HYES.out rfl (of_decide_eq_true HQ.out))
        go_wp2_with (refine HEQ.out.mono ?_; rintro e w' ⟨rfl, rfl⟩)
        refine bodyPost_ret (ret_file _ w.heap.size ⟨l, a, b, d⟩ _ (put4 HR4.out) rfl) rfl ?_
        exact ⟨⟨⟨l, a, b, d⟩, true, rfl, HYES2.out⟩, below_put4 HB4.out (Nat.le_refl _) _ _ _ _⟩
  · have hne : ((n : Int) == 128) = false := by simp; omega
    have HNO : Hid (Reads bs fl0 false) := keepHid ⟨fits0, (fun h => by cases h), fun _ => ⟨rfl, fun g hg he => by rw [he, enc_len hg] at hln; omega⟩⟩
    have fa := fileAt_blk hk1
    have hc0 := fa.c0; have hc1 := fa.c1; have hc2 := fa.c2; have hc3 := fa.c3
    have hf0 := hk1.frozen 0; have hf1 := hk1.frozen 1; have hf2 := hk1.frozen 2; have hf3 := hk1.frozen 3
    clear h hln hk1 hb1 hT hE fa
    go_enter Tryd.func12, Tryd.ntmps12
    go_wp2
    refine bodyPost_ret (ret_file _ w.heap.size fl0 _ (put4 HK1.out) rfl) rfl ?_
    exact ⟨⟨fl0, false, rfl, HNO.out⟩, below_put4 HB1.out (Nat.le_refl _) _ _ _ _⟩
end Go.Proofs.YtipajdjcmgkcbaaDoor
