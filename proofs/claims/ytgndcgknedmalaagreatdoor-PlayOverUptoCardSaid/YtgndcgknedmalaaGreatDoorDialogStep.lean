/-
  Package dialog's parser: a step.
-/
import Derived.Test.YtgndcgknedmalaaGreatDoorDialogTake
import Derived.Test.YtgndcgknedmalaaGreatDoorTokenCut
import Derived.BigQuiet
namespace Go.Proofs.YtgndcgknedmalaaGreatDoor
open Go.RowKit
set_option linter.unusedVariables false

theorem Par.set {w : World} {g gt S i : Nat} {s : PS} (h : Par w g gt s) (h1 : S ≠ g) (h2 : S ≠ gt) (v : Value) : Par (w.setCell ⟨S, i, none⟩ v) g gt s := by
  obtain ⟨OFF, m, c, h⟩ := h
  exact ⟨OFF, m, c, h.far (by simp [World.setCell]) (Below.heap_setCell _ _ _ _ (Ne.symm h1)) (Below.heap_setCell _ _ _ _ (Ne.symm h2))⟩
theorem OwnA.set {w : World} {base n S i : Nat} {v : Value} {zs : List Ar} (h : OwnA w base v n zs) (hS : S < base) (u : Value) : OwnA (w.setCell ⟨S, i, none⟩ u) base v n zs :=
  own_keep h fun j hj _ => Below.heap_setCell _ _ _ _ (by have := (h.lt hj).1; show j ≠ S; omega)
/-- A step on its way: its block S, the result's block G. -/
structure Sx (w0 w : World) (G S g gt : Nat) (cs : Array Value) (s : PS) : Prop where
  blk : Blk w S 26 cs
  zer : Blk w G 26 #[.string ⟨#[]⟩, .int .i64 0, .string ⟨#[]⟩, .slice none 0 0, .int .i64 0, .string ⟨#[]⟩, .int .i64 0]
  par : Par w g gt s
  one : OneG g w0 w
  sg : S ≠ g
  st : S ≠ gt
  gg : G ≠ g
  gt_ : G ≠ gt
  gs : G ≠ S
  low : w0.heap.size ≤ G
  lows : w0.heap.size ≤ S
theorem Sx.call {w0 w w' : World} {G S g gt : Nat} {cs : Array Value} {s s' : PS} (h : Sx w0 w G S g gt cs s) (hp : Par w' g gt s') (ho : OneG g w w') : Sx w0 w' G S g gt cs s' :=
  ⟨ho.blk h.blk h.sg, ho.blk h.zer h.gg, hp, h.one.trans ho, h.sg, h.st, h.gg, h.gt_, h.gs, h.low, h.lows⟩
theorem Sx.set {w0 w : World} {G S g gt : Nat} {cs : Array Value} {s : PS} (h : Sx w0 w G S g gt cs s) (i : Nat) (v : Value) : Sx w0 (w.setCell ⟨S, i, none⟩ v) G S g gt (cs.setIfInBounds i v) s :=
  ⟨h.blk.put i v, (Below.heap_setCell _ _ _ _ h.gs).trans h.zer, h.par.set h.sg h.st v, h.one.setCell (.inr h.lows) v, h.sg, h.st, h.gg, h.gt_, h.gs, h.low, h.lows⟩
theorem put7 {w : World} {g : Nat} {t : TypeId} {a b c d e f h p q r s u v x : Value} (hb : Blk w g t #[a, b, c, d, e, f, h]) :
    Blk (((((((w.setCell ⟨g, 0, none⟩ p).setCell ⟨g, 1, none⟩ q).setCell ⟨g, 2, none⟩ r).setCell ⟨g, 3, none⟩ s).setCell ⟨g, 4, none⟩ u).setCell ⟨g, 5, none⟩ v).setCell ⟨g, 6, none⟩ x) g t #[p, q, r, s, u, v, x] := by
  have h0 : Blk (w.setCell ⟨g, 0, none⟩ p) g t #[p, b, c, d, e, f, h] := hb.put 0 p
  have h1 : Blk ((w.setCell ⟨g, 0, none⟩ p).setCell ⟨g, 1, none⟩ q) g t #[p, q, c, d, e, f, h] := h0.put 1 q
  have h2 : Blk (((w.setCell ⟨g, 0, none⟩ p).setCell ⟨g, 1, none⟩ q).setCell ⟨g, 2, none⟩ r) g t #[p, q, r, d, e, f, h] := h1.put 2 r
  have h3 : Blk ((((w.setCell ⟨g, 0, none⟩ p).setCell ⟨g, 1, none⟩ q).setCell ⟨g, 2, none⟩ r).setCell ⟨g, 3, none⟩ s) g t #[p, q, r, s, e, f, h] := h2.put 3 s
  have h4 : Blk (((((w.setCell ⟨g, 0, none⟩ p).setCell ⟨g, 1, none⟩ q).setCell ⟨g, 2, none⟩ r).setCell ⟨g, 3, none⟩ s).setCell ⟨g, 4, none⟩ u) g t #[p, q, r, s, u, f, h] := h3.put 4 u
  have h5 : Blk ((((((w.setCell ⟨g, 0, none⟩ p).setCell ⟨g, 1, none⟩ q).setCell ⟨g, 2, none⟩ r).setCell ⟨g, 3, none⟩ s).setCell ⟨g, 4, none⟩ u).setCell ⟨g, 5, none⟩ v) g t #[p, q, r, s, u, v, h] := h4.put 5 v
  exact h5.put 6 x
theorem far7 {w : World} {g i : Nat} (hi : i ≠ g) (p q r s u v x : Value) :
    (((((((w.setCell ⟨g, 0, none⟩ p).setCell ⟨g, 1, none⟩ q).setCell ⟨g, 2, none⟩ r).setCell ⟨g, 3, none⟩ s).setCell ⟨g, 4, none⟩ u).setCell ⟨g, 5, none⟩ v).setCell ⟨g, 6, none⟩ x).heap[i]? = w.heap[i]? :=
  (Below.heap_setCell _ _ _ _ hi).trans ((Below.heap_setCell _ _ _ _ hi).trans ((Below.heap_setCell _ _ _ _ hi).trans ((Below.heap_setCell _ _ _ _ hi).trans ((Below.heap_setCell _ _ _ _ hi).trans ((Below.heap_setCell _ _ _ _ hi).trans (Below.heap_setCell _ _ _ _ hi))))))
theorem turn_put7 {S : Nat → Prop} {w0 w : World} {g : Nat} (h : Turn S w0 w) (hg : w0.heap.size ≤ g) (p q r s u v x : Value) :
    Turn S w0 (((((((w.setCell ⟨g, 0, none⟩ p).setCell ⟨g, 1, none⟩ q).setCell ⟨g, 2, none⟩ r).setCell ⟨g, 3, none⟩ s).setCell ⟨g, 4, none⟩ u).setCell ⟨g, 5, none⟩ v).setCell ⟨g, 6, none⟩ x) :=
  ((((((h.setCell (p := ⟨g, 0, none⟩) (.inr hg) p).setCell (p := ⟨g, 1, none⟩) (.inr hg) q).setCell (p := ⟨g, 2, none⟩) (.inr hg) r).setCell (p := ⟨g, 3, none⟩) (.inr hg) s).setCell (p := ⟨g, 4, none⟩) (.inr hg) u).setCell (p := ⟨g, 5, none⟩) (.inr hg) v).setCell (p := ⟨g, 6, none⟩) (.inr hg) x
theorem Par.put7 {w : World} {g gt b : Nat} {sx : PS} (h : Par w g gt sx) (h1 : b ≠ g) (h2 : b ≠ gt) (p q r s u v x : Value) :
    Par (((((((w.setCell ⟨b, 0, none⟩ p).setCell ⟨b, 1, none⟩ q).setCell ⟨b, 2, none⟩ r).setCell ⟨b, 3, none⟩ s).setCell ⟨b, 4, none⟩ u).setCell ⟨b, 5, none⟩ v).setCell ⟨b, 6, none⟩ x) g gt sx := by
  obtain ⟨OFF, m, c, h⟩ := h
  exact ⟨OFF, m, c, h.far (by simp [World.setCell]) (far7 (Ne.symm h1) _ _ _ _ _ _ _) (far7 (Ne.symm h2) _ _ _ _ _ _ _)⟩
theorem OwnA.put7 {w : World} {base n b : Nat} {a : Value} {zs : List Ar} (h : OwnA w base a n zs) (hb : b < base) (p q r s u v x : Value) :
    OwnA (((((((w.setCell ⟨b, 0, none⟩ p).setCell ⟨b, 1, none⟩ q).setCell ⟨b, 2, none⟩ r).setCell ⟨b, 3, none⟩ s).setCell ⟨b, 4, none⟩ u).setCell ⟨b, 5, none⟩ v).setCell ⟨b, 6, none⟩ x) base a n zs :=
  own_keep h fun j hj _ => far7 (by have := (h.lt hj).1; omega) _ _ _ _ _ _ _
theorem sizeS : (Tryz.prog.info? 26).map (·.size) = some 7 := by kernel_rfl
theorem bod0 (l : List UInt8) (p : Nat) (s : PS) : bodP l p 0 s = (⟨l, 0, (takP 3 s).1.text, [], 0, [], (p : Int)⟩, (takP 3 s).2) := rfl
theorem bod1 (l : List UInt8) (p : Nat) (s : PS) : bodP l p 1 s = expP l p s := rfl
theorem bod2 (l : List UInt8) (p : Nat) (s : PS) : bodP l p 2 s = (⟨l, 2, [], [], 0, (takP 1 s).1.text, (p : Int)⟩, (takP 1 s).2) := rfl
theorem bod3 (l : List UInt8) (p : Nat) (s : PS) : bodP l p 3 s = (⟨l, 3, [], [], ((numP 9 s).1 : Int), (tgtP (numP 9 s).2).1, (p : Int)⟩, (tgtP (numP 9 s).2).2) := rfl
theorem bod4 (l : List UInt8) (p : Nat) (s : PS) : bodP l p 4 s = (⟨l, 4, [], [], 0, [], (p : Int)⟩, s) := rfl
theorem bod5 (l : List UInt8) (p : Nat) (s : PS) : bodP l p 5 s = (⟨l, 5, [], [], 0, [], (p : Int)⟩, s) := rfl
theorem exp_1 (l : List UInt8) (p : Nat) (s : PS) : (expP l p s).1 = ⟨l, 1, [], (armsP s).1, ((numP 99 (mustP 1 dAfter (armsP s).2)).1 : Int), (tgtP (numP 99 (mustP 1 dAfter (armsP s).2)).2).1, (p : Int)⟩ := by dsimp only [expP]
theorem exp_2 (l : List UInt8) (p : Nat) (s : PS) : (expP l p s).2 = (tgtP (numP 99 (mustP 1 dAfter (armsP s).2)).2).2 := by dsimp only [expP]
theorem kind_lt {t : List UInt8} {k : Nat} (h : kindOf t = some k) : k < 6 := by
  unfold kindOf at h
  split at h
  · cases h; decide
  · split at h
    · cases h; decide
    · split at h
      · cases h; decide
      · split at h
        · cases h; decide
        · split at h
          · cases h; decide
          · split at h
            · cases h; decide
            · cases h
theorem kin_lt (s : PS) : (kinP s).1 < 6 := by
  cases h : kindOf (takP 1 s).1.text with
  | none => rw [kin_none h]; exact Nat.zero_lt_succ 5
  | some k => rw [kin_some h]; exact kind_lt h
theorem two_of {s : PS} (h : Ended s.ts) (hk : (hdP s).kind ≠ 0) : 1 < s.ts.length := by
  obtain ⟨ts, e⟩ := s
  cases ts with
  | nil => have := h.pos; simp at this
  | cons t r =>
    have := (h.cons hk).pos
    simp; omega
/-- What a step leaves. -/
def DStepPost (s : PS) (g gt : Nat) (w : World) (e : Ending) (w' : World) : Prop :=
  ∃ av m, e = .returned (.agg (stA (stpP s).1 av)) ∧ OwnA w' w.heap.size av m (stpP s).1.arms ∧ Par w' g gt (stpP s).2 ∧ OneG g w w'
set_option maxRecDepth 100000 in
set_option maxHeartbeats 16000000 in
theorem dstep_any (s : PS) (g gt : Nat) (hk0 : (hdP s).kind ≠ 0) (w : World) (hP : Par w g gt s) :
    Calls Tryz.prog 25 #[.pointer (some ⟨g, 0, none⟩)] w (DStepPost s g gt w) := by
  have h2 := two_of hP.ended hk0
  have hgl := hP.lt
  have htl := hP.tlt
  obtain ⟨w1, hw1⟩ : ∃ w1, w.alloc (.cells #[.string ⟨#[]⟩, .int .i64 0, .string ⟨#[]⟩, .slice none 0 0, .int .i64 0, .string ⟨#[]⟩, .int .i64 0] 26) = w1 := ⟨_, rfl⟩
  have hK1 : Blk w1 w.heap.size 26 #[.string ⟨#[]⟩, .int .i64 0, .string ⟨#[]⟩, .slice none 0 0, .int .i64 0, .string ⟨#[]⟩, .int .i64 0] := by rw [← hw1]; exact Blk.new w _ _
  have hB1 : Below w.heap.size w w1 := by rw [← hw1]; exact (Below.refl _ _).alloc (Nat.le_refl _) _
  have hz1 : w1.heap.size = w.heap.size + 1 := by rw [← hw1]; simp
  have hp1 := hP.below hB1
  obtain ⟨w2, hw2⟩ : ∃ w2, w1.alloc (.cells #[.string ⟨#[]⟩, .int .i64 0, .string ⟨#[]⟩, .slice none 0 0, .int .i64 0, .string ⟨#[]⟩, .int .i64 ((hdP s).pos : Int)] 26) = w2 := ⟨_, rfl⟩
  have hK2 : Blk w2 w1.heap.size 26 #[.string ⟨#[]⟩, .int .i64 0, .string ⟨#[]⟩, .slice none 0 0, .int .i64 0, .string ⟨#[]⟩, .int .i64 ((hdP s).pos : Int)] := by rw [← hw2]; exact Blk.new w1 _ _
  have hB2 : Below w1.heap.size w1 w2 := by rw [← hw2]; exact (Below.refl _ _).alloc (Nat.le_refl _) _
  have HX2 : Hid (Sx w w2 w.heap.size w1.heap.size g gt #[.string ⟨#[]⟩, .int .i64 0, .string ⟨#[]⟩, .slice none 0 0, .int .i64 0, .string ⟨#[]⟩, .int .i64 ((hdP s).pos : Int)] s) :=
    keepHid ⟨hK2, hK1.below hB2 hK1.lt, hp1.below hB2, Turn.of_below (hB1.trans (hB2.mono hB1.size)), by omega, by omega, by omega, by omega, by omega, Nat.le_refl _, by omega⟩
  obtain ⟨OFF, m, c, hin⟩ := hp1
  have c0 : w1.cell? ⟨g, 0, none⟩ = some (.slice (some ⟨gt, OFF, none⟩) m c) := hin.blk.cell 0
  obtain ⟨_, _, _, a3, hm⟩ := hin.first
  have HLB := keepHid (fun w' h => lab_any s g gt h2 w' h)
  have HKI := keepHid (fun w' h => kin_any (labP s).2 g gt w' h)
  have HLT := keepHid (kin_lt (labP s).2)
  have HR1 := keepHid (stp_1 s)
  have HR2 := keepHid (stp_2 s)
  unfold DStepPost
  generalize stpP s = R at *
  generalize kinP (labP s).2 = K at *
  generalize labP s = LS at *
  obtain ⟨k, s2⟩ := K
  obtain ⟨L, s1⟩ := LS
  dsimp only at *
  obtain ⟨P, hPP⟩ : ∃ P, (hdP s).pos = P := ⟨_, rfl⟩
  rw [hPP] at HX2 HR1 HR2 a3 hw2
  clear hP h2 hgl htl hK1 hB1 hz1 hK2 hB2 hin hk0 hPP
  generalize hG : w.heap.size = G at *
  generalize hS : w1.heap.size = S at *
  generalize hLL : strB L = LB at *
  have HLL := keepHid hLL
  go_enter Tryz.func25, Tryz.ntmps25
  go_wp2_with fail
  try rw [hw1]
  try rw [hw2]
  clear hw1 hw2 c0 a3 hLL
  refine (HLB.out _ HX2.out.par).mono ?_
  rintro e w3 ⟨rfl, hp3, ho3⟩
  have hx3 := HX2.out.call hp3 ho3
  have b0 := hx3.blk.cell 0
  have bf := hx3.blk.frozen 0
  obtain ⟨w4, hw4⟩ : ∃ w4, w3.setCell ⟨S, 0, none⟩ (.string LB) = w4 := ⟨_, rfl⟩
  have HX4 := keepHid (hx3.set 0 (.string LB))
  rw [hw4] at HX4
  simp at b0 HX4
  clear hp3 ho3 hx3
  go_wp2_with fail
  try rw [hw4]
  clear hw4 b0 bf
  refine (HKI.out _ HX4.out.par).mono ?_
  rintro e w5 ⟨rfl, hp5, ho5⟩
  have hx5 := HX4.out.call hp5 ho5
  have b1 := hx5.blk.cell 1
  have bf := hx5.blk.frozen 1
  obtain ⟨w6, hEw6⟩ : ∃ w6, w5.setCell ⟨S, 1, none⟩ (.int .i64 (k : Int)) = w6 := ⟨_, rfl⟩
  have HX6 := keepHid (hx5.set 1 (.int .i64 (k : Int)))
  rw [hEw6] at HX6
  simp at b1 HX6
  have d1 : w6.cell? ⟨S, 1, none⟩ = some (.int .i64 (k : Int)) := HX6.out.blk.cell 1
  have HS6 : Hid (S < w6.heap.size ∧ G < w6.heap.size ∧ g < w6.heap.size) := keepHid ⟨HX6.out.blk.lt, HX6.out.zer.lt, HX6.out.par.lt⟩
  clear hp5 ho5 hx5
  rcases (by have := HLT.out; omega : k = 0 ∨ k = 1 ∨ k = 2 ∨ k = 3 ∨ k = 4 ∨ k = 5) with rfl | rfl | rfl | rfl | rfl | rfl
  · rw [bod0] at HR1 HR2
    dsimp only at HR1 HR2
    rw [show ((0 : Nat) : Int) = 0 from rfl] at *
    have HAR : Hid (R.1.arms = []) := keepHid (by rw [HR1.out])
    have HT := keepHid (fun w' h => (show Calls Tryz.prog 41 #[.pointer (some ⟨g, 0, none⟩), .int .i64 3] w' _ from dtake_any 3 (by decide) s2 g gt w' h))
    have HV : Hid (Value.agg (stA R.1 (.slice none 0 0)) = .agg #[.string LB, .int .i64 0, .string (strB (takP 3 s2).1.text), .slice none 0 0, .int .i64 0, .string ⟨#[]⟩, .int .i64 (P : Int)]) := keepHid (by rw [HR1.out, ← HLL.out]; rfl)
    generalize takP 3 s2 = t1 at *
    generalize hXT : strB t1.1.text = XT at *
    have hfl := run_fld
    go_wp2_with fail
    try rw [hEw6]
    try clear hEw6
    refine (HT.out _ HX6.out.par).mono ?_
    rintro e w7 ⟨rfl, hp, ho⟩
    have HX7 := keepHid (HX6.out.call hp ho)
    clear hp ho
    rw [tkV_is, hXT]
    have b2 := HX7.out.blk.cell 2
    have bf2 := HX7.out.blk.frozen 2
    simp at b2
    obtain ⟨w8, hEw8⟩ : ∃ w', w7.setCell ⟨S, 2, none⟩ (.string XT) = w' := ⟨_, rfl⟩
    have HX8 := keepHid (HX7.out.set 2 (.string XT))
    rw [hEw8] at HX8
    simp at HX8
    have HO6 : Hid (OwnA w8 w6.heap.size (.slice none 0 0) 0 []) := keepHid (OwnA.nil _ _)
    have HM := keepHid (fun w' h => (show Calls Tryz.prog 43 #[.pointer (some ⟨g, 0, none⟩), .int .i64 4, .string ⟨#[59]⟩] w' _ from must_any 4 (by decide) [59] (t1.2) g gt w' h))
    go_wp2_with fail
    try rw [hEw8]
    try clear hEw8
    refine (HM.out _ HX8.out.par).mono ?_
    rintro e wM ⟨rfl, hpM, hoM⟩
    have hxM := HX8.out.call hpM hoM
    have e0 := hxM.blk.cell 0; have e1 := hxM.blk.cell 1; have e2 := hxM.blk.cell 2; have e3 := hxM.blk.cell 3; have e4 := hxM.blk.cell 4; have e5 := hxM.blk.cell 5; have e6 := hxM.blk.cell 6
    have z0 := hxM.zer.cell 0; have z1 := hxM.zer.cell 1; have z2 := hxM.zer.cell 2; have z3 := hxM.zer.cell 3; have z4 := hxM.zer.cell 4; have z5 := hxM.zer.cell 5; have z6 := hxM.zer.cell 6
    have f0 := hxM.zer.frozen 0; have f1 := hxM.zer.frozen 1; have f2 := hxM.zer.frozen 2; have f3 := hxM.zer.frozen 3; have f4 := hxM.zer.frozen 4; have f5 := hxM.zer.frozen 5; have f6 := hxM.zer.frozen 6
    simp at e0 e1 e2 e3 e4 e5 e6 z0 z1 z2 z3 z4 z5 z6
    have HXM := keepHid hxM
    have HOM := keepHid (HO6.out.turn hoM (fun i hi => by rw [hi]; exact HS6.out.2.2))
    clear hpM hoM hxM d1
    go_wp2
    refine bodyPost_ret (results_cell_row (p := 2) (ty := 26) rfl _ _ G 26 #[.string LB, .int .i64 0, .string XT, .slice none 0 0, .int .i64 0, .string ⟨#[]⟩, .int .i64 (P : Int)] (0, 0) _ rfl (put7 HXM.out.zer) Tryz.underlying26 rfl sizeS) rfl ?_
    exact ⟨.slice none 0 0, 0, by rw [HV.out], by rw [HAR.out]; exact (HOM.out.put7 HS6.out.2.1 _ _ _ _ _ _ _).low (Nat.le_of_lt HS6.out.2.1), by rw [HR2.out]; exact HXM.out.par.put7 HXM.out.gg HXM.out.gt_ _ _ _ _ _ _ _, turn_put7 HXM.out.one HXM.out.low _ _ _ _ _ _ _⟩
  · rw [bod1, exp_1] at HR1
    rw [bod1, exp_2] at HR2
    rw [show ((1 : Nat) : Int) = 1 from rfl] at *
    have HAR : Hid (R.1.arms = (armsP s2).1) := keepHid (by rw [HR1.out])
    have HT := keepHid (fun w' h => (show Calls Tryz.prog 42 #[.pointer (some ⟨g, 0, none⟩)] w' _ from arms_any s2 g gt w' h))
    generalize armsP s2 = t1 at *
    obtain ⟨ar, s3⟩ := t1
    dsimp only at *
    have HF := keepHid (fun w' h => (show Calls Tryz.prog 43 #[.pointer (some ⟨g, 0, none⟩), .int .i64 1, .string ⟨#[97, 102, 116, 101, 114]⟩] w' _ from must_any 1 (by decide) dAfter s3 g gt w' h))
    generalize mustP 1 dAfter s3 = s4 at *
    have HN := keepHid (fun w' h => (show Calls Tryz.prog 44 #[.pointer (some ⟨g, 0, none⟩), .int .i64 99] w' _ from num_any 99 s4 g gt w' h))
    generalize numP 99 s4 = t2 at *
    obtain ⟨n2, s5⟩ := t2
    dsimp only at *
    have HG := keepHid (fun w' h => (show Calls Tryz.prog 45 #[.pointer (some ⟨g, 0, none⟩)] w' _ from tgt_any s5 g gt w' h))
    generalize tgtP s5 = t3 at *
    obtain ⟨d3, s6⟩ := t3
    dsimp only at *
    go_wp2_with fail
    try rw [hEw6]
    try clear hEw6
    refine (HT.out _ HX6.out.par).mono ?_
    rintro e w7 ⟨⟨av, mm, rfl, hoa⟩, hp, ho⟩
    have HX7 := keepHid (HX6.out.call hp ho)
    have HO7 := keepHid hoa
    clear hoa
    clear hp ho
    obtain ⟨A7, c7, rfl, _, _⟩ := HO7.out.form
    have b3 := HX7.out.blk.cell 3
    have bf3 := HX7.out.blk.frozen 3
    simp at b3
    obtain ⟨w8, hEw8⟩ : ∃ w', w7.setCell ⟨S, 3, none⟩ (.slice A7 mm c7) = w' := ⟨_, rfl⟩
    have HX8 := keepHid (HX7.out.set 3 (.slice A7 mm c7))
    rw [hEw8] at HX8
    simp at HX8
    have HO8 : Hid (OwnA w8 w6.heap.size (.slice A7 mm c7) mm ar) := keepHid (by rw [← hEw8]; exact HO7.out.set HS6.out.1 _)
    go_wp2_with fail
    try rw [hEw8]
    try clear hEw8
    refine (HF.out _ HX8.out.par).mono ?_
    rintro e w9 ⟨rfl, hp, ho⟩
    have HX9 := keepHid (HX8.out.call hp ho)
    have HO9 := keepHid (HO8.out.turn ho (fun i hi => by rw [hi]; exact HS6.out.2.2))
    clear hp ho
    go_wp2_with fail
    try rw [hEw9]
    try clear hEw9
    refine (HN.out _ HX9.out.par).mono ?_
    rintro e wA ⟨rfl, hp, ho⟩
    have HXA := keepHid (HX9.out.call hp ho)
    have HOA := keepHid (HO9.out.turn ho (fun i hi => by rw [hi]; exact HS6.out.2.2))
    clear hp ho
    have b4 := HXA.out.blk.cell 4
    have bf4 := HXA.out.blk.frozen 4
    simp at b4
    obtain ⟨wB, hEwB⟩ : ∃ w', wA.setCell ⟨S, 4, none⟩ (.int .i64 (n2 : Int)) = w' := ⟨_, rfl⟩
    have HXB := keepHid (HXA.out.set 4 (.int .i64 (n2 : Int)))
    rw [hEwB] at HXB
    simp at HXB
    have HOB : Hid (OwnA wB w6.heap.size (.slice A7 mm c7) mm ar) := keepHid (by rw [← hEwB]; exact HOA.out.set HS6.out.1 _)
    go_wp2_with fail
    try rw [hEwB]
    try clear hEwB
    refine (HG.out _ HXB.out.par).mono ?_
    rintro e wC ⟨rfl, hp, ho⟩
    have HXC := keepHid (HXB.out.call hp ho)
    have HOC := keepHid (HOB.out.turn ho (fun i hi => by rw [hi]; exact HS6.out.2.2))
    clear hp ho
    have HV : Hid (Value.agg (stA R.1 (.slice A7 mm c7)) = .agg #[.string LB, .int .i64 1, .string ⟨#[]⟩, .slice A7 mm c7, .int .i64 (n2 : Int), .string (strB d3), .int .i64 (P : Int)]) := keepHid (by rw [HR1.out, ← HLL.out]; rfl)
    generalize strB d3 = DD at *
    have b5 := HXC.out.blk.cell 5
    have bf5 := HXC.out.blk.frozen 5
    simp at b5
    obtain ⟨wD, hEwD⟩ : ∃ w', wC.setCell ⟨S, 5, none⟩ (.string DD) = w' := ⟨_, rfl⟩
    have HXD := keepHid (HXC.out.set 5 (.string DD))
    rw [hEwD] at HXD
    simp at HXD
    have HOD : Hid (OwnA wD w6.heap.size (.slice A7 mm c7) mm ar) := keepHid (by rw [← hEwD]; exact HOC.out.set HS6.out.1 _)
    have HM := keepHid (fun w' h => (show Calls Tryz.prog 43 #[.pointer (some ⟨g, 0, none⟩), .int .i64 4, .string ⟨#[59]⟩] w' _ from must_any 4 (by decide) [59] (s6) g gt w' h))
    go_wp2_with fail
    try rw [hEwD]
    try clear hEwD
    refine (HM.out _ HXD.out.par).mono ?_
    rintro e wM ⟨rfl, hpM, hoM⟩
    have hxM := HXD.out.call hpM hoM
    have e0 := hxM.blk.cell 0; have e1 := hxM.blk.cell 1; have e2 := hxM.blk.cell 2; have e3 := hxM.blk.cell 3; have e4 := hxM.blk.cell 4; have e5 := hxM.blk.cell 5; have e6 := hxM.blk.cell 6
    have z0 := hxM.zer.cell 0; have z1 := hxM.zer.cell 1; have z2 := hxM.zer.cell 2; have z3 := hxM.zer.cell 3; have z4 := hxM.zer.cell 4; have z5 := hxM.zer.cell 5; have z6 := hxM.zer.cell 6
    have f0 := hxM.zer.frozen 0; have f1 := hxM.zer.frozen 1; have f2 := hxM.zer.frozen 2; have f3 := hxM.zer.frozen 3; have f4 := hxM.zer.frozen 4; have f5 := hxM.zer.frozen 5; have f6 := hxM.zer.frozen 6
    simp at e0 e1 e2 e3 e4 e5 e6 z0 z1 z2 z3 z4 z5 z6
    have HXM := keepHid hxM
    have HOM := keepHid (HOD.out.turn hoM (fun i hi => by rw [hi]; exact HS6.out.2.2))
    clear hpM hoM hxM d1
    go_wp2
    refine bodyPost_ret (results_cell_row (p := 2) (ty := 26) rfl _ _ G 26 #[.string LB, .int .i64 1, .string ⟨#[]⟩, .slice A7 mm c7, .int .i64 (n2 : Int), .string DD, .int .i64 (P : Int)] (0, 0) _ rfl (put7 HXM.out.zer) Tryz.underlying26 rfl sizeS) rfl ?_
    exact ⟨.slice A7 mm c7, mm, by rw [HV.out], by rw [HAR.out]; exact (HOM.out.put7 HS6.out.2.1 _ _ _ _ _ _ _).low (Nat.le_of_lt HS6.out.2.1), by rw [HR2.out]; exact HXM.out.par.put7 HXM.out.gg HXM.out.gt_ _ _ _ _ _ _ _, turn_put7 HXM.out.one HXM.out.low _ _ _ _ _ _ _⟩
  · rw [bod2] at HR1 HR2
    dsimp only at HR1 HR2
    rw [show ((2 : Nat) : Int) = 2 from rfl] at *
    have HAR : Hid (R.1.arms = []) := keepHid (by rw [HR1.out])
    have HT := keepHid (fun w' h => (show Calls Tryz.prog 41 #[.pointer (some ⟨g, 0, none⟩), .int .i64 1] w' _ from dtake_any 1 (by decide) s2 g gt w' h))
    have HV : Hid (Value.agg (stA R.1 (.slice none 0 0)) = .agg #[.string LB, .int .i64 2, .string ⟨#[]⟩, .slice none 0 0, .int .i64 0, .string (strB (takP 1 s2).1.text), .int .i64 (P : Int)]) := keepHid (by rw [HR1.out, ← HLL.out]; rfl)
    generalize takP 1 s2 = t1 at *
    generalize hXT : strB t1.1.text = XT at *
    have hfl := run_fld
    go_wp2_with fail
    try rw [hEw6]
    try clear hEw6
    refine (HT.out _ HX6.out.par).mono ?_
    rintro e w7 ⟨rfl, hp, ho⟩
    have HX7 := keepHid (HX6.out.call hp ho)
    clear hp ho
    rw [tkV_is, hXT]
    have b5 := HX7.out.blk.cell 5
    have bf5 := HX7.out.blk.frozen 5
    simp at b5
    obtain ⟨w8, hEw8⟩ : ∃ w', w7.setCell ⟨S, 5, none⟩ (.string XT) = w' := ⟨_, rfl⟩
    have HX8 := keepHid (HX7.out.set 5 (.string XT))
    rw [hEw8] at HX8
    simp at HX8
    have HO6 : Hid (OwnA w8 w6.heap.size (.slice none 0 0) 0 []) := keepHid (OwnA.nil _ _)
    have HM := keepHid (fun w' h => (show Calls Tryz.prog 43 #[.pointer (some ⟨g, 0, none⟩), .int .i64 4, .string ⟨#[59]⟩] w' _ from must_any 4 (by decide) [59] (t1.2) g gt w' h))
    go_wp2_with fail
    try rw [hEw8]
    try clear hEw8
    refine (HM.out _ HX8.out.par).mono ?_
    rintro e wM ⟨rfl, hpM, hoM⟩
    have hxM := HX8.out.call hpM hoM
    have e0 := hxM.blk.cell 0; have e1 := hxM.blk.cell 1; have e2 := hxM.blk.cell 2; have e3 := hxM.blk.cell 3; have e4 := hxM.blk.cell 4; have e5 := hxM.blk.cell 5; have e6 := hxM.blk.cell 6
    have z0 := hxM.zer.cell 0; have z1 := hxM.zer.cell 1; have z2 := hxM.zer.cell 2; have z3 := hxM.zer.cell 3; have z4 := hxM.zer.cell 4; have z5 := hxM.zer.cell 5; have z6 := hxM.zer.cell 6
    have f0 := hxM.zer.frozen 0; have f1 := hxM.zer.frozen 1; have f2 := hxM.zer.frozen 2; have f3 := hxM.zer.frozen 3; have f4 := hxM.zer.frozen 4; have f5 := hxM.zer.frozen 5; have f6 := hxM.zer.frozen 6
    simp at e0 e1 e2 e3 e4 e5 e6 z0 z1 z2 z3 z4 z5 z6
    have HXM := keepHid hxM
    have HOM := keepHid (HO6.out.turn hoM (fun i hi => by rw [hi]; exact HS6.out.2.2))
    clear hpM hoM hxM d1
    go_wp2
    refine bodyPost_ret (results_cell_row (p := 2) (ty := 26) rfl _ _ G 26 #[.string LB, .int .i64 2, .string ⟨#[]⟩, .slice none 0 0, .int .i64 0, .string XT, .int .i64 (P : Int)] (0, 0) _ rfl (put7 HXM.out.zer) Tryz.underlying26 rfl sizeS) rfl ?_
    exact ⟨.slice none 0 0, 0, by rw [HV.out], by rw [HAR.out]; exact (HOM.out.put7 HS6.out.2.1 _ _ _ _ _ _ _).low (Nat.le_of_lt HS6.out.2.1), by rw [HR2.out]; exact HXM.out.par.put7 HXM.out.gg HXM.out.gt_ _ _ _ _ _ _ _, turn_put7 HXM.out.one HXM.out.low _ _ _ _ _ _ _⟩
  · rw [bod3] at HR1 HR2
    dsimp only at HR1 HR2
    rw [show ((3 : Nat) : Int) = 3 from rfl] at *
    have HAR : Hid (R.1.arms = []) := keepHid (by rw [HR1.out])
    have HN := keepHid (fun w' h => (show Calls Tryz.prog 44 #[.pointer (some ⟨g, 0, none⟩), .int .i64 9] w' _ from num_any 9 s2 g gt w' h))
    generalize numP 9 s2 = t2 at *
    obtain ⟨n2, s5⟩ := t2
    dsimp only at *
    have HG := keepHid (fun w' h => (show Calls Tryz.prog 45 #[.pointer (some ⟨g, 0, none⟩)] w' _ from tgt_any s5 g gt w' h))
    generalize tgtP s5 = t3 at *
    obtain ⟨d3, s6⟩ := t3
    dsimp only at *
    go_wp2_with fail
    try rw [hEw6]
    try clear hEw6
    refine (HN.out _ HX6.out.par).mono ?_
    rintro e wA ⟨rfl, hp, ho⟩
    have HXA := keepHid (HX6.out.call hp ho)
    clear hp ho
    have b4 := HXA.out.blk.cell 4
    have bf4 := HXA.out.blk.frozen 4
    simp at b4
    obtain ⟨wB, hEwB⟩ : ∃ w', wA.setCell ⟨S, 4, none⟩ (.int .i64 (n2 : Int)) = w' := ⟨_, rfl⟩
    have HXB := keepHid (HXA.out.set 4 (.int .i64 (n2 : Int)))
    rw [hEwB] at HXB
    simp at HXB
    go_wp2_with fail
    try rw [hEwB]
    try clear hEwB
    refine (HG.out _ HXB.out.par).mono ?_
    rintro e wC ⟨rfl, hp, ho⟩
    have HXC := keepHid (HXB.out.call hp ho)
    clear hp ho
    have HV : Hid (Value.agg (stA R.1 (.slice none 0 0)) = .agg #[.string LB, .int .i64 3, .string ⟨#[]⟩, .slice none 0 0, .int .i64 (n2 : Int), .string (strB d3), .int .i64 (P : Int)]) := keepHid (by rw [HR1.out, ← HLL.out]; rfl)
    generalize strB d3 = DD at *
    have b5 := HXC.out.blk.cell 5
    have bf5 := HXC.out.blk.frozen 5
    simp at b5
    obtain ⟨wD, hEwD⟩ : ∃ w', wC.setCell ⟨S, 5, none⟩ (.string DD) = w' := ⟨_, rfl⟩
    have HXD := keepHid (HXC.out.set 5 (.string DD))
    rw [hEwD] at HXD
    simp at HXD
    have HO6 : Hid (OwnA wD w6.heap.size (.slice none 0 0) 0 []) := keepHid (OwnA.nil _ _)
    have HM := keepHid (fun w' h => (show Calls Tryz.prog 43 #[.pointer (some ⟨g, 0, none⟩), .int .i64 4, .string ⟨#[59]⟩] w' _ from must_any 4 (by decide) [59] (s6) g gt w' h))
    go_wp2_with fail
    try rw [hEwD]
    try clear hEwD
    refine (HM.out _ HXD.out.par).mono ?_
    rintro e wM ⟨rfl, hpM, hoM⟩
    have hxM := HXD.out.call hpM hoM
    have e0 := hxM.blk.cell 0; have e1 := hxM.blk.cell 1; have e2 := hxM.blk.cell 2; have e3 := hxM.blk.cell 3; have e4 := hxM.blk.cell 4; have e5 := hxM.blk.cell 5; have e6 := hxM.blk.cell 6
    have z0 := hxM.zer.cell 0; have z1 := hxM.zer.cell 1; have z2 := hxM.zer.cell 2; have z3 := hxM.zer.cell 3; have z4 := hxM.zer.cell 4; have z5 := hxM.zer.cell 5; have z6 := hxM.zer.cell 6
    have f0 := hxM.zer.frozen 0; have f1 := hxM.zer.frozen 1; have f2 := hxM.zer.frozen 2; have f3 := hxM.zer.frozen 3; have f4 := hxM.zer.frozen 4; have f5 := hxM.zer.frozen 5; have f6 := hxM.zer.frozen 6
    simp at e0 e1 e2 e3 e4 e5 e6 z0 z1 z2 z3 z4 z5 z6
    have HXM := keepHid hxM
    have HOM := keepHid (HO6.out.turn hoM (fun i hi => by rw [hi]; exact HS6.out.2.2))
    clear hpM hoM hxM d1
    go_wp2
    refine bodyPost_ret (results_cell_row (p := 2) (ty := 26) rfl _ _ G 26 #[.string LB, .int .i64 3, .string ⟨#[]⟩, .slice none 0 0, .int .i64 (n2 : Int), .string DD, .int .i64 (P : Int)] (0, 0) _ rfl (put7 HXM.out.zer) Tryz.underlying26 rfl sizeS) rfl ?_
    exact ⟨.slice none 0 0, 0, by rw [HV.out], by rw [HAR.out]; exact (HOM.out.put7 HS6.out.2.1 _ _ _ _ _ _ _).low (Nat.le_of_lt HS6.out.2.1), by rw [HR2.out]; exact HXM.out.par.put7 HXM.out.gg HXM.out.gt_ _ _ _ _ _ _ _, turn_put7 HXM.out.one HXM.out.low _ _ _ _ _ _ _⟩
  · rw [bod4] at HR1 HR2
    dsimp only at HR1 HR2
    rw [show ((4 : Nat) : Int) = 4 from rfl] at *
    have HAR : Hid (R.1.arms = []) := keepHid (by rw [HR1.out])
    have HV : Hid (Value.agg (stA R.1 (.slice none 0 0)) = .agg #[.string LB, .int .i64 4, .string ⟨#[]⟩, .slice none 0 0, .int .i64 0, .string ⟨#[]⟩, .int .i64 (P : Int)]) := keepHid (by rw [HR1.out, ← HLL.out]; rfl)
    have HO6 : Hid (OwnA w6 w6.heap.size (.slice none 0 0) 0 []) := keepHid (OwnA.nil _ _)
    have HM := keepHid (fun w' h => (show Calls Tryz.prog 43 #[.pointer (some ⟨g, 0, none⟩), .int .i64 4, .string ⟨#[59]⟩] w' _ from must_any 4 (by decide) [59] (s2) g gt w' h))
    go_wp2_with fail
    try rw [hEw6]
    try clear hEw6
    refine (HM.out _ HX6.out.par).mono ?_
    rintro e wM ⟨rfl, hpM, hoM⟩
    have hxM := HX6.out.call hpM hoM
    have e0 := hxM.blk.cell 0; have e1 := hxM.blk.cell 1; have e2 := hxM.blk.cell 2; have e3 := hxM.blk.cell 3; have e4 := hxM.blk.cell 4; have e5 := hxM.blk.cell 5; have e6 := hxM.blk.cell 6
    have z0 := hxM.zer.cell 0; have z1 := hxM.zer.cell 1; have z2 := hxM.zer.cell 2; have z3 := hxM.zer.cell 3; have z4 := hxM.zer.cell 4; have z5 := hxM.zer.cell 5; have z6 := hxM.zer.cell 6
    have f0 := hxM.zer.frozen 0; have f1 := hxM.zer.frozen 1; have f2 := hxM.zer.frozen 2; have f3 := hxM.zer.frozen 3; have f4 := hxM.zer.frozen 4; have f5 := hxM.zer.frozen 5; have f6 := hxM.zer.frozen 6
    simp at e0 e1 e2 e3 e4 e5 e6 z0 z1 z2 z3 z4 z5 z6
    have HXM := keepHid hxM
    have HOM := keepHid (HO6.out.turn hoM (fun i hi => by rw [hi]; exact HS6.out.2.2))
    clear hpM hoM hxM d1
    go_wp2
    refine bodyPost_ret (results_cell_row (p := 2) (ty := 26) rfl _ _ G 26 #[.string LB, .int .i64 4, .string ⟨#[]⟩, .slice none 0 0, .int .i64 0, .string ⟨#[]⟩, .int .i64 (P : Int)] (0, 0) _ rfl (put7 HXM.out.zer) Tryz.underlying26 rfl sizeS) rfl ?_
    exact ⟨.slice none 0 0, 0, by rw [HV.out], by rw [HAR.out]; exact (HOM.out.put7 HS6.out.2.1 _ _ _ _ _ _ _).low (Nat.le_of_lt HS6.out.2.1), by rw [HR2.out]; exact HXM.out.par.put7 HXM.out.gg HXM.out.gt_ _ _ _ _ _ _ _, turn_put7 HXM.out.one HXM.out.low _ _ _ _ _ _ _⟩
  · rw [bod5] at HR1 HR2
    dsimp only at HR1 HR2
    rw [show ((5 : Nat) : Int) = 5 from rfl] at *
    have HAR : Hid (R.1.arms = []) := keepHid (by rw [HR1.out])
    have HV : Hid (Value.agg (stA R.1 (.slice none 0 0)) = .agg #[.string LB, .int .i64 5, .string ⟨#[]⟩, .slice none 0 0, .int .i64 0, .string ⟨#[]⟩, .int .i64 (P : Int)]) := keepHid (by rw [HR1.out, ← HLL.out]; rfl)
    have HO6 : Hid (OwnA w6 w6.heap.size (.slice none 0 0) 0 []) := keepHid (OwnA.nil _ _)
    have HM := keepHid (fun w' h => (show Calls Tryz.prog 43 #[.pointer (some ⟨g, 0, none⟩), .int .i64 4, .string ⟨#[59]⟩] w' _ from must_any 4 (by decide) [59] (s2) g gt w' h))
    go_wp2_with fail
    try rw [hEw6]
    try clear hEw6
    refine (HM.out _ HX6.out.par).mono ?_
    rintro e wM ⟨rfl, hpM, hoM⟩
    have hxM := HX6.out.call hpM hoM
    have e0 := hxM.blk.cell 0; have e1 := hxM.blk.cell 1; have e2 := hxM.blk.cell 2; have e3 := hxM.blk.cell 3; have e4 := hxM.blk.cell 4; have e5 := hxM.blk.cell 5; have e6 := hxM.blk.cell 6
    have z0 := hxM.zer.cell 0; have z1 := hxM.zer.cell 1; have z2 := hxM.zer.cell 2; have z3 := hxM.zer.cell 3; have z4 := hxM.zer.cell 4; have z5 := hxM.zer.cell 5; have z6 := hxM.zer.cell 6
    have f0 := hxM.zer.frozen 0; have f1 := hxM.zer.frozen 1; have f2 := hxM.zer.frozen 2; have f3 := hxM.zer.frozen 3; have f4 := hxM.zer.frozen 4; have f5 := hxM.zer.frozen 5; have f6 := hxM.zer.frozen 6
    simp at e0 e1 e2 e3 e4 e5 e6 z0 z1 z2 z3 z4 z5 z6
    have HXM := keepHid hxM
    have HOM := keepHid (HO6.out.turn hoM (fun i hi => by rw [hi]; exact HS6.out.2.2))
    clear hpM hoM hxM d1
    go_wp2
    refine bodyPost_ret (results_cell_row (p := 2) (ty := 26) rfl _ _ G 26 #[.string LB, .int .i64 5, .string ⟨#[]⟩, .slice none 0 0, .int .i64 0, .string ⟨#[]⟩, .int .i64 (P : Int)] (0, 0) _ rfl (put7 HXM.out.zer) Tryz.underlying26 rfl sizeS) rfl ?_
    exact ⟨.slice none 0 0, 0, by rw [HV.out], by rw [HAR.out]; exact (HOM.out.put7 HS6.out.2.1 _ _ _ _ _ _ _).low (Nat.le_of_lt HS6.out.2.1), by rw [HR2.out]; exact HXM.out.par.put7 HXM.out.gg HXM.out.gt_ _ _ _ _ _ _ _, turn_put7 HXM.out.one HXM.out.low _ _ _ _ _ _ _⟩


/-- What Parse answers. -/
def DParsePost (l : List UInt8) (w : World) (e : Ending) (w' : World) : Prop :=
  ((∃ x, parseD l = .error x ∧ e = .returned (.tuple #[.slice none 0 0, faultV (x.1 : Int) (x.2 : Int)])) ∨
   (∃ ss A n c, parseD l = .ok ss ∧ e = .returned (.tuple #[.slice A n c, .nilIface]) ∧ OwnSt w' w.heap.size (.slice A n c) n ss)) ∧ Below w.heap.size w w'
theorem dcut_many (l : List UInt8) (p : Nat) : ∀ ts, cutR l p = .ok ts → ts.length ≤ l.length + 1 := by
  refine cut_ind (fun l p x => ∀ ts, x = .ok ts → ts.length ≤ l.length + 1) ?_ ?_ ?_ ?_ ?_ l p
  · intro p ts h; cases h; simp
  · intro l p k h1 h2 h ts hts
    have := h ts hts
    rw [List.length_drop] at this
    omega
  · intro c r p ts h; cases h
  · intro l p t n q hf h ts hts; cases hts
  · intro l p t n ts hf h us hus
    cases hus
    have hx := firstT_le hf
    have := h ts rfl
    rw [List.length_drop] at this
    simp at hx ⊢
    omega
theorem par_stop {f : Nat} {ss : List Sp} {s : PS} (h : (hdP s).kind = 0) : parP f ss s = .ok ss := by
  cases f with
  | zero => rfl
  | succ f => exact par_end h
set_option maxRecDepth 100000 in
set_option maxHeartbeats 8000000 in
theorem dparse_any (l : List UInt8) (hl : l.length ≤ 4096) (w : World) (hE : Errs w) :
    Calls Tryz.prog 16 #[.string (strB l)] w (DParsePost l w) := by
  have HC := keepHid (cut_any l hl w hE)
  clear hE
  go_enter Tryz.func16, Tryz.ntmps16
  go_wp2_with fail
  refine HC.out.mono ?_
  rintro e w1 ⟨⟨p, hp, rfl⟩ | ⟨ts, A, n, c, hts, rfl, hown⟩, hb1⟩
  · have HB1 := keepHid hb1
    have HP : Hid (parseD l = .error (1, p)) := keepHid (by unfold parseD; rw [hp])
    have hf : faultV 1 (p : Int) = .iface 136 (.agg #[.int .i64 1, .int .i64 (p : Int)]) := rfl
    rw [hf]
    clear hb1 hp HC
    go_wp2
    go_ret2
    exact ⟨.inl ⟨(1, p), HP.out, rfl⟩, HB1.out⟩
  · obtain ⟨hEnd, _⟩ := cut_told l 0 ts hts
    have HP : Hid (parseD l = parP ts.length [] ⟨ts, none⟩) := keepHid (by unfold parseD; rw [hts])
    obtain ⟨A', c', e0, hnc, hc63, hA⟩ := hown.form
    obtain ⟨rfl, rfl⟩ : A = A' ∧ c = c' := by injection e0 with e1 e2 e3; exact ⟨e1, e3⟩
    have hlen := hown.len
    have hne : 0 < ts.length := hEnd.pos
    obtain ⟨gt, rfl⟩ : ∃ g, A = some ⟨g, 0, none⟩ := by
      rcases hA with ⟨_, h⟩ | ⟨g, h, _⟩
      · omega
      · exact ⟨g, h⟩
    have hm := dcut_many l 0 ts hts
    have hgt : gt < w1.heap.size := hown.tks.lt
    have hta : TkA w1 ⟨gt, 0, none⟩ ts := by
      have := hown.tks.tka 0
      rwa [Nat.zero_mul, List.drop_zero] at this
    obtain ⟨w2, hw2⟩ : ∃ w2, w1.alloc (.cells #[.slice (some ⟨gt, 0, none⟩) n c, .nilIface] 84) = w2 := ⟨_, rfl⟩
    have hK2 : Blk w2 w1.heap.size 84 #[.slice (some ⟨gt, 0, none⟩) n c, .nilIface] := by rw [← hw2]; exact Blk.new w1 _ _
    have hB2 : Below w1.heap.size w1 w2 := by rw [← hw2]; exact (Below.refl _ _).alloc (Nat.le_refl _) _
    have HP2 : Hid (Par w2 w1.heap.size gt ⟨ts, none⟩) := keepHid ⟨0, n, c, hK2, by omega, hta.below hB2 (Nat.le_refl _), hlen, hnc, hc63, hEnd, by show ts.length ≤ 4097; omega⟩
    have HB1 := keepHid hb1
    have HB2 := keepHid hB2
    have HGT := keepHid hgt
    have HZ2 : Hid (w2.heap.size = w1.heap.size + 1) := keepHid (by rw [← hw2]; simp)
    have HN : Hid (ts.length ≤ 4097) := keepHid (by omega)
    clear hta hgt hm hne hlen hA e0 hnc hc63 hown hEnd hts hb1 hK2 hB2 HC
    generalize hg : w1.heap.size = g at *
    go_wp2_with fail
    try rw [hw2]
    clear hw2
    go_loopw [7] (fun v wr => ∃ (f n c : Nat) (A : Option Addr) (ss : List Sp) (sx : PS), v = .slice A n c ∧ Hid (OwnSt wr (g + 1) (.slice A n c) n ss) ∧ Hid (Par wr g gt sx) ∧ Hid (Below g w1 wr) ∧ Hid (sx.ts.length ≤ f) ∧ Hid (parseD l = parP f ss sx) ∧ Hid (sx.err = none) ∧ n + sx.ts.length ≤ 4098 ∧ Hid (g + 1 ≤ wr.heap.size)) (fun _ wr => parLen wr g)
    case atStart => exact ⟨ts.length, 0, 0, none, [], ⟨ts, none⟩, rfl, keepHid (OwnSt.nil _ _), HP2, keepHid (by have := HB2.out; exact this), keepHid (Nat.le_refl _), HP, keepHid rfl, by have := HN.out; show 0 + ts.length ≤ 4098; omega, keepHid (by rw [HZ2.out]; exact Nat.le_refl _)⟩
    case round =>
      obtain ⟨f, nn, cc, A, ss, sx, rfl, HOW, HPX, HBX, HFX, HLX, HEX, hcount, HGX⟩ := hrel
      generalize wr = wq at *
      clear HP2 HB2 HP HN
      obtain ⟨OFF, m, cp, hin⟩ := HPX.out
      have c0 : wq.cell? ⟨g, 0, none⟩ = some (.slice (some ⟨gt, OFF, none⟩) m cp) := hin.blk.cell 0
      obtain ⟨a0, _, _, _, hm⟩ := hin.first
      clear hin
      by_cases hk : (hdP sx).kind = 0
      · have hkI : ((hdP sx).kind : Int) = 0 := by omega
        have hkb : (((hdP sx).kind : Int) != 0) = false := by simp [hk]
        have HR : Hid (parseD l = .ok ss) := keepHid (by rw [HLX.out]; exact par_stop hk)
        clear hk
        generalize ((hdP sx).kind : Int) = K0 at *
        go_wp2
        go_ret2
        exact ⟨.inr ⟨ss, A, nn, cc, HR.out, rfl, HOW.out.low (by have := HB1.out.size; rw [hg] at this; omega)⟩, HB1.out.trans (HBX.out.mono (by have := HB1.out.size; rw [hg] at this; exact this))⟩
      · have hkb : (((hdP sx).kind : Int) != 0) = true := by simp; omega
        have hpos := HPX.out.ended.pos
        obtain ⟨f', rfl⟩ : ∃ f', f = f' + 1 := ⟨f - 1, by have := HFX.out; omega⟩
        have HST := keepHid (dstep_any sx g gt hk wq HPX.out)
        have HBD := keepHid (fun x h => par_bad (f := f') (ss := ss) (x := x) hk h)
        have HGO := keepHid (fun h => par_go (f := f') (ss := ss) hk h)
        have HLS := keepHid (fun h => stp_less HPX.out.ended h)
        have HNX := keepHid HPX.out.n
        have HAL := keepHid (adv_stp HPX.out.ended).len
        unfold DStepPost at HST
        clear hk hpos
        generalize ((hdP sx).kind : Int) = K0 at *
        generalize stpP sx = R at *
        obtain ⟨x, s2⟩ := R
        dsimp only at *
        go_wp2_with fail
        refine HST.out.mono ?_
        rintro e w3 ⟨av, ma, rfl, hoa, hp3, ho3⟩
        obtain ⟨Aa, ca, hav, hac, hac2⟩ := hoa.form
        subst hav
        have hgx := HGX.out
        have hgq := HPX.out.lt
        have ho3s := ho3.size
        obtain ⟨w4, hw4⟩ : ∃ w4, w3.alloc (.cells (stA x (.slice Aa ma ca)) 26) = w4 := ⟨_, rfl⟩
        have hB4 : Below w3.heap.size w3 w4 := by rw [← hw4]; exact (Below.refl _ _).alloc (Nat.le_refl _) _
        have HK4 : Hid (Blk w4 w3.heap.size 26 (stA x (.slice Aa ma ca))) := keepHid (by rw [← hw4]; exact Blk.new w3 _ _)
        have HP4 := keepHid (hp3.below hB4)
        have HA4 := keepHid ((hoa.below hB4).low (base' := g + 1) hgx)
        have HO4 := keepHid ((HOW.out.turn ho3 (fun i hi => by omega)).below hB4)
        have HB4 : Hid (Below g w1 w4) := keepHid ((HBX.out.trans (Turn.below ho3 (fun i hi => by omega) (by omega))).trans (hB4.mono (by omega)))
        have HG4 : Hid (g + 1 ≤ w4.heap.size) := keepHid (by have := hB4.size; omega)
        clear hp3 hoa ho3 hB4 hac hac2 hgx hgq ho3s HST c0 a0 HOW
        unfold stA at hw4 ⊢
        go_wp2_with (at_builtin; refine wpList_append_st rfl _ _ rfl (g + 1) (.slice A nn cc) nn ss (by rfl) HO4.out w3.heap.size (by rfl) x (.slice Aa ma ca) ma HK4.out HA4.out (by omega) HG4.out ?_)
        intro G5 cap5 w5 h5 _ _ h5b
        have HO5 := keepHid h5
        have HP5 := keepHid (HP4.out.low h5b (Nat.lt_succ_self g) (by have := HGT.out; omega))
        have HB5 := keepHid (HB4.out.trans (h5b.mono (Nat.le_succ g)))
        have HG5 : Hid (g + 1 ≤ w5.heap.size) := keepHid (Nat.le_trans HG4.out h5b.size)
        have HN5 := keepHid HP5.out.n
        obtain ⟨OFF5, m5, cp5, hin5⟩ := HP5.out
        clear h5 h5b HO4 HP4 HB4 HG4 HA4 HK4 hw4
        cases he : s2.err with
        | some y =>
          have q1 : w5.cell? ⟨g, 1, none⟩ = some (.iface 136 (.agg #[.int .i64 (y.1 : Int), .int .i64 (y.2 : Int)])) := by
            have := hin5.blk.cell 1
            rw [he] at this
            exact this
          have HR : Hid (parseD l = .error y) := keepHid (by rw [HLX.out]; exact HBD.out y he)
          have HX : Hid (faultV (y.1 : Int) (y.2 : Int) = .iface 136 (.agg #[.int .i64 (y.1 : Int), .int .i64 (y.2 : Int)])) := keepHid rfl
          clear hin5 he
          generalize hy1 : (y.1 : Int) = Y1 at *
          generalize hy2 : (y.2 : Int) = Y2 at *
          have HY1 := keepHid hy1
          have HY2 := keepHid hy2
          clear hy1 hy2
          go_upto_region 9 with fail
          go_quiet (fail)
          go_wp2
          go_ret2
          exact ⟨.inl ⟨y, HR.out, by rw [HY1.out, HY2.out, HX.out]; rfl⟩, below_drewN (HB1.out.trans (HB5.out.mono (by have := HB1.out.size; rw [hg] at this; exact this))) _⟩
        | none =>
          have q1 : w5.cell? ⟨g, 1, none⟩ = some .nilIface := by
            have := hin5.blk.cell 1
            rw [he] at this
            exact this
          have HE2 := keepHid he
          have HL5 : Hid (parseD l = parP f' (ss ++ [x]) s2) := keepHid (by rw [HLX.out]; exact HGO.out he)
          have HLS5 := keepHid (HLS.out he)
          clear hin5 he
          go_wp2
          go_roundw
          case rel => exact ⟨f', nn + 1, cap5, some ⟨G5, 0, none⟩, ss ++ [x], s2, by go_num, HO5, HP5, HB5, keepHid (by have := HFX.out; have := HLS5.out; omega), HL5, HE2, by have := HLS5.out; omega, HG5⟩
          case measure => rw [HN5.out, HNX.out]; exact HLS5.out
end Go.Proofs.YtgndcgknedmalaaGreatDoor
