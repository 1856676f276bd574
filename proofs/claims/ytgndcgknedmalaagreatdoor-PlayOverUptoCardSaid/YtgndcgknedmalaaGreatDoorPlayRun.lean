/-
  A dialogue runs: package play's tried, wait, end, run.
-/
import Derived.Test.YtgndcgknedmalaaGreatDoorPlayRows
import Derived.Test.YtgndcgknedmalaaGreatDoorMinMax
import Derived.Lib.AppendStr
import Derived.BigQuiet
import Derived.BigRegion
import Derived.RegionTactic
import Derived.LoopTactic
import Derived.Test.YtgndcgknedmalaaGreatDoorExpectPut
import Derived.Deep.RegionWith
import Derived.Lib.BufferMore
namespace Go.Proofs.YtgndcgknedmalaaGreatDoor
open Go.RowKit
set_option linter.unusedVariables false

/-- A Play's six cells. -/
def plyC (sv : Value) (pos : Nat) (wv : Value) (ticks st : Int) (tv : Value) : Array Value := #[sv, .int .i64 (pos : Int), wv, .int .i64 ticks, .int .i64 st, tv]
/-- A Play that goes on, in block gp: its steps lie between gp and hi, what it has traced at hi or above. -/
structure PlyM (w : World) (gp hi gs cap : Nat) (xs : List Pst) (pos : Nat) (wv : Value) (ticks : Int) (c : List Nat) (tv : Value) (tr : List Nat) : Prop where
  blk : Blk w gp 57 (plyC (.slice (some ⟨gs, 0, none⟩) xs.length cap) pos wv ticks 0 tv)
  stp : Stps w (gp + 1) hi gs xs c
  tr : OwnI w hi tv tr.length tr
  base : gp < gs ∧ gs < hi ∧ hi ≤ w.heap.size
  cap : xs.length ≤ cap ∧ cap ≤ 9223372036854775807
/-- A Play that is over. -/
structure PlyE (w : World) (gp hi : Nat) (pos st : Nat) (tv : Value) (tr : List Nat) : Prop where
  blk : Blk w gp 57 (plyC (.slice none 0 0) pos (.pointer none) 0 (st : Int) tv)
  tr : OwnI w hi tv tr.length tr
  base : gp < hi ∧ hi ≤ w.heap.size
theorem OwnI.turn {S : Nat → Prop} {w w' : World} {base n : Nat} {v : Value} {xs : List Nat} (h : OwnI w base v n xs) (ht : Turn S w w') (hS : ∀ b, v.ownBlock = some b → ¬ S b) : OwnI w' base v n xs :=
  own_keep h fun i hi hl => ht.block i hl (hS i hi)
namespace PlyM
variable {w w' : World} {gp hi gs cap : Nat} {xs : List Pst} {pos : Nat} {wv : Value} {ticks : Int} {c : List Nat} {tv : Value} {tr : List Nat}
theorem turn {S : Nat → Prop} (h : PlyM w gp hi gs cap xs pos wv ticks c tv tr) (ht : Turn S w w') (hS : ∀ b, S b → ¬ (gp ≤ b ∧ b < hi) ∧ tv.ownBlock ≠ some b) : PlyM w' gp hi gs cap xs pos wv ticks c tv tr := by
  obtain ⟨b1, b2, b3⟩ := h.base
  exact ⟨ht.blk h.blk (fun e => (hS gp e).1 ⟨Nat.le_refl _, by omega⟩), h.stp.turn ht (fun b e => ⟨fun e2 => (hS b e).1 (by omega), fun e2 => (hS b e).1 (by omega)⟩), h.tr.turn ht (fun b e e2 => (hS b e2).2 e), ⟨b1, b2, Nat.le_trans b3 ht.size⟩, h.cap⟩
theorem below (h : PlyM w gp hi gs cap xs pos wv ticks c tv tr) (hb : Below w.heap.size w w') : PlyM w' gp hi gs cap xs pos wv ticks c tv tr := h.turn (S := fun _ => False) (Turn.of_below hb) (fun _ e => e.elim)
theorem drewN (h : PlyM w gp hi gs cap xs pos wv ticks c tv tr) (k : Nat) : PlyM (w.drewN k) gp hi gs cap xs pos wv ticks c tv tr := h.turn (S := fun _ => False) ((Turn.refl _ w).drewN k) (fun _ e => e.elim)
theorem tr_ne (h : PlyM w gp hi gs cap xs pos wv ticks c tv tr) {b : Nat} (hb : b < hi) : tv.ownBlock ≠ some b := fun e => by
  have := (World.ownsRow.lt h.tr b e).1; omega
/-- A cell of the Play's own is written. -/
theorem put (h : PlyM w gp hi gs cap xs pos wv ticks c tv tr) (i : Nat) (u : Value) {pos' : Nat} {wv' : Value} {ticks' : Int}
    (e : (plyC (.slice (some ⟨gs, 0, none⟩) xs.length cap) pos wv ticks 0 tv).setIfInBounds i u = plyC (.slice (some ⟨gs, 0, none⟩) xs.length cap) pos' wv' ticks' 0 tv) : PlyM (w.setCell ⟨gp, i, none⟩ u) gp hi gs cap xs pos' wv' ticks' c tv tr := by
  obtain ⟨b1, b2, b3⟩ := h.base
  have ht : Turn (fun b => b = gp) w (w.setCell ⟨gp, i, none⟩ u) := Turn.setCell (S := fun b => b = gp) (Turn.refl _ w) (.inl rfl) _
  refine ⟨by rw [← e]; exact h.blk.put i u, h.stp.turn ht (fun b e => by omega), h.tr.turn ht (fun b e e2 => h.tr_ne (b := gp) (by omega) (by rw [← e2]; exact e)), ⟨b1, b2, Nat.le_trans b3 ht.size⟩, h.cap⟩
theorem put_cnt (h : PlyM w gp hi gs cap xs pos wv ticks c tv tr) {k : Nat} (hk : k < c.length) (v : Nat) : PlyM (w.setCell ⟨gs, k * 7 + 6, none⟩ (.int .i64 (v : Int))) gp hi gs cap xs pos wv ticks (c.set k v) tv tr := by
  obtain ⟨b1, b2, b3⟩ := h.base
  have ht : Turn (fun b => b = gs) w (w.setCell ⟨gs, k * 7 + 6, none⟩ (.int .i64 (v : Int))) := Turn.setCell (S := fun b => b = gs) (Turn.refl _ w) (.inl rfl) _
  exact ⟨ht.blk h.blk (by omega), h.stp.put hk v, h.tr.turn ht (fun b e e2 => h.tr_ne (b := gs) b2 (by rw [← e2]; exact e)), ⟨b1, b2, Nat.le_trans b3 ht.size⟩, h.cap⟩
theorem cells (h : PlyM w gp hi gs cap xs pos wv ticks c tv tr) : w.cell? ⟨gp, 0, none⟩ = some (.slice (some ⟨gs, 0, none⟩) xs.length cap) ∧ w.cell? ⟨gp, 1, none⟩ = some (.int .i64 (pos : Int)) ∧ w.cell? ⟨gp, 2, none⟩ = some wv ∧ w.cell? ⟨gp, 3, none⟩ = some (.int .i64 ticks) ∧ w.cell? ⟨gp, 4, none⟩ = some (.int .i64 0) ∧ w.cell? ⟨gp, 5, none⟩ = some tv ∧ ∀ i, w.frozen? ⟨gp, i, none⟩ = false :=
  ⟨h.blk.cell 0, h.blk.cell 1, h.blk.cell 2, h.blk.cell 3, h.blk.cell 4, h.blk.cell 5, h.blk.frozen⟩
end PlyM
namespace PlyE
variable {w w' : World} {gp hi pos st : Nat} {tv : Value} {tr : List Nat}
theorem turn {S : Nat → Prop} (h : PlyE w gp hi pos st tv tr) (ht : Turn S w w') (hS : ∀ b, S b → b ≠ gp ∧ tv.ownBlock ≠ some b) : PlyE w' gp hi pos st tv tr :=
  ⟨ht.blk h.blk (fun e => (hS gp e).1 rfl), h.tr.turn ht (fun b e e2 => (hS b e2).2 e), h.base.1, Nat.le_trans h.base.2 ht.size⟩
theorem drew (h : PlyE w gp hi pos st tv tr) : PlyE w.drew gp hi pos st tv tr := h.turn (S := fun _ => False) (Turn.refl _ w).drew (fun _ e => e.elim)
theorem below (h : PlyE w gp hi pos st tv tr) (hb : Below w.heap.size w w') : PlyE w' gp hi pos st tv tr := h.turn (S := fun _ => False) (Turn.of_below hb) (fun _ e => e.elim)
theorem cells (h : PlyE w gp hi pos st tv tr) : w.cell? ⟨gp, 0, none⟩ = some (.slice none 0 0) ∧ w.cell? ⟨gp, 1, none⟩ = some (.int .i64 (pos : Int)) ∧ w.cell? ⟨gp, 2, none⟩ = some (.pointer none) ∧ w.cell? ⟨gp, 3, none⟩ = some (.int .i64 0) ∧ w.cell? ⟨gp, 4, none⟩ = some (.int .i64 (st : Int)) ∧ w.cell? ⟨gp, 5, none⟩ = some tv :=
  ⟨h.blk.cell 0, h.blk.cell 1, h.blk.cell 2, h.blk.cell 3, h.blk.cell 4, h.blk.cell 5⟩
end PlyE
/-- What a Try comes to. -/
def TriedPost (gp hi gs cap : Nat) (xs : List Pst) (pos : Nat) (wv : Value) (ticks : Int) (c : List Nat) (tv : Value) (tr : List Nat) (x : Pst) (w : World) (e : Ending) (w' : World) : Prop :=
  ((((c.getD pos 0 : Nat) : Int) + 1 ≤ x.n ∧ e = .returned (.int .i64 x.dst) ∧ PlyM w' gp hi gs cap xs pos wv ticks (c.set pos (c.getD pos 0 + 1)) tv tr) ∨ (¬ ((c.getD pos 0 : Nat) : Int) + 1 ≤ x.n ∧ e = .returned (.int .i64 ((pos : Int) + 1)) ∧ PlyM w' gp hi gs cap xs pos wv ticks (c.set pos 0) tv tr)) ∧ Turn (fun b => b = gs) w w'
section
variable {w : World} {gp hi gs cap : Nat} {xs : List Pst} {pos : Nat} {wv : Value} {ticks : Int} {c : List Nat} {tv : Value} {tr : List Nat}
set_option maxRecDepth 100000 in
set_option maxHeartbeats 4000000 in
theorem tried_any (hX : PstsOk xs) (hM : PlyM w gp hi gs cap xs pos wv ticks c tv tr) (hc : CntOk xs c) {x : Pst} (hx : xs[pos]? = some x) :
    Calls Tryz.prog 29 #[.pointer (some ⟨gp, 0, none⟩), .pointer (some ⟨gs, pos * 7, none⟩)] w (TriedPost gp hi gs cap xs pos wv ticks c tv tr x w) := by
  have hpl : pos < c.length := by rw [hc.len]; exact (List.getElem?_eq_some_iff.1 hx).1
  obtain ⟨P, pc, Q, qc, s0, s1, s2, s3, s4, s5, s6, _, _⟩ := hM.stp.at_ hx
  have sf := hM.stp.frozen
  obtain ⟨v, hv⟩ : ∃ v, c.getD pos 0 = v := ⟨_, rfl⟩
  have hv6 := hc.few pos
  have hM2 := hM.put_cnt hpl (v + 1)
  rw [hv] at s6 hv6
  have HV := keepHid hv
  have ea : ((v + 1 : Nat) : Int) = (v : Int) + 1 := by omega
  rw [ea] at hM2
  obtain ⟨w2, hw2⟩ : ∃ w2, w.setCell ⟨gs, pos * 7 + 6, none⟩ (.int .i64 ((v : Int) + 1)) = w2 := ⟨_, rfl⟩
  rw [hw2] at hM2
  have HM2 := keepHid hM2
  have HT2 : Hid (Turn (fun b => b = gs) w w2) := keepHid (by rw [← hw2]; exact Turn.setCell (S := fun b => b = gs) (Turn.refl _ w) (.inl rfl) _)
  obtain ⟨_, _, _, _, t0, t1, t2, t3, t4, t5, t6, _, _⟩ := hM2.stp.at_ hx
  have tf := hM2.stp.frozen
  rw [cnt_set hpl, if_pos rfl, ea] at t6
  obtain ⟨_, p1, _⟩ := hM2.cells
  have hpo : pos < 64 := by have := hX.few; rw [hc.len] at hpl; omega
  have HPL : Hid (pos < (c.set pos (v + 1)).length) := keepHid (by rw [List.length_set]; exact hpl)
  clear hM hM2 hX hc hpl hv s0 s1 s2 s3 s5 t0 t1 t2 t3 ea
  by_cases hle : (v : Int) + 1 ≤ x.n
  · have HLE := keepHid hle
    have hd : decide ((v : Int) + 1 ≤ x.n) = true := by simpa using hle
    clear hle
    go_enter Tryz.func29, Tryz.ntmps29
    go_wp2_with fail
    try rw [hw2]
    clear hw2 s4 s6 sf
    go_quiet (fail)
    go_wp2
    go_ret
    unfold TriedPost
    rw [HV.out]
    exact ⟨.inl ⟨HLE.out, rfl, HM2.out.drewN _⟩, HT2.out.drewN _⟩
  · have HLE := keepHid hle
    have hd : decide ((v : Int) + 1 ≤ x.n) = false := by simpa using hle
    clear hle
    go_enter Tryz.func29, Tryz.ntmps29
    go_wp2_with fail
    try rw [hw2]
    clear hw2 s4 s6 sf
    go_quiet (fail)
    rename_i nq
    obtain ⟨w3, hw3⟩ : ∃ w3, (w2.drewN nq).setCell ⟨gs, pos * 7 + 6, none⟩ (.int .i64 0) = w3 := ⟨_, rfl⟩
    have HM4 : Hid (PlyM w3 gp hi gs cap xs pos wv ticks (c.set pos 0) tv tr) := keepHid (by
      have := (HM2.out.drewN nq).put_cnt (k := pos) HPL.out 0
      rw [List.set_set] at this
      rw [← hw3]; exact this)
    have HT3 : Hid (Turn (fun b => b = gs) w w3) := keepHid (by rw [← hw3]; exact Turn.setCell (S := fun b => b = gs) (HT2.out.drewN _) (.inl rfl) _)
    have q1 : w3.cell? ⟨gp, 1, none⟩ = some (.int .i64 (pos : Int)) := HM4.out.cells.2.1
    clear p1
    go_wp2_with fail
    try rw [hw3]
    go_wp2
    go_ret
    unfold TriedPost
    rw [HV.out]
    exact ⟨.inr ⟨by have := HLE.out; omega, rfl, HM4.out⟩, HT3.out⟩
/-- What comes of a wait that begins. -/
def WaitPost (gp hi gs cap : Nat) (xs : List Pst) (pos : Nat) (c : List Nat) (tv : Value) (tr : List Nat) (x : Pst) (rs : List Re) (w w' : World) : Prop :=
  (∃ g H A' cap', w.heap.size ≤ g ∧ PlyM w' gp hi gs cap xs pos (ptrV g) (max x.n 1) c tv tr ∧ Wat0 w' H g (rs.map auOf) A' cap') ∧ Turn (fun b => b = gp) w w'
set_option maxRecDepth 100000 in
set_option maxHeartbeats 4000000 in
theorem wait_any (hX : PstsOk xs) (hM : PlyM w gp hi gs cap xs pos wv ticks c tv tr) {x : Pst} (hx : xs[pos]? = some x) (h1 : x.kind = 1) {rs : List Re} (hrs : of9 x.pats = .inl rs) :
    Calls Tryz.prog 30 #[.pointer (some ⟨gp, 0, none⟩), .pointer (some ⟨gs, pos * 7, none⟩)] w fun e w' => e = .returned (.tuple #[]) ∧ WaitPost gp hi gs cap xs pos c tv tr x rs w w' := by
  have ho := hX.all x (List.mem_of_getElem? hx)
  obtain ⟨hp1, hp8, _⟩ := ho.pats h1
  obtain ⟨P, pc, Q, qc, s0, s1, s2, s3, s4, s5, s6, hsl, _⟩ := hM.stp.at_ hx
  have HOF := keepHid (ofw_any (c := pc) x.pats hsl)
  have HM := keepHid hM
  have HRS := keepHid hrs
  have HPP : Hid (1 ≤ x.pats.length ∧ x.pats.length ≤ 8) := keepHid ⟨hp1, hp8⟩
  have HX := keepHid hx
  obtain ⟨T, hT⟩ : ∃ T, max x.n 1 = T := ⟨_, rfl⟩
  have HT := keepHid hT
  have qm := fun ts t W => max_z ts t x.n 1 T hT W
  clear hM hrs hp1 hp8 hsl hX ho h1 hT s0 s1 s3 s5 s6
  go_enter Tryz.func30, Tryz.ntmps30
  go_wp2_with fail
  refine HOF.out.mono ?_
  rintro e w2 ⟨hb2, ⟨h8, _⟩ | ⟨_, _, ⟨rs', g, A4, c4, hr', rfl, hg4, hw4⟩ | ⟨xx, vv, hbad, _⟩⟩⟩
  · exfalso; have := HPP.out; omega
  · rw [HRS.out] at hr'
    injection hr' with hr'
    subst hr'
    have HB2 := keepHid hb2
    have HM2 := keepHid (HM.out.below hb2)
    have HW2 := keepHid hw4
    have HG := keepHid hg4
    clear hb2 hw4 hg4 s4 s2
    obtain ⟨p0, p1, p2, p3, p4, p5, pf⟩ := HM2.out.cells
    obtain ⟨w3, hw3⟩ : ∃ w3, w2.setCell ⟨gp, 2, none⟩ (ptrV g) = w3 := ⟨_, rfl⟩
    have HM3 : Hid (PlyM w3 gp hi gs cap xs pos (ptrV g) ticks c tv tr) := keepHid (by rw [← hw3]; exact HM2.out.put 2 _ rfl)
    have HT3 : Hid (Turn (fun b => b = gp) w w3) := keepHid (by rw [← hw3]; exact Turn.setCell (S := fun b => b = gp) (Turn.of_below HB2.out) (.inl rfl) _)
    have HW3 : Hid (Wat0 w3 w2.heap.size g (rs.map auOf) A4 c4) := keepHid (by rw [← hw3]; exact HW2.out.turn (S := fun b => b = gp) (Turn.setCell (S := fun b => b = gp) (Turn.refl _ w2) (.inl rfl) _) (fun b e => by have h1 := HM.out.base; have h2 := HG.out; omega))
    clear p0 p1 p3 p4 p5
    unfold ptrV at hw3 ⊢
    obtain ⟨_, _, _, _, t0, t1, t2, t3, t4, t5, t6, _, _⟩ := HM3.out.stp.at_ HX.out
    obtain ⟨o0, o1, o2, o3, o4, o5, of_⟩ := HM3.out.cells
    obtain ⟨w4, hw4⟩ : ∃ w4, w3.setCell ⟨gp, 3, none⟩ (.int .i64 T) = w4 := ⟨_, rfl⟩
    have HM4 : Hid (PlyM w4 gp hi gs cap xs pos (ptrV g) T c tv tr) := keepHid (by rw [← hw4]; exact HM3.out.put 3 _ rfl)
    have HT4 : Hid (Turn (fun b => b = gp) w w4) := keepHid (by rw [← hw4]; exact Turn.setCell (S := fun b => b = gp) HT3.out (.inl rfl) _)
    have HW4 : Hid (Wat0 w4 w2.heap.size g (rs.map auOf) A4 c4) := keepHid (by rw [← hw4]; exact HW3.out.turn (S := fun b => b = gp) (Turn.setCell (S := fun b => b = gp) (Turn.refl _ w3) (.inl rfl) _) (fun b e => by have h1 := HM.out.base; have h2 := HG.out; omega))
    clear t0 t1 t2 t3 t5 t6 o0 o1 o2 o4 o5
    go_wp2_with fail
    try rw [hw3]
    clear p2 pf
    go_wp2_with fail
    try rw [hw4]
    refine bodyPost_end (results_none rfl _ _ _) rfl ?_
    exact ⟨rfl, ⟨g, w2.heap.size, A4, c4, HG.out, by rw [HT.out]; exact HM4.out, HW4.out⟩, HT4.out⟩
  · rw [HRS.out] at hbad; cases hbad
theorem end_new {w0 w2 : World} (hM : PlyM w gp hi gs cap xs pos wv ticks c tv tr) {z : Int} {n : Nat} (hz : z = (n : Int)) (ht : Turn (fun _ => False) w w0)
    (hw : ((((((w0.setCell ⟨gp, 0, none⟩ (.slice none 0 0)).setCell ⟨gp, 1, none⟩ (.int .i64 (pos : Int))).setCell ⟨gp, 2, none⟩ (.pointer none)).setCell ⟨gp, 3, none⟩ (.int .i64 0)).setCell ⟨gp, 4, none⟩ (.int .i64 z)).setCell ⟨gp, 5, none⟩ tv) = w2) :
    PlyE w2 gp hi pos n tv tr ∧ Turn (fun b => b = gp) w w2 := by
  subst hw hz
  have hM0 := hM.turn ht (fun _ e => e.elim)
  have t : ∀ {a : World} (i : Nat) (u : Value), Turn (fun b => b = gp) w a → Turn (fun b => b = gp) w (a.setCell ⟨gp, i, none⟩ u) := fun i u k => Turn.setCell (S := fun b => b = gp) k (.inl rfl) _
  have t0 : ∀ {a : World} (i : Nat) (u : Value), Turn (fun b => b = gp) w0 a → Turn (fun b => b = gp) w0 (a.setCell ⟨gp, i, none⟩ u) := fun i u k => Turn.setCell (S := fun b => b = gp) k (.inl rfl) _
  have hT0 := t0 5 tv (t0 4 (.int .i64 (n : Int)) (t0 3 (.int .i64 0) (t0 2 (.pointer none) (t0 1 (.int .i64 (pos : Int)) (t0 0 (.slice none 0 0) (Turn.refl _ w0))))))
  refine ⟨⟨?_, hM0.tr.turn hT0 (fun b e e2 => hM0.tr_ne (b := gp) (by have := hM0.base; omega) (by rw [← e2]; exact e)), by have := hM0.base; omega, Nat.le_trans hM0.base.2.2 hT0.size⟩, t _ _ (t _ _ (t _ _ (t _ _ (t _ _ (t _ _ (ht.mono (fun _ e => e.elim)))))))⟩
  have k := (((((hM0.blk.put 0 (.slice none 0 0)).put 1 (.int .i64 (pos : Int))).put 2 (.pointer none)).put 3 (.int .i64 0)).put 4 (.int .i64 (n : Int))).put 5 tv
  simpa [plyC] using k
set_option maxRecDepth 100000 in
set_option maxHeartbeats 4000000 in
theorem end_any (hM : PlyM w gp hi gs cap xs pos wv ticks c tv tr) (z : Int) (n : Nat) (hz : z = (n : Int)) :
    Calls Tryz.prog 31 #[.pointer (some ⟨gp, 0, none⟩), .int .i64 z] w fun e w' => e = .returned (.tuple #[]) ∧ PlyE w' gp hi pos n tv tr ∧ Turn (fun b => b = gp) w w' := by
  obtain ⟨A, cc, etv, _⟩ := own_val hM.tr
  subst etv
  subst hz
  have HM := keepHid hM
  obtain ⟨p0, p1, p2, p3, p4, p5, pf⟩ := hM.cells
  clear hM
  generalize tr.length = TL at *
  go_enter Tryz.func31, Tryz.ntmps31
  go_wp2_with fail
  go_region
  have hE := end_new HM.out (n := n) rfl (Turn.refl (fun _ => False) w) rfl
  refine bodyPost_end (results_none rfl _ _ _) rfl ?_
  exact ⟨rfl, hE.1.drew, hE.2.drew⟩
/-- What a run comes to, in memory. -/
def RunPost (gp hi gs cap : Nat) (xs : List Pst) (tv : Value) (tr : List Nat) (R : Rs) (w : World) (e : Ending) (w' : World) : Prop :=
  (∃ A k, e = .returned (.slice A R.sent.length k) ∧ OwnB w' w.heap.size 5 (.slice A R.sent.length k) R.sent.length R.sent ∧
    ((R.st = 0 ∧ ∃ x rs g H A' cap', xs[R.pos]? = some x ∧ of9 x.pats = .inl rs ∧ w.heap.size ≤ g ∧ (∀ ad, A = some ad → ad.block < g) ∧ PlyM w' gp hi gs cap xs R.pos (ptrV g) (max x.n 1) R.cnt tv tr ∧ Wat0 w' H g (rs.map auOf) A' cap') ∨
     (R.st ≠ 0 ∧ PlyE w' gp hi R.pos R.st tv tr))) ∧ Turn (fun b => b = gp ∨ b = gs) w w'
theorem strCells_map (l : List UInt8) : Lib.strCells (strB l) = l.map byteV := by
  unfold Lib.strCells strB byteV
  simp
theorem infoU8 : (Tryz.prog.info? 5).map (fun i => (i.zero, i.size, i.bytes)) = some (some (.int .u8 0), 1, 1) := by kernel_rfl
/-- A text is sent: its bytes behind those that were. -/
theorem wpList_append_text18 {w : World} {ops : Array Oper} {rest : List Oper} {o : Oper} {a : Act} {Q : Exit → Act → World → Prop} (hgd : o.guard = none) (sl x : Operand)
    (ho : o.op = .call { callee := .builtin .append, args := #[sl, x], argTypes := #[31, 9] })
    (base : Nat) (v : Value) (n : Nat) (xs ys : List UInt8) (hs : a.eval sl = v) (hown : OwnB w base 5 v n xs) (hx : a.eval x = .string (strB ys)) (hn : n + ys.length ≤ 140737488355328) (hbase : base ≤ w.heap.size)
    (h : ∀ A cap w', OwnB w' base 5 (.slice A (n + ys.length) cap) (n + ys.length) (xs ++ ys) → Turn (fun b => v.ownBlock = some b) w w' → wpList Tryz.prog ops Q rest (a.put o.dst (.slice A (n + ys.length) cap)) w') : wpList Tryz.prog ops Q (o :: rest) a w := by
  obtain ⟨i, hi⟩ := Option.isSome_iff_exists.1 (show (Tryz.prog.info? 5).isSome = true by kernel_rfl)
  have h0 := infoU8
  rw [hi] at h0
  simp only [Option.map_some, Option.some.injEq, Prod.mk.injEq] at h0
  obtain ⟨hz, hsz, hby⟩ := h0
  have hsb : (strB ys).size = ys.length := strB_size ys
  refine Lib.wpList_append_own_string w hgd sl x 31 9 ho base 5 i Tryz.underlying31 Tryz.underlying9 hi hz hsz hby v n (xs.map byteV) hs hown (strB ys) hx (by rw [hsb]; unfold maxLen; omega) (by rw [hsb]; exact hn) hbase ?_
  intro v' w' h2 h3 _
  rw [hsb, strCells_map, ← List.map_append] at h2
  have h2' : OwnB w' base 5 v' (n + ys.length) (xs ++ ys) := h2
  obtain ⟨A, cap, rfl, _⟩ := h2'.form
  exact h A cap w' h2' (turn_grown h3)
/-- The loop's relation: what is left of the run comes to R. -/
structure RunMid (gp hi gs cap : Nat) (xs : List Pst) (wv : Value) (ticks : Int) (tv : Value) (tr : List Nat) (R : Rs) (w wr : World) (f : Nat) (pos : Nat) (c : List Nat) (A : Option Addr) (m k : Nat) (o : List UInt8) : Prop where
  ply : PlyM wr gp hi gs cap xs pos wv ticks c tv tr
  own : OwnB wr w.heap.size 5 (.slice A m k) m o
  left : runR xs f pos c o = R
  cnt : CntOk xs c
  pos : pos ≤ xs.length
  turn : Turn (fun b => b = gp ∨ b = gs) w wr
theorem RunMid.own_turn {R : Rs} {w wr wz : World} {f m k : Nat} {A : Option Addr} {o : List UInt8} (h : RunMid gp hi gs cap xs wv ticks tv tr R w wr f pos c A m k o) (hi0 : hi ≤ w.heap.size) {S : Nat → Prop} (ht : Turn S wr wz) (hS : ∀ b, S b → b < w.heap.size) : OwnB wz w.heap.size 5 (.slice A m k) m o :=
  h.own.keep fun i hi hl => ht.block i hl (fun e => by have := hS i e; have := own_base h.own i hi; omega)
theorem RunMid.drewN {R : Rs} {w wr : World} {f m k : Nat} {A : Option Addr} {o : List UInt8} (h : RunMid gp hi gs cap xs wv ticks tv tr R w wr f pos c A m k o) (j : Nat) : RunMid gp hi gs cap xs wv ticks tv tr R w (wr.drewN j) f pos c A m k o :=
  ⟨h.ply.drewN j, h.own.drewN j, h.left, h.cnt, h.pos, h.turn.drewN j⟩
theorem sent_block {w : World} {base m k : Nat} {A : Option Addr} {o : List UInt8} (h : OwnB w base 5 (.slice A m k) m o) {g : Nat} (hg : w.heap.size ≤ g) : ∀ ad, A = some ad → ad.block < g := by
  intro ad e
  obtain ⟨A', k', hv, _, _, h4⟩ := h.form
  injection hv with e1
  subst e1
  rcases h4 with e2 | ⟨g', e2, _, h5⟩
  · rw [e] at e2; cases e2
  · rw [e] at e2; injection e2 with e2; subst e2; exact Nat.lt_of_lt_of_le h5 hg
/-- It is over. -/
theorem run_over {R : Rs} {w wd w2 : World} {f m k st : Nat} {A : Option Addr} {o : List UInt8} (h : RunMid gp hi gs cap xs wv ticks tv tr R w wd f pos c A m k o) (hb : gp < gs ∧ gs < hi ∧ hi ≤ w.heap.size) (hE : PlyE w2 gp hi pos st tv tr) (ht : Turn (fun b => b = gp) wd w2) (hR : runR xs f pos c o = ⟨pos, c, o, st⟩) (hst : st ≠ 0) :
    RunPost gp hi gs cap xs tv tr R w (.returned (.slice A m k)) w2 := by
  have hm := h.own.len
  have hl := h.left
  rw [hR] at hl
  subst hl
  have ho := h.own_turn hb.2.2 ht (fun b e => by omega)
  subst hm
  exact ⟨⟨A, k, rfl, ho, .inr ⟨hst, hE⟩⟩, h.turn.trans (ht.mono fun b e => .inl e)⟩
/-- It waits. -/
theorem run_waits {R : Rs} {w wd w2 : World} {f m k : Nat} {A : Option Addr} {o : List UInt8} {x : Pst} {rs : List Re} (h : RunMid gp hi gs cap xs wv ticks tv tr R w wd f pos c A m k o) (hb : gp < gs ∧ gs < hi ∧ hi ≤ w.heap.size) (hx : xs[pos]? = some x) (hrs : of9 x.pats = .inl rs) (hW : WaitPost gp hi gs cap xs pos c tv tr x rs wd w2) (hR : runR xs f pos c o = ⟨pos, c, o, 0⟩) :
    RunPost gp hi gs cap xs tv tr R w (.returned (.slice A m k)) w2 := by
  have hm := h.own.len
  have hl := h.left
  rw [hR] at hl
  subst hl
  obtain ⟨⟨g, H, A', cap', hg, hP, hw⟩, ht⟩ := hW
  have ho := h.own_turn hb.2.2 ht (fun b e => by omega)
  have hs := sent_block h.own hg
  subst hm
  exact ⟨⟨A, k, rfl, ho, .inl ⟨rfl, x, rs, g, H, A', cap', hx, hrs, Nat.le_trans h.turn.size hg, hs, hP, hw⟩⟩, h.turn.trans (ht.mono fun b e => .inl e)⟩
/-- The place is another one. -/
theorem RunMid.goes {R : Rs} {w wd w2 : World} {f f' m k pos' : Nat} {c' : List Nat} {A : Option Addr} {o : List UInt8} (h : RunMid gp hi gs cap xs wv ticks tv tr R w wd f pos c A m k o) (hb : gp < gs ∧ gs < hi ∧ hi ≤ w.heap.size) {w1 : World} (hP : PlyM w1 gp hi gs cap xs pos wv ticks c' tv tr) (ht : Turn (fun b => b = gp ∨ b = gs) wd w1) (hw : w1.setCell ⟨gp, 1, none⟩ (.int .i64 (pos' : Int)) = w2)
    (hR : runR xs f' pos' c' o = R) (hc : CntOk xs c') (hp : pos' ≤ xs.length) : RunMid gp hi gs cap xs wv ticks tv tr R w w2 f' pos' c' A m k o := by
  subst hw
  have h1 : Turn (fun b => b = gp ∨ b = gs) wd (w1.setCell ⟨gp, 1, none⟩ (.int .i64 (pos' : Int))) := Turn.setCell (S := fun b => b = gp ∨ b = gs) ht (.inl (.inl rfl)) _
  exact ⟨hP.put 1 _ rfl, h.own_turn hb.2.2 h1 (fun b e => by omega), hR, hc, hp, h.turn.trans h1⟩
set_option maxRecDepth 100000 in
set_option maxHeartbeats 16000000 in
theorem run_any18 (hX : PstsOk xs) (hM : PlyM w gp hi gs cap xs pos wv ticks c tv tr) (hc : CntOk xs c) (t : Nat) (ht : t ≤ xs.length) :
    Calls Tryz.prog 19 #[.pointer (some ⟨gp, 0, none⟩), .int .i64 (t : Int)] w (RunPost gp hi gs cap xs tv tr (runR xs 256 t c []) w) := by
  obtain ⟨p0, p1, p2, p3, p4, p5, pf⟩ := hM.cells
  obtain ⟨w1, hw1⟩ : ∃ w1, w.setCell ⟨gp, 1, none⟩ (.int .i64 (t : Int)) = w1 := ⟨_, rfl⟩
  have HM1 : Hid (PlyM w1 gp hi gs cap xs t wv ticks c tv tr) := keepHid (by rw [← hw1]; exact hM.put 1 _ rfl)
  have HT1 : Hid (Turn (fun b => b = gp ∨ b = gs) w w1) := keepHid (by rw [← hw1]; exact Turn.setCell (S := fun b => b = gp ∨ b = gs) (Turn.refl _ w) (.inl (.inl rfl)) _)
  have HBS := keepHid hM.base
  have HTB : Hid (∀ b, tv.ownBlock = some b → hi ≤ b ∧ b < w.heap.size) := keepHid (fun b e => World.ownsRow.lt hM.tr b e)
  have HX := keepHid hX
  have hlen := hX.few
  have hcap := hM.cap
  obtain ⟨R, hR⟩ : ∃ R, runR xs 256 t c [] = R := ⟨_, rfl⟩
  have HRM : Hid (RunMid gp hi gs cap xs wv ticks tv tr R w w1 256 t c none 0 0 []) := keepHid ⟨HM1.out, OwnB.nil _ _ _, hR, hc, ht, HT1.out⟩
  have HSL := keepHid (fun f p c o (hc : CntOk xs c) (hp : p ≤ xs.length) => run_le hX 1048576 (fun x hx => (hX.all x hx).text) f p c o hc hp)
  obtain ⟨L, hL⟩ : ∃ L, xs.length = L := ⟨_, rfl⟩
  have HL := keepHid hL
  rw [hR]
  rw [hL] at hlen hcap p0
  clear hM hX hc ht hR HM1 HT1 p2 p3 p4 p5 hL
  go_enter Tryz.func19, Tryz.ntmps19
  go_wp2_with fail
  try rw [hw1]
  clear hw1 p0 p1 pf
  go_loopw [6, 5] (fun iv v wr => ∃ (n ps : Nat) (c2 : List Nat) (A : Option Addr) (m k : Nat) (o : List UInt8), n ≤ 256 ∧ iv = .int .i64 (n : Int) ∧ v = .slice A m k ∧ Hid (RunMid gp hi gs cap xs wv ticks tv tr R w wr (256 - n) ps c2 A m k o) ∧ Hid (m ≤ n * 1048576)) (fun iv _ _ => 256 - (intOf iv).toNat)
  case atStart => exact ⟨0, t, c, none, 0, 0, [], by omega, rfl, rfl, HRM, keepHid (by omega)⟩
  case round =>
    obtain ⟨n, ps, c2, A, m, k, o, hn, rfl, rfl, HR, HMM⟩ := hrel
    generalize wr = wq at *
    obtain ⟨p0, p1, p2, p3, p4, p5, pf⟩ := HR.out.ply.cells
    rw [HL.out] at p0
    clear p2 p3 p4 p5 HRM
    have hpl := HR.out.pos
    rw [HL.out] at hpl
    by_cases hn6 : n < 256
    · have hd1 : decide ((n : Int) < 256) = true := by simp; omega
      by_cases hlt : ps < L
      · have hd2 : decide ((ps : Int) < (L : Int)) = true := by simp; omega
        obtain ⟨x, hx⟩ : ∃ x, xs[ps]? = some x := ⟨_, List.getElem?_eq_getElem (by rw [HL.out]; exact hlt)⟩
        obtain ⟨P, pc, Q, qc, s0, s1, s2, s3, s4, s5, s6, _, _⟩ := HR.out.ply.stp.at_ hx
        have HXX := keepHid hx
        have HXO := keepHid (HX.out.all x (List.mem_of_getElem? hx))
        have hlI : (ps : Int) < (L : Int) := by omega
        clear hx s2 s3 s4 s6
        go_upto_region 4 with fail
        go_quiet (fail)
        have HRD := keepHid (HR.out.drewN nq)
        obtain ⟨f, hf⟩ : ∃ f, 256 - n = f + 1 := ⟨255 - n, by omega⟩
        have HF := keepHid hf
        rw [hf] at HRD
        generalize wq.drewN nq = wd at *
        clear HR p0 p1 pf s0 s1 s5 hf hd1 hd2
        obtain ⟨p0, p1, p2, p3, p4, p5, pf⟩ := HRD.out.ply.cells
        obtain ⟨P, pc, Q, qc, s0, s1, s2, s3, s4, s5, s6, _, _⟩ := HRD.out.ply.stp.at_ HXX.out
        rw [HL.out] at p0
        clear s2 s3 s4 s6 p2 p3 p4 p5
        obtain ⟨KK, hKK⟩ : ∃ K, x.kind = K := ⟨_, rfl⟩
        have HKK := keepHid hKK
        rw [hKK] at s0
        clear hKK
        go_upto_region 6 with fail
        go_quiet (fail)
        have HRE := keepHid (HRD.out.drewN nq)
        generalize wd.drewN nq = we at *
        clear HRD p0 p1 pf s0 s1 s5
        obtain ⟨p0, p1, p2, p3, p4, p5, pf⟩ := HRE.out.ply.cells
        obtain ⟨P, pc, Q, qc, s0, s1, s2, s3, s4, s5, s6, _, _⟩ := HRE.out.ply.stp.at_ HXX.out
        rw [HL.out] at p0
        rw [HKK.out] at s0
        clear s2 s3 s4 s6 p2 p3 p4 p5
        have hn7 : (n : Int) < 256 := by omega
        have hps64 : (ps : Int) < 64 := by omega
        have hx16 : (n + 1) * 1048576 = n * 1048576 + 1048576 := Nat.succ_mul n 1048576
        have HM9 : Hid (m ≤ (n + 1) * 1048576) := keepHid (by rw [hx16]; exact Nat.le_trans HMM.out (Nat.le_add_right _ _))
        have HSU : Hid (256 - (n + 1) = f) := keepHid (by have := HF.out; omega)
        by_cases h0 : KK = 0
        · have e0 : (KK == 0) = true := by simp [h0]
          have HRR := keepHid (run_send (f := f) (c := c2) (o := o) HXX.out (by rw [HKK.out]; exact h0))
          have HTX := keepHid HXO.out.text
          have htx := HTX.out
          have hml := HMM.out
          have HGB : Hid (w.heap.size ≤ we.heap.size) := keepHid HRE.out.turn.size
          clear s5
          go_wp2_with (at_builtin; refine wpList_append_text18 rfl _ _ rfl w.heap.size (.slice A m k) m o x.text (by rfl) HRE.out.own (by rfl) (by omega) HGB.out ?_)
          intro A2 k2 w3 ho3 ht3
          have HO3 := keepHid ho3
          have HP3 : Hid (PlyM w3 gp hi gs cap xs ps wv ticks c2 tv tr) := keepHid (HRE.out.ply.turn ht3 (fun b e => by
            have h1 := own_base HRE.out.own b e
            have h2 := HBS.out
            exact ⟨by omega, fun e2 => by have := HTB.out b e2; omega⟩))
          have HT3 : Hid (Turn (fun b => b = gp ∨ b = gs) w w3) := keepHid (by
            have h1 := HRE.out.turn
            have h2 := ht3
            exact ⟨h2.os.trans h1.os, h2.tape.trans h1.tape, h2.output.trans h1.output, Nat.le_trans h1.size h2.size, fun i hi0 hn => (h2.block i (Nat.lt_of_lt_of_le hi0 h1.size) (fun e => by have := own_base HRE.out.own i e; omega)).trans (h1.block i hi0 hn)⟩)
          obtain ⟨q0, q1, q2, q3, q4, q5, qf⟩ := HP3.out.cells
          obtain ⟨w4, hw4⟩ : ∃ w4, w3.setCell ⟨gp, 1, none⟩ (.int .i64 ((ps : Int) + 1)) = w4 := ⟨_, rfl⟩
          have HW4 := keepHid hw4
          have HR4 : Hid (RunMid gp hi gs cap xs wv ticks tv tr R w w4 f (ps + 1) c2 A2 (m + x.text.length) k2 (o ++ x.text)) := keepHid (by
            have hw : w3.setCell ⟨gp, 1, none⟩ (.int .i64 ((ps + 1 : Nat) : Int)) = w4 := by rw [← HW4.out]; rfl
            have h1 : Turn (fun b => b = gp) w3 w4 := by rw [← HW4.out]; exact Turn.setCell (S := fun b => b = gp) (Turn.refl _ w3) (.inl rfl) _
            exact ⟨by rw [← hw]; exact HP3.out.put 1 _ rfl, HO3.out.keep fun i hi0 hl => h1.block i hl (fun e => by have := own_base HO3.out i hi0; have := HBS.out; omega), by rw [← HRR.out]; exact HRE.out.left, HRE.out.cnt, by have := HL.out; omega, HT3.out.trans (h1.mono fun b e => .inl e)⟩)
          clear ho3 ht3 q0 q2 q3 q4 q5 hw4
          have p1' := q1
          go_wp2_with fail
          try rw [HW4.out]
          go_wp2
          go_roundw
          case rel => exact ⟨n + 1, ps + 1, c2, A2, m + x.text.length, k2, o ++ x.text, by omega, by go_num, rfl, keepHid (by rw [HSU.out]; exact HR4.out), keepHid (by rw [hx16]; have := HTX.out; have := HMM.out; omega)⟩
          case measure => simp [intOf]; omega
        have e0 : (KK == 0) = false := by simp [h0]
        by_cases h2 : KK = 2
        · have e2 : (KK == 2) = true := by simp [h2]
          have HRR := keepHid (run_goto (f := f) (c := c2) (o := o) HXX.out (by rw [HKK.out]; exact h2))
          have hk2 : x.kind = 2 := by rw [HKK.out]; exact h2
          have hd0 := HXO.out.goes (.inr (.inl hk2))
          have hd1' := HXO.out.dst
          obtain ⟨d, hd⟩ : ∃ d : Nat, x.dst = (d : Int) := ⟨x.dst.toNat, by omega⟩
          rw [hd] at s5 hd1'
          rw [hd] at HRR
          obtain ⟨w4, hw4⟩ : ∃ w4, we.setCell ⟨gp, 1, none⟩ (.int .i64 (d : Int)) = w4 := ⟨_, rfl⟩
          have HR4 : Hid (RunMid gp hi gs cap xs wv ticks tv tr R w w4 f d c2 A m k o) := keepHid (HRE.out.goes HBS.out HRE.out.ply (Turn.refl _ _) hw4 (by rw [← HRE.out.left, HRR.out]; rfl) HRE.out.cnt (by omega))
          clear hk2 hd0 hd1' hd
          go_wp2_with fail
          try rw [hw4]
          go_wp2
          go_roundw
          case rel => exact ⟨n + 1, d, c2, A, m, k, o, by omega, by go_num, rfl, keepHid (by rw [HSU.out]; exact HR4.out), HM9⟩
          case measure => simp [intOf]; omega
        have e2 : (KK == 2) = false := by simp [h2]
        by_cases h3 : KK = 3
        · have e3 : (KK == 3) = true := by simp [h3]
          have hk3 : x.kind = 3 := by rw [HKK.out]; exact h3
          have HK3 := keepHid hk3
          have hd0 := HXO.out.goes (.inr (.inr hk3))
          have hd1' := HXO.out.dst
          obtain ⟨d, hd⟩ : ∃ d : Nat, x.dst = (d : Int) := ⟨x.dst.toNat, by omega⟩
          have HD := keepHid hd
          have HDL : Hid (d < xs.length) := keepHid (by rw [hd] at hd1'; omega)
          have HTR := keepHid (tried_any HX.out HRE.out.ply HRE.out.cnt HXX.out)
          have HPS : Hid (ps < c2.length) := keepHid (by rw [HRE.out.cnt.len, HL.out]; exact hlt)
          clear hk3 hd0 hd1' hd s5
          go_wp2_with fail
          refine HTR.out.mono ?_
          rintro e w3 ⟨hcase, ht3⟩
          have HT3 := keepHid (ht3.mono (T := fun b => b = gp ∨ b = gs) fun b e => .inr e)
          clear ht3
          rcases hcase with ⟨hle, rfl, hP⟩ | ⟨hle, rfl, hP⟩
          · have HP3 := keepHid hP
            have HRR := keepHid (run_again (f := f) (c := c2) (o := o) HXX.out HK3.out hle)
            have HCN : Hid (c2.getD ps 0 + 1 ≤ 1000000) := keepHid (by have := HXO.out.n; omega)
            obtain ⟨w4, hw4⟩ : ∃ w4, w3.setCell ⟨gp, 1, none⟩ (.int .i64 (d : Int)) = w4 := ⟨_, rfl⟩
            have HR4 : Hid (RunMid gp hi gs cap xs wv ticks tv tr R w w4 f d (c2.set ps (c2.getD ps 0 + 1)) A m k o) := keepHid (HRE.out.goes HBS.out HP3.out HT3.out hw4 (by rw [← HRE.out.left, HRR.out, HD.out]; rfl) (HRE.out.cnt.set _ _ HCN.out) (Nat.le_of_lt HDL.out))
            obtain ⟨q0, q1, q2, q3, q4, q5, qf⟩ := HP3.out.cells
            clear hP hle q0 q2 q3 q4 q5
            rw [HD.out]
            go_wp2_with fail
            try rw [hw4]
            go_wp2
            go_roundw
            case rel => exact ⟨n + 1, d, c2.set ps (c2.getD ps 0 + 1), A, m, k, o, by omega, by go_num, rfl, keepHid (by rw [HSU.out]; exact HR4.out), HM9⟩
            case measure => simp [intOf]; omega
          · have HP3 := keepHid hP
            have HRR := keepHid (run_left (f := f) (c := c2) (o := o) HXX.out HK3.out hle)
            obtain ⟨w4, hw4⟩ : ∃ w4, w3.setCell ⟨gp, 1, none⟩ (.int .i64 ((ps : Int) + 1)) = w4 := ⟨_, rfl⟩
            have HR4 : Hid (RunMid gp hi gs cap xs wv ticks tv tr R w w4 f (ps + 1) (c2.set ps 0) A m k o) := keepHid (HRE.out.goes HBS.out HP3.out HT3.out (by rw [← hw4]; rfl) (by rw [← HRE.out.left, HRR.out]) (HRE.out.cnt.set _ _ (by omega)) (by have := HL.out; omega))
            obtain ⟨q0, q1, q2, q3, q4, q5, qf⟩ := HP3.out.cells
            clear hP hle q0 q2 q3 q4 q5
            go_wp2_with fail
            try rw [hw4]
            go_wp2
            go_roundw
            case rel => exact ⟨n + 1, ps + 1, c2.set ps 0, A, m, k, o, by omega, by go_num, rfl, keepHid (by rw [HSU.out]; exact HR4.out), HM9⟩
            case measure => simp [intOf]; omega
        have e3 : (KK == 3) = false := by simp [h3]
        by_cases h1 : KK = 1
        · have e1 : (KK == 1) = true := by simp [h1]
          have hk1 : x.kind = 1 := by rw [HKK.out]; exact h1
          have HRR := keepHid (run_wait (f := f) (c := c2) (o := o) HXX.out hk1)
          obtain ⟨_, _, rs, hrs⟩ := HXO.out.pats hk1
          have HRS := keepHid hrs
          have HW := keepHid (wait_any HX.out HRE.out.ply HXX.out hk1 hrs)
          clear hrs hk1
          go_wp2_with fail
          refine HW.out.mono ?_
          rintro e w2 ⟨rfl, hw⟩
          have HO := keepHid (run_waits HRE.out HBS.out HXX.out HRS.out hw HRR.out)
          clear hw
          go_wp2
          go_ret
          exact HO.out
        have e1 : (KK == 1) = false := by simp [h1]
        by_cases h4 : KK = 4
        · have e4 : (KK == 4) = true := by simp [h4]
          have HRR := keepHid (run_done (f := f) (c := c2) (o := o) HXX.out (by rw [HKK.out]; exact h4))
          have HE := keepHid (end_any HRE.out.ply 1 1 rfl)
          go_wp2_with fail
          refine HE.out.mono ?_
          rintro e w2 ⟨rfl, hE, ht⟩
          have HO := keepHid (run_over HRE.out HBS.out hE ht HRR.out (by decide))
          clear hE ht
          go_wp2
          go_ret
          exact HO.out
        · have e4 : (KK == 4) = false := by simp [h4]
          have HRR := keepHid (run_fail (f := f) (c := c2) (o := o) HXX.out (by rw [HKK.out]; exact h0) (by rw [HKK.out]; exact h1) (by rw [HKK.out]; exact h2) (by rw [HKK.out]; exact h3) (by rw [HKK.out]; exact h4))
          have HE := keepHid (end_any HRE.out.ply 2 2 rfl)
          go_wp2_with fail
          refine HE.out.mono ?_
          rintro e w2 ⟨rfl, hE, ht⟩
          have HO := keepHid (run_over HRE.out HBS.out hE ht HRR.out (by decide))
          clear hE ht
          go_wp2
          go_ret
          exact HO.out
      · have hd2 : decide ((ps : Int) < (L : Int)) = false := by simp; omega
        go_upto_region 4 with fail
        go_quiet (fail)
        have HRD := keepHid (HR.out.drewN nq)
        generalize wq.drewN nq = wd at *
        have HE := keepHid (end_any HRD.out.ply 2 2 rfl)
        have HRR : Hid (runR xs (256 - n) ps c2 o = ⟨ps, c2, o, 2⟩) := keepHid (by exact run_end (List.getElem?_eq_none (by rw [HL.out]; omega)))
        clear HR p0 p1 pf HSL
        go_wp2_with fail
        refine HE.out.mono ?_
        rintro e w2 ⟨rfl, hE, ht⟩
        have HO := keepHid (run_over HRD.out HBS.out hE ht HRR.out (by decide))
        clear hE ht
        go_wp2
        go_ret
        exact HO.out
    · have hd1 : decide ((n : Int) < 256) = false := by simp; omega
      go_upto_region 4 with fail
      go_quiet (fail)
      have HRD := keepHid (HR.out.drewN nq)
      generalize wq.drewN nq = wd at *
      have HE := keepHid (end_any HRD.out.ply 2 2 rfl)
      have HRR : Hid (runR xs (256 - n) ps c2 o = ⟨ps, c2, o, 2⟩) := keepHid (by rw [show 256 - n = 0 by omega]; rfl)
      clear HR p0 p1 pf HSL
      go_wp2_with fail
      refine HE.out.mono ?_
      rintro e w2 ⟨rfl, hE, ht⟩
      have HO := keepHid (run_over HRD.out HBS.out hE ht HRR.out (by decide))
      clear hE ht
      go_wp2
      go_ret
      exact HO.out
end


/-- It waits: all of it lies in the blocks O. -/
structure PlyW (w : World) (O : Nat → Prop) (gp : Nat) (xs : List Pst) (p : Pd) (hi gs cap g H : Nat) (P : Nat → Prop) (x : Pst) (rs : List Re) (tv : Value) : Prop where
  ply : PlyM w gp hi gs cap xs p.pos (ptrV g) p.ticks p.cnt tv p.tr
  step : xs[p.pos]? = some x
  pats : of9 x.pats = .inl rs
  wat : Wat w H P g (rs.map auOf) p.heard
  lo : hi ≤ g ∧ g < H ∧ H ≤ w.heap.size
  old : ∀ b, tv.ownBlock = some b → b < g
  own : ∀ b, (gp ≤ b ∧ b < hi) ∨ tv.ownBlock = some b ∨ (g ≤ b ∧ b < H) ∨ P b → O b
/-- A Play whose memory is the blocks O. -/
def Ply (w : World) (O : Nat → Prop) (gp : Nat) (xs : List Pst) (p : Pd) : Prop :=
  (∀ b, O b → gp ≤ b ∧ b < w.heap.size) ∧
  ((p.st = 0 ∧ ∃ hi gs cap g H P x rs tv, PlyW w O gp xs p hi gs cap g H P x rs tv) ∨
   (p.st ≠ 0 ∧ ∃ hi tv, PlyE w gp hi p.pos p.st tv p.tr ∧ O gp ∧ ∀ b, tv.ownBlock = some b → O b))
theorem Ply.turn {w w' : World} {O S : Nat → Prop} {gp : Nat} {xs : List Pst} {p : Pd} (h : Ply w O gp xs p) (ht : Turn S w w') (hS : ∀ b, S b → ¬ O b) : Ply w' O gp xs p := by
  obtain ⟨h1, h2⟩ := h
  refine ⟨fun b hb => ⟨(h1 b hb).1, Nat.lt_of_lt_of_le (h1 b hb).2 ht.size⟩, ?_⟩
  rcases h2 with ⟨e, hi, gs, cap, g, H, P, x, rs, tv, h⟩ | ⟨e, hi, tv, h, ho, hv⟩
  · refine .inl ⟨e, hi, gs, cap, g, H, P, x, rs, tv, h.ply.turn ht (fun b hb => ⟨fun e2 => hS b hb (h.own b (.inl e2)), fun e2 => hS b hb (h.own b (.inr (.inl e2)))⟩), h.step, h.pats, h.wat.turn ht (fun b hb => ?_), ⟨h.lo.1, h.lo.2.1, Nat.le_trans h.lo.2.2 ht.size⟩, h.old, h.own⟩
    have n1 : ¬ (g ≤ b ∧ b < H) := fun e2 => hS b hb (h.own b (.inr (.inr (.inl e2))))
    have n2 : ¬ P b := fun e2 => hS b hb (h.own b (.inr (.inr (.inr e2))))
    rcases Nat.lt_or_ge b g with hl | hl
    · exact .inl hl
    · exact .inr ⟨by omega, n2⟩
  · exact .inr ⟨e, hi, tv, h.turn ht (fun b hb => ⟨fun e2 => hS b hb (e2 ▸ ho), fun e2 => hS b hb (hv b e2)⟩), ho, hv⟩
theorem Ply.below {w w' : World} {O : Nat → Prop} {gp : Nat} {xs : List Pst} {p : Pd} (h : Ply w O gp xs p) (hb : Below w.heap.size w w') : Ply w' O gp xs p := h.turn (S := fun _ => False) (Turn.of_below hb) (fun _ e => e.elim)
/-- What a call brings: the Play, what is sent, and what has turned. -/
def PlyPost (O : Nat → Prop) (gp : Nat) (xs : List Pst) (r : Pd × List UInt8) (w : World) (e : Ending) (w' : World) : Prop :=
  ∃ O' A k, e = .returned (.slice A r.2.length k) ∧ OwnB w' w.heap.size 5 (.slice A r.2.length k) r.2.length r.2 ∧ Ply w' O' gp xs r.1 ∧ (∀ b, O' b → O b ∨ w.heap.size ≤ b) ∧ (∀ ad, A = some ad → ¬ O' ad.block) ∧ Turn O w w'
/-- A run leaves a Play. -/
theorem go_post {xs : List Pst} {wr w' : World} {e : Ending} {p : Pd} {t gp hi gs cap : Nat} {tv : Value} (hR : RunPost gp hi gs cap xs tv p.tr (runR xs 256 t p.cnt []) wr e w') (hb : gp < gs ∧ gs < hi ∧ hi ≤ wr.heap.size) (htv : ∀ b, tv.ownBlock = some b → hi ≤ b ∧ b < wr.heap.size) :
    ∃ O' A k, e = .returned (.slice A (goP xs p t).2.length k) ∧ OwnB w' wr.heap.size 5 (.slice A (goP xs p t).2.length k) (goP xs p t).2.length (goP xs p t).2 ∧ Ply w' O' gp xs (goP xs p t).1 ∧ (∀ b, O' b → (gp ≤ b ∧ b < hi) ∨ tv.ownBlock = some b ∨ wr.heap.size ≤ b) ∧ (∀ ad, A = some ad → ¬ O' ad.block) ∧ Turn (fun b => b = gp ∨ b = gs) wr w' := by
  obtain ⟨⟨A, k, he, ho, hcase⟩, ht⟩ := hR
  have hA : ∀ ad, A = some ad → wr.heap.size ≤ ad.block := fun ad e2 => by
    obtain ⟨A', k', hv, _, _, h4⟩ := ho.form
    injection hv with e1
    subst e1
    rcases h4 with e3 | ⟨g', e3, h5, _⟩
    · rw [e2] at e3; cases e3
    · rw [e2] at e3; injection e3 with e3; subst e3; exact h5
  rcases hcase with ⟨hst, x, rs, g, H, A', cap', hx, hrs, hg, hs, hP, hW⟩ | ⟨hst, hE⟩
  · have hbase := hW.base
    refine ⟨fun b => (gp ≤ b ∧ b < hi) ∨ tv.ownBlock = some b ∨ (g ≤ b ∧ b < H), A, k, he, ho, ⟨fun b hb' => ?_, .inl ⟨hst, hi, gs, cap, g, H, fun _ => False, x, rs, tv, ?_⟩⟩, fun b hb' => ?_, fun ad e2 hb' => ?_, ht⟩
    · have hsz := ht.size
      rcases hb' with h | h | h
      · omega
      · have := htv b h; omega
      · omega
    · refine ⟨?_, hx, hrs, hW.wat (P := fun _ => False) (fun b e => e.elim), ⟨by omega, hbase.1, hbase.2⟩, fun b e2 => by have := htv b e2; omega, fun b h => ?_⟩
      · show PlyM w' gp hi gs cap xs _ (ptrV g) (if _ then _ else _) _ tv p.tr
        rw [if_pos hst]
        unfold nAt
        rw [hx]
        exact hP
      · rcases h with h | h | h | h
        · exact .inl h
        · exact .inr (.inl h)
        · exact .inr (.inr h)
        · exact h.elim
    · rcases hb' with h | h | h
      · exact .inl h
      · exact .inr (.inl h)
      · exact .inr (.inr (by omega))
    · have h1 := hA ad e2
      have h2 := hs ad e2
      rcases hb' with h | h | h
      · omega
      · have := htv _ h; omega
      · omega
  · refine ⟨fun b => b = gp ∨ tv.ownBlock = some b, A, k, he, ho, ⟨fun b hb' => ?_, .inr ⟨hst, hi, tv, ?_, .inl rfl, fun b e => .inr e⟩⟩, fun b hb' => ?_, fun ad e2 hb' => ?_, ht⟩
    · have hsz := ht.size
      rcases hb' with h | h
      · omega
      · have := htv b h; omega
    · exact hE
    · rcases hb' with h | h
      · exact .inl (by omega)
      · exact .inr (.inl h)
    · have h1 := hA ad e2
      rcases hb' with h | h
      · omega
      · have := htv _ h; omega
section
variable {w : World} {O : Nat → Prop} {gp : Nat} {xs : List Pst} {p : Pd}
set_option maxHeartbeats 4000000 in
theorem put_over18 (h : Ply w O gp xs p) (hst : p.st ≠ 0) (c : UInt8) :
    Calls Tryz.prog 14 #[.pointer (some ⟨gp, 0, none⟩), .int .u8 (c.toNat : Int)] w fun e w' => e = .returned (.slice none 0 0) ∧ w' = w := by
  obtain ⟨h1, h2⟩ := h
  rcases h2 with ⟨e, _⟩ | ⟨e, hi, tv, h, ho, hv⟩
  · exact absurd e hst
  obtain ⟨p0, p1, p2, p3, p4, p5⟩ := h.cells
  clear h h1 hv ho hst e p0 p1 p3 p4 p5
  go_enter Tryz.func14, Tryz.ntmps14
  go_wp2
  go_ret
  exact ⟨rfl, rfl⟩
set_option maxHeartbeats 4000000 in
theorem tick_over18 (h : Ply w O gp xs p) (hst : p.st ≠ 0) :
    Calls Tryz.prog 10 #[.pointer (some ⟨gp, 0, none⟩)] w fun e w' => e = .returned (.slice none 0 0) ∧ w' = w := by
  obtain ⟨h1, h2⟩ := h
  rcases h2 with ⟨e, _⟩ | ⟨e, hi, tv, h, ho, hv⟩
  · exact absurd e hst
  obtain ⟨p0, p1, p2, p3, p4, p5⟩ := h.cells
  clear h h1 hv ho hst e p0 p1 p3 p4 p5
  go_enter Tryz.func10, Tryz.ntmps10
  go_wp2
  go_ret
  exact ⟨rfl, rfl⟩
theorem Ply.told (h : Ply w O gp xs p) : w.cell? ⟨gp, 1, none⟩ = some (.int .i64 (p.pos : Int)) ∧ w.cell? ⟨gp, 4, none⟩ = some (.int .i64 (p.st : Int)) ∧ ∃ hi tv, w.cell? ⟨gp, 5, none⟩ = some tv ∧ OwnI w hi tv p.tr.length p.tr := by
  rcases h.2 with ⟨e, hi, gs, cap, g, H, P, x, rs, tv, h⟩ | ⟨e, hi, tv, h, ho, hv⟩
  · obtain ⟨p0, p1, p2, p3, p4, p5, _⟩ := h.ply.cells
    exact ⟨p1, by rw [e]; exact p4, hi, tv, p5, h.ply.tr⟩
  · obtain ⟨p0, p1, p2, p3, p4, p5⟩ := h.cells
    exact ⟨p1, p4, hi, tv, p5, h.tr⟩
theorem state_any18 (h : Ply w O gp xs p) : Calls Tryz.prog 9 #[.pointer (some ⟨gp, 0, none⟩)] w fun e w' => e = .returned (.int .i64 (p.st : Int)) ∧ w' = w := by
  obtain ⟨_, p4, _⟩ := h.told
  clear h
  go_enter Tryz.func9, Tryz.ntmps9
  go_wp2
  go_ret
  exact ⟨rfl, rfl⟩
theorem at_any18 (h : Ply w O gp xs p) : Calls Tryz.prog 11 #[.pointer (some ⟨gp, 0, none⟩)] w fun e w' => e = .returned (.int .i64 (p.pos : Int)) ∧ w' = w := by
  obtain ⟨p1, _⟩ := h.told
  clear h
  go_enter Tryz.func11, Tryz.ntmps11
  go_wp2
  go_ret
  exact ⟨rfl, rfl⟩
set_option maxHeartbeats 4000000 in
theorem iclone_any {hi : Nat} {tv : Value} {tr : List Nat} (h : OwnI w hi tv tr.length tr) (hl : tr.length ≤ 2000000) :
    Calls Tryz.prog 20 #[tv] w fun e w' => (∃ A k, e = .returned (.slice A tr.length k) ∧ Sl natV w' A tr.length tr) ∧ Below w.heap.size w w' := by
  obtain ⟨A, k, rfl, hsl, hbl⟩ := OwnI.sl2 h
  rcases A with _ | ad
  · obtain ⟨n, hn⟩ : ∃ n, tr.length = n := ⟨_, rfl⟩
    have h0 : n = 0 := by
      rcases Nat.eq_zero_or_pos n with h0 | h0
      · exact h0
      · obtain ⟨ad, e, _⟩ := hsl.2.2 0 _ (List.getElem?_eq_getElem (by omega))
        cases e
    have HS := keepHid hsl
    rw [hn] at HS ⊢
    subst h0
    have hq := Lib.run_eql_slice_nil_nil (P := Tryz.prog) w 0 k Tryz.underlying39
    clear h hsl hbl hl
    go_enter Tryz.func20, Tryz.ntmps20
    go_wp2
    go_ret
    exact ⟨⟨none, 0, rfl, HS.out⟩, Below.refl _ _⟩
  · obtain ⟨G, hG⟩ : ∃ G, ad = ⟨G, 0, none⟩ := by
      rcases h.2 with ⟨hv, _⟩ | ⟨g, cap, cur, hv, _⟩
      · cases hv
      · injection hv with e1; injection e1 with e1; exact ⟨g, e1⟩
    subst hG
    obtain ⟨w1, hw1⟩ : ∃ w1, w.alloc (.cells #[] 3) = w1 := ⟨_, rfl⟩
    have hb1 : Below w.heap.size w w1 := by rw [← hw1]; exact (Below.refl _ _).alloc (Nat.le_refl _) _
    have H0 : Hid (OwnI w1 w.heap.size (.slice (some ⟨w.heap.size, 0, none⟩) 0 0) 0 []) := keepHid (by rw [← hw1]; exact World.ownsRow_lit (base := w.heap.size) (e := 3) (size := 1) w #[] 0 (Nat.le_refl _) (by unfold maxLen; omega) rfl)
    have HC := keepHid (hsl.below hb1)
    have HB : Hid (Below w.heap.size w w1) := keepHid hb1
    have HL := keepHid hl
    obtain ⟨n, hn⟩ : ∃ n, tr.length = n := ⟨_, rfl⟩
    rw [hn] at HC hl ⊢
    have hq := Lib.run_eql_slice_some_nil (P := Tryz.prog) w ⟨G, 0, none⟩ n k Tryz.underlying39
    clear h hsl hb1 hbl hn
    go_enter Tryz.func20, Tryz.ntmps20
    go_wp2_with (at_builtin; refine wpList_append_ints _ rfl _ _ rfl w.heap.size (.slice (some ⟨w.heap.size, 0, none⟩) 0 0) 0 [] (by rfl) H0.out (some ⟨G, 0, none⟩) n k tr (by rfl) HC.out (by omega) HB.out.size ?_)
    intro v2 w2 q1 q2 q3
    have q1 : OwnI w2 w.heap.size v2 n tr := by simpa using q1
    have HP : Hid ((∃ A k, v2 = .slice A n k ∧ Sl natV w2 A n tr) ∧ Below w.heap.size w w2) := keepHid ⟨by
      obtain ⟨A2, k2, e2, h2, _⟩ := OwnI.sl2 q1
      exact ⟨A2, k2, e2, h2⟩, HB.out.trans (below_grown q2 (fun i hi => by rw [← Option.some.inj hi]; exact Nat.le_refl _) HB.out.size)⟩
    clear q1 q2 q3
    obtain ⟨⟨A2, k2, rfl, h2⟩, h3⟩ := HP.out
    have H2 := keepHid h2
    have H3 := keepHid h3
    clear h2 h3 HP
    go_wp2
    go_ret
    exact ⟨⟨A2, k2, rfl, H2.out⟩, H3.out⟩
set_option maxHeartbeats 4000000 in
theorem trace_any18 (h : Ply w O gp xs p) (hl : p.tr.length ≤ 2000000) :
    Calls Tryz.prog 12 #[.pointer (some ⟨gp, 0, none⟩)] w fun e w' => (∃ A k, e = .returned (.slice A p.tr.length k) ∧ Sl natV w' A p.tr.length p.tr) ∧ Below w.heap.size w w' := by
  obtain ⟨_, _, hi, tv, p5, ho⟩ := h.told
  have HC := keepHid (iclone_any ho hl)
  obtain ⟨A, k, etv, _⟩ := OwnI.sl2 ho
  rw [etv] at p5
  rw [etv] at HC
  clear h ho hl etv
  generalize p.tr.length = n at *
  go_enter Tryz.func12, Tryz.ntmps12
  go_wp2_with fail
  refine HC.out.mono ?_
  rintro e w2 ⟨⟨A2, k2, rfl, h2⟩, hb⟩
  have H2 := keepHid h2
  have HB := keepHid hb
  clear h2 hb
  go_wp2
  go_ret
  exact ⟨⟨A2, k2, rfl, H2.out⟩, HB.out⟩
/-- What was traced grows by one. -/
theorem ply_trace {w w3 : World} {hi gs cap : Nat} {pos : Nat} {wv : Value} {ticks : Int} {c : List Nat} {tv tv' : Value} {tr : List Nat} {i : Nat} (h : PlyM w gp hi gs cap xs pos wv ticks c tv tr) (hg : w.grownBy w3 tv.ownBlock) (ho : OwnI w3 hi tv' (tr.length + 1) (tr ++ [i])) :
    PlyM (w3.setCell ⟨gp, 5, none⟩ tv') gp hi gs cap xs pos wv ticks c tv' (tr ++ [i]) ∧ w3.cell? ⟨gp, 5, none⟩ = some tv ∧ w3.frozen? ⟨gp, 5, none⟩ = false := by
  obtain ⟨b1, b2, b3⟩ := h.base
  have ht3 := turn_grown hg
  have hk3 := ht3.blk h.blk (h.tr_ne (b := gp) (by omega))
  have ht : Turn (fun b => b = gp) w3 (w3.setCell ⟨gp, 5, none⟩ tv') := Turn.setCell (S := fun b => b = gp) (Turn.refl _ w3) (.inl rfl) _
  have hs3 := h.stp.turn ht3 (fun b e => ⟨fun e2 => h.tr_ne (b := gs) b2 (by rw [← e2]; exact e), fun e2 => h.tr_ne (b := b) e2.2 e⟩)
  refine ⟨⟨hk3.put 5 tv', hs3.turn ht (fun b e => by omega), ?_, ⟨b1, b2, Nat.le_trans b3 (Nat.le_trans ht3.size ht.size)⟩, h.cap⟩, hk3.cell 5, hk3.frozen 5⟩
  rw [List.length_append]
  exact ho.turn ht (fun b e e2 => by have := (World.ownsRow.lt ho b e).1; omega)
/-- A run, behind other things that have turned. -/
theorem ply_post {w wr w' : World} {e : Ending} {hi gs cap t : Nat} {tv : Value} {q : Pd} (hR : RunPost gp hi gs cap xs tv q.tr (runR xs 256 t q.cnt []) wr e w') (hb : gp < gs ∧ gs < hi ∧ hi ≤ wr.heap.size) (htv : ∀ b, tv.ownBlock = some b → hi ≤ b ∧ b < wr.heap.size)
    (ht : Turn O w wr) (hO : ∀ b, gp ≤ b ∧ b < hi → O b) (hOv : ∀ b, tv.ownBlock = some b → O b ∨ w.heap.size ≤ b) : PlyPost O gp xs (goP xs q t) w e w' := by
  obtain ⟨O', A, k, he, ho, hp, h1, h2, h3⟩ := go_post (p := q) hR hb htv
  refine ⟨O', A, k, he, own_low ho ht.size, hp, fun b hb' => ?_, h2, ht.trans (h3.mono fun b e => ?_)⟩
  · rcases h1 b hb' with h | h | h
    · exact .inl (hO b h)
    · exact hOv b h
    · exact .inr (Nat.le_trans ht.size h)
  · rcases e with rfl | rfl
    · exact hO _ (by omega)
    · exact hO _ (by omega)
theorem goP_put {p : Pd} {c : UInt8} {x : Pst} {rs : List Re} (hst : p.st = 0) (hx : xs[p.pos]? = some x) (hrs : of9 x.pats = .inl rs) {i a : Nat} (hi : armA (rs.map auOf) (p.heard ++ [c]) = some i) (ha : x.arms[i]? = some a) : putP xs p c = goP xs { p with tr := p.tr ++ [i] } a := by
  have h1 : asAt xs p.pos = rs.map auOf := by unfold asAt; rw [hx]; simp only [hrs]
  have h2 : armAt xs p.pos i = a := by unfold armAt; rw [hx]; simp only [List.getD_eq_getElem?_getD, ha]; rfl
  unfold putP
  rw [if_pos hst, h1, hi]
  show goP xs _ (armAt xs p.pos i) = _
  rw [h2]
theorem putP_none {p : Pd} {c : UInt8} {x : Pst} {rs : List Re} (hst : p.st = 0) (hx : xs[p.pos]? = some x) (hrs : of9 x.pats = .inl rs) (hi : armA (rs.map auOf) (p.heard ++ [c]) = none) : putP xs p c = ({ p with heard := p.heard ++ [c] }, []) := by
  have h1 : asAt xs p.pos = rs.map auOf := by unfold asAt; rw [hx]; simp only [hrs]
  unfold putP
  rw [if_pos hst, h1, hi]
theorem arm_idx {rs : List Re} {t : List UInt8} {i : Nat} (h : armA (rs.map auOf) t = some i) : i < rs.length := by
  obtain ⟨⟨a, ha, _⟩, _⟩ := arm_some.1 h
  have := (List.getElem?_eq_some_iff.1 ha).1
  rwa [List.length_map] at this
set_option maxRecDepth 100000 in
set_option maxHeartbeats 16000000 in
theorem put_any18 (hX : PstsOk xs) (h : Ply w O gp xs p) (hk : PdOk xs p) (hst : p.st = 0) (hh : p.heard.length < 9223372036854775807) (htr : p.tr.length < 1000000000) (c : UInt8) :
    Calls Tryz.prog 14 #[.pointer (some ⟨gp, 0, none⟩), .int .u8 (c.toNat : Int)] w (PlyPost O gp xs (putP xs p c) w) := by
  obtain ⟨h1, h2⟩ := h
  rcases h2 with ⟨_, hi, gs, cap, g, H, P, x, rs, tv, h⟩ | ⟨e, _⟩
  case inr => exact absurd hst e
  have HW := keepHid (put_wait h.wat c hh)
  have HH := keepHid h
  have HO := keepHid h1
  have HBS := keepHid h.ply.base
  have HTV : Hid (∀ b, tv.ownBlock = some b → hi ≤ b ∧ b < w.heap.size) := keepHid (fun b e => World.ownsRow.lt h.ply.tr b e)
  obtain ⟨p0, p1, p2, p3, p4, p5, pf⟩ := h.ply.cells
  have HLL : Hid (x.arms.length = rs.length) := keepHid (by rw [(hX.all x (List.mem_of_getElem? h.step)).len, of9_len _ _ h.pats])
  have HXO := keepHid hX
  have HCN := keepHid hk.cnt
  have HST := keepHid hst
  have HTR := keepHid htr
  have HOG : Hid (O g) := keepHid (h.own g (.inr (.inr (.inl ⟨Nat.le_refl _, h.lo.2.1⟩))))
  clear h h1 hX hk hst hh p0 p1 p3 p4 p5
  unfold ptrV at p2
  go_enter Tryz.func14, Tryz.ntmps14
  go_wp2_with fail
  refine HW.out.mono ?_
  rintro e w1 ⟨hcase, ht1⟩
  have HT1 := keepHid ht1
  rcases hcase with ⟨i, hi', rfl, hov⟩ | ⟨hn, rfl, hw1⟩
  · have HI := keepHid hi'
    have HM1 : Hid (PlyM w1 gp hi gs cap xs p.pos (ptrV g) p.ticks p.cnt tv p.tr) := keepHid (HH.out.ply.turn ht1 (fun b e => by subst e; have := HH.out.lo; exact ⟨by omega, fun e2 => by have := HH.out.old _ e2; omega⟩))
    have hil : i < x.arms.length := by rw [HLL.out]; exact arm_idx hi'
    obtain ⟨a, ha⟩ : ∃ a, x.arms[i]? = some a := ⟨_, List.getElem?_eq_getElem hil⟩
    have HAA := keepHid ha
    have HAL : Hid (a < xs.length) := keepHid ((HXO.out.all x (List.mem_of_getElem? HH.out.step)).arms a (List.mem_of_getElem? ha))
    clear hi' hov ht1 ha p2 pf
    obtain ⟨q0, q1, q2, q3, q4, q5, qf⟩ := HM1.out.cells
    obtain ⟨At, ct, etv, hct⟩ := own_val HM1.out.tr
    have HE := keepHid etv
    rw [etv] at q5
    obtain ⟨w2, hw2⟩ : ∃ w2, w1.alloc (.cells #[.int .i64 (i : Int)] 3) = w2 := ⟨_, rfl⟩
    have hB2 : Below w1.heap.size w1 w2 := by rw [← hw2]; exact (Below.refl _ _).alloc (Nat.le_refl _) _
    have hK2 : Blk w2 w1.heap.size 3 #[.int .i64 (i : Int)] := by rw [← hw2]; exact Blk.new _ _ _
    have HC2 : Hid (w2.cell? ⟨w1.heap.size, 0, none⟩ = some (natV i)) := keepHid (hK2.cell 0)
    have HM2 := keepHid (HM1.out.below hB2)
    have HB2 := keepHid hB2
    have HO2 : Hid (OwnI w2 hi (.slice At p.tr.length ct) p.tr.length p.tr) := keepHid (by have := HM2.out.tr; rw [etv] at this; exact this)
    have HG2 : Hid (hi ≤ w2.heap.size) := keepHid HM2.out.base.2.2
    clear etv hct hB2 hK2 q0 q1 q2 q3 q4
    go_wp2_with (at_builtin; refine wpList_append_cell Tryz.underlying39 infoInt rfl (by omega) w2 rfl _ _ rfl hi (.slice At p.tr.length ct) p.tr.length (p.tr.map natV) (by rfl) HO2.out w1.heap.size (by rfl) (natV i) HC2.out rfl htr HG2.out ?_)
    intro P3 c3 w3 ho3 hg3 hv3
    have hpt := ply_trace (i := i) HM2.out (by rw [HE.out]; exact hg3) (tv' := .slice P3 (p.tr.length + 1) c3) (by unfold OwnI; rw [List.map_append]; exact ho3)
    obtain ⟨w4, hw4⟩ : ∃ w4, w3.setCell ⟨gp, 5, none⟩ (.slice P3 (p.tr.length + 1) c3) = w4 := ⟨_, rfl⟩
    rw [hw4] at hpt
    have HM4 := keepHid hpt.1
    have r5 := hpt.2.1
    have rf := hpt.2.2
    rw [HE.out] at r5
    have HT4 : Hid (Turn O w w4) := keepHid (by
      have a1 : Turn O w w1 := HT1.out.mono fun b e => by rw [e]; exact HOG.out
      have a2 : Turn (fun _ => False) w1 w2 := Turn.of_below HB2.out
      have a3 : Turn (fun b => tv.ownBlock = some b) w2 w3 := turn_grown (by rw [HE.out]; exact hg3)
      have a4 : Turn (fun b => b = gp) w3 w4 := by rw [← hw4]; exact Turn.setCell (S := fun b => b = gp) (Turn.refl _ w3) (.inl rfl) _
      exact ((a1.trans (a2.mono fun b e => e.elim)).trans (a3.mono fun b e => HH.out.own b (.inr (.inl e)))).trans (a4.mono fun b e => by rw [e]; exact HH.out.own gp (.inl (by have := HBS.out; omega))))
    have HV4 : Hid (∀ b, (Value.slice P3 (p.tr.length + 1) c3).ownBlock = some b → (O b ∨ w.heap.size ≤ b) ∧ hi ≤ b ∧ b < w4.heap.size) := keepHid (fun b e => by
      have hlt := World.ownsRow.lt HM4.out.tr b e
      refine ⟨?_, hlt⟩
      rcases hv3 with h | h
      · left
        refine HH.out.own b (.inr (.inl ?_))
        rw [HE.out, ← h]; exact e
      · right
        rw [h] at e
        injection e with e
        have b1 := HT1.out.size
        have b2 := HB2.out.size
        omega)
    clear hpt ho3 hg3 hv3 qf q5
    have HMD : Hid (PlyM w4.drew gp hi gs cap xs p.pos (ptrV g) p.ticks p.cnt (.slice P3 (p.tr.length + 1) c3) (p.tr ++ [i])) := keepHid (HM4.out.turn (S := fun _ => False) (Turn.refl _ w4).drew (fun _ e => e.elim))
    have HRN := keepHid (run_any18 HXO.out HMD.out HCN.out a (Nat.le_of_lt HAL.out))
    obtain ⟨s0, s1, s2, s3, s4, s5, sf⟩ := HM4.out.cells
    obtain ⟨Pq, pc, Q, qc, t0, t1, t2, t3, t4, t5, t6, _, hsq⟩ := HM4.out.stp.at_ HH.out.step
    obtain ⟨ad, rfl, hadl, hadc⟩ := hsq.2.2 i a HAA.out
    unfold natV at hadc
    have HPL : Hid (p.pos < xs.length) := keepHid (List.getElem?_eq_some_iff.1 HH.out.step).1
    have hplI : (p.pos : Int) < (xs.length : Int) := by have := HPL.out; omega
    have hilI : (i : Int) < (x.arms.length : Int) := by omega
    have HGP := keepHid (goP_put HST.out HH.out.step HH.out.pats HI.out HAA.out)
    have hxs64 := HXO.out.few.2
    clear s2 s3 s4 s5 t0 t1 t2 t4 t5 t6 hsq hadl HAA
    go_wp2_with fail
    try rw [hw4]
    clear hw4 r5 rf hw2
    go_region_with (go_at_call 19; (with_reducible refine HRN.out.mono ?_); rintro e w5 hr; have HR5 := keepHid hr; obtain ⟨⟨A5, k5, he, hx5⟩, hy5⟩ := hr; subst he; clear hx5 hy5)
    all_goals
      go_wp2
      go_ret
      rw [HGP.out]
      exact ply_post (q := { p with tr := p.tr ++ [i] }) HR5.out HMD.out.base (fun b e => (HV4.out b e).2) HT4.out.drew (fun b e => HH.out.own b (.inl e)) (fun b e => (HV4.out b e).1)
  · have HPN := keepHid (putP_none HST.out HH.out.step HH.out.pats hn)
    have HP : Hid (PlyPost O gp xs (putP xs p c) w (.returned (.slice none 0 0)) w1) := keepHid (by
      rw [HPN.out]
      refine ⟨fun b => O b ∨ (w.heap.size ≤ b ∧ b < w1.heap.size), none, 0, rfl, OwnB.nil _ _ _, ⟨fun b hb => ?_, .inl ⟨HST.out, hi, gs, cap, g, H, more P w w1, x, rs, tv, ?_⟩⟩, fun b hb => ?_, (fun ad e => by cases e), HT1.out.mono fun b e => by rw [e]; exact HOG.out⟩
      · have hs := HT1.out.size
        rcases hb with hb | hb
        · have := HO.out b hb; omega
        · have := HBS.out; omega
      · refine ⟨HH.out.ply.turn ht1 (fun b e => by subst e; have := HH.out.lo; exact ⟨by omega, fun e2 => by have := HH.out.old _ e2; omega⟩), HH.out.step, HH.out.pats, hw1, ⟨HH.out.lo.1, HH.out.lo.2.1, Nat.le_trans HH.out.lo.2.2 HT1.out.size⟩, HH.out.old, fun b hb => ?_⟩
        rcases hb with hb | hb | hb | hb | hb
        · exact .inl (HH.out.own b (.inl hb))
        · exact .inl (HH.out.own b (.inr (.inl hb)))
        · exact .inl (HH.out.own b (.inr (.inr (.inl hb))))
        · exact .inl (HH.out.own b (.inr (.inr (.inr hb))))
        · exact .inr hb
      · rcases hb with hb | hb
        · exact .inl hb
        · exact .inr hb.1)
    clear hw1 hn ht1
    go_wp2
    go_ret
    exact HP.out
theorem dstAt_is {x : Pst} {k d : Nat} (hx : xs[k]? = some x) (hd : x.dst = (d : Int)) : dstAt xs k = d := by
  unfold dstAt; rw [hx]; simp only [hd]; omega
set_option maxRecDepth 100000 in
set_option maxHeartbeats 16000000 in
theorem tick_any18 (hX : PstsOk xs) (h : Ply w O gp xs p) (hk : PdOk xs p) (hst : p.st = 0) (htk : -9223372036854775807 ≤ p.ticks ∧ p.ticks ≤ 9223372036854775807) :
    Calls Tryz.prog 10 #[.pointer (some ⟨gp, 0, none⟩)] w (PlyPost O gp xs (tickP xs p) w) := by
  obtain ⟨h1, h2⟩ := h
  rcases h2 with ⟨_, hi, gs, cap, g, H, P, x, rs, tv, h⟩ | ⟨e, _⟩
  case inr => exact absurd hst e
  have HH := keepHid h
  have HO := keepHid h1
  have HBS := keepHid h.ply.base
  have HTV : Hid (∀ b, tv.ownBlock = some b → hi ≤ b ∧ b < w.heap.size) := keepHid (fun b e => World.ownsRow.lt h.ply.tr b e)
  obtain ⟨p0, p1, p2, p3, p4, p5, pf⟩ := h.ply.cells
  have HXO := keepHid hX
  have HCN := keepHid hk.cnt
  have HST := keepHid hst
  have HOP : Hid (O gp) := keepHid (h.own gp (.inl (by have := h.ply.base; omega)))
  obtain ⟨T, hT⟩ : ∃ T, p.ticks - 1 = T := ⟨_, rfl⟩
  have HT := keepHid hT
  obtain ⟨w1, hw1⟩ : ∃ w1, w.setCell ⟨gp, 3, none⟩ (.int .i64 T) = w1 := ⟨_, rfl⟩
  have HM1 : Hid (PlyM w1 gp hi gs cap xs p.pos (ptrV g) T p.cnt tv p.tr) := keepHid (by rw [← hw1]; exact h.ply.put 3 _ rfl)
  have HT1 : Hid (Turn (fun b => b = gp) w w1) := keepHid (by rw [← hw1]; exact Turn.setCell (S := fun b => b = gp) (Turn.refl _ w) (.inl rfl) _)
  have hkx : x.kind = 1 := by
    obtain ⟨x', hx', hk'⟩ := hk.wait hst
    rw [h.step] at hx'
    rw [← Option.some.inj hx'] at hk'
    exact hk'
  have hxo := hX.all x (List.mem_of_getElem? h.step)
  have hd0 := hxo.goes (.inl hkx)
  have hd1 := hxo.dst
  obtain ⟨d, hd⟩ : ∃ d : Nat, x.dst = (d : Int) := ⟨x.dst.toNat, by omega⟩
  have HD := keepHid hd
  have HDL : Hid (d ≤ xs.length) := keepHid (by rw [hd] at hd1; omega)
  have HPL : Hid (p.pos < xs.length) := keepHid (List.getElem?_eq_some_iff.1 h.step).1
  have hplI : (p.pos : Int) < (xs.length : Int) := by have := HPL.out; omega
  have HDA := keepHid (dstAt_is h.step hd)
  obtain ⟨q0, q1, q2, q3, q4, q5, qf⟩ := HM1.out.cells
  obtain ⟨Pq, pc, Q, qc, t0, t1, t2, t3, t4, t5, t6, _, _⟩ := HM1.out.stp.at_ h.step
  rw [hd] at t5
  have hTT : p.ticks = T + 1 := by omega
  have HTT := keepHid hTT
  have htk' : -9223372036854775808 ≤ T ∧ T ≤ 9223372036854775806 := by omega
  obtain ⟨hk1, hk2⟩ := htk'
  rw [hTT] at p3
  clear h h1 hX hk hst p0 p1 p4 p5 hkx hxo hd0 hd1 hd q2 q4 q5 t0 t1 t2 t3 t4 t6 hT htk hTT
  unfold ptrV at p2
  by_cases h0 : 0 < T
  · have hP : tickP xs p = ({ p with ticks := T }, []) := by
      unfold tickP
      rw [if_pos HST.out, HT.out, if_pos h0]
    have HP : Hid (PlyPost O gp xs (tickP xs p) w (.returned (.slice none 0 0)) w1) := keepHid (by
      rw [hP]
      have ht := HT1.out
      refine ⟨O, none, 0, rfl, OwnB.nil _ _ _, ⟨fun b hb => ⟨(HO.out b hb).1, Nat.lt_of_lt_of_le (HO.out b hb).2 ht.size⟩, .inl ⟨HST.out, hi, gs, cap, g, H, P, x, rs, tv, ⟨HM1.out, HH.out.step, HH.out.pats, HH.out.wat.turn ht (fun b e => by have := HH.out.lo; have := HBS.out; omega), ⟨HH.out.lo.1, HH.out.lo.2.1, Nat.le_trans HH.out.lo.2.2 ht.size⟩, HH.out.old, HH.out.own⟩⟩⟩, fun b hb => .inl hb, (fun ad e => by cases e), ht.mono fun b e => by rw [e]; exact HOP.out⟩)
    clear hP
    go_enter Tryz.func10, Tryz.ntmps10
    go_wp2_with fail
    try rw [hw1]
    go_wp2
    go_ret
    exact HP.out
  · have HP : Hid (tickP xs p = goP xs p d) := keepHid (by
      unfold tickP
      rw [if_pos HST.out, HT.out, if_neg h0, HDA.out])
    have hxs64 := HXO.out.few.2
    have HMD : Hid (PlyM w1.drew gp hi gs cap xs p.pos (ptrV g) T p.cnt tv p.tr) := keepHid (HM1.out.turn (S := fun _ => False) (Turn.refl _ w1).drew (fun _ e => e.elim))
    have HRN := keepHid (run_any18 HXO.out HMD.out HCN.out d HDL.out)
    go_enter Tryz.func10, Tryz.ntmps10
    go_wp2_with fail
    try rw [hw1]
    clear hw1 p2 p3 pf
    go_wp2_with fail
    go_region_with (go_at_call 19; (with_reducible refine HRN.out.mono ?_); rintro e w5 hr; have HR5 := keepHid hr; obtain ⟨⟨A5, k5, he, hx5⟩, hy5⟩ := hr; subst he; clear hx5 hy5)
    all_goals
      go_wp2
      go_ret
      rw [HP.out]
      exact ply_post (q := p) HR5.out HMD.out.base (fun b e => ⟨(HTV.out b e).1, Nat.lt_of_lt_of_le (HTV.out b e).2 HT1.out.size⟩) (HT1.out.mono fun b e => by rw [e]; exact HOP.out).drew (fun b e => HH.out.own b (.inl e)) (fun b e => .inl (HH.out.own b (.inr (.inl e))))
end


theorem ply_still {w : World} {O : Nat → Prop} {gp : Nat} {xs : List Pst} {p : Pd} (h : Ply w O gp xs p) : PlyPost O gp xs (p, []) w (.returned (.slice none 0 0)) w :=
  ⟨O, none, 0, rfl, OwnB.nil _ _ _, h, fun b hb => .inl hb, (fun ad e => by cases e), Turn.refl _ _⟩
theorem put_ply {w : World} {O : Nat → Prop} {gp : Nat} {xs : List Pst} {p : Pd} (hX : PstsOk xs) (h : Ply w O gp xs p) (hk : PdOk xs p) (hh : p.heard.length < 9223372036854775807) (htr : p.tr.length < 1000000000) (c : UInt8) :
    Calls Tryz.prog 14 #[.pointer (some ⟨gp, 0, none⟩), .int .u8 (c.toNat : Int)] w (PlyPost O gp xs (putP xs p c) w) := by
  by_cases hst : p.st = 0
  · exact put_any18 hX h hk hst hh htr c
  · have e : putP xs p c = (p, []) := by unfold putP; rw [if_neg hst]
    rw [e]
    exact (put_over18 h hst c).mono fun e w' ⟨h1, h2⟩ => by subst h1; subst h2; exact ply_still h
theorem tick_ply {w : World} {O : Nat → Prop} {gp : Nat} {xs : List Pst} {p : Pd} (hX : PstsOk xs) (h : Ply w O gp xs p) (hk : PdOk xs p) (htk : -9223372036854775807 ≤ p.ticks ∧ p.ticks ≤ 9223372036854775807) :
    Calls Tryz.prog 10 #[.pointer (some ⟨gp, 0, none⟩)] w (PlyPost O gp xs (tickP xs p) w) := by
  by_cases hst : p.st = 0
  · exact tick_any18 hX h hk hst htk
  · have e : tickP xs p = (p, []) := by unfold tickP; rw [if_neg hst]
    rw [e]
    exact (tick_over18 h hst).mono fun e w' ⟨h1, h2⟩ => by subst h1; subst h2; exact ply_still h
/-- What was sent lies there, apart from the Play. -/
structure Snt (w : World) (O : Nat → Prop) (A : Option Addr) (n : Nat) (bs : List UInt8) : Prop where
  bys : Bys w w.heap.size A n bs
  apart : Apart O A n
theorem OwnB.bys2 {w : World} {base n k : Nat} {A : Option Addr} {bs : List UInt8} (h : OwnB w base 5 (.slice A n k) n bs) : Bys w w.heap.size A n bs := by
  obtain ⟨A', k', e, h1, h2, _⟩ := h.form
  exact h.bys (by omega)
theorem Snt.next {w w' : World} {O O' : Nat → Prop} {A : Option Addr} {n : Nat} {bs : List UInt8} (h : Snt w O A n bs) (ht : Turn O w w') (hO : ∀ b, O' b → O b ∨ w.heap.size ≤ b) : Snt w' O' A n bs := by
  refine ⟨(h.bys.turn ht (Nat.le_refl _) h.apart).more ht.size, fun hn ad e hb => ?_⟩
  obtain ⟨ad', c, e', hl, _⟩ := h.bys.at_ hn
  rw [e] at e'
  have e' := Option.some.inj e'
  subst e'
  rcases hO _ hb with h1 | h1
  · exact h.apart hn ad e h1
  · omega
/-- Facts of a call's print. -/
structure PlyOut (w w' : World) (O O' : Nat → Prop) (gp : Nat) (xs : List Pst) (r : Pd × List UInt8) (A : Option Addr) (k : Nat) : Prop where
  ply : Ply w' O' gp xs r.1
  sub : ∀ b, O' b → O b ∨ w.heap.size ≤ b
  turn : Turn O w w'
  snt : Snt w' O' A r.2.length r.2
theorem PlyPost.out {O : Nat → Prop} {gp : Nat} {xs : List Pst} {r : Pd × List UInt8} {w w' : World} {e : Ending} (h : PlyPost O gp xs r w e w') : ∃ O' A k, e = .returned (.slice A r.2.length k) ∧ PlyOut w w' O O' gp xs r A k := by
  obtain ⟨O', A, k, he, ho, hp, h1, h2, h3⟩ := h
  exact ⟨O', A, k, he, hp, h1, h3, ho.bys2, fun _ ad e => h2 ad e⟩
theorem PlyOut.below {B : Nat} {O O' : Nat → Prop} {gp : Nat} {xs : List Pst} {r : Pd × List UInt8} {w w' : World} {A : Option Addr} {k : Nat} (h : PlyOut w w' O O' gp xs r A k) (hO : ∀ b, O b → B ≤ b) (hB : B ≤ w.heap.size) : Below B w w' := h.turn.below hO hB
theorem PlyOut.low {B : Nat} {O O' : Nat → Prop} {gp : Nat} {xs : List Pst} {r : Pd × List UInt8} {w w' : World} {A : Option Addr} {k : Nat} (h : PlyOut w w' O O' gp xs r A k) (hO : ∀ b, O b → B ≤ b) (hB : B ≤ w.heap.size) : ∀ b, O' b → B ≤ b := fun b hb => by
  rcases h.sub b hb with h1 | h1
  · exact hO b h1
  · exact Nat.le_trans hB h1
/-- Its ticks are few. -/
def PdT (p : Pd) : Prop := 0 ≤ p.ticks ∧ p.ticks ≤ 1000000
theorem pdt_go {xs : List Pst} (hX : PstsOk xs) (p : Pd) (t : Nat) : PdT (goP xs p t).1 := by
  unfold PdT goP
  dsimp only
  split
  · have h : nAt xs (runR xs 256 t p.cnt []).pos ≤ 1000000 := by
      unfold nAt
      split
      · rename_i x hx
        exact (hX.all x (List.mem_of_getElem? hx)).n.2
      · omega
    omega
  · omega
theorem pdt_put {xs : List Pst} (hX : PstsOk xs) {p : Pd} (c : UInt8) (h : PdT p) : PdT (putP xs p c).1 := by
  unfold putP
  split
  · split
    · exact h
    · exact pdt_go hX _ _
  · exact h
theorem pdt_tick {xs : List Pst} (hX : PstsOk xs) {p : Pd} (h : PdT p) : PdT (tickP xs p).1 := by
  unfold tickP
  split
  · split
    · unfold PdT at h ⊢; dsimp only; omega
    · exact pdt_go hX _ _
  · exact h
theorem pdt_of {xs : List Pst} (hX : PstsOk xs) : PdT (ofP xs).1 := pdt_go hX _ _
theorem PdT.le {p : Pd} (h : PdT p) : -9223372036854775807 ≤ p.ticks ∧ p.ticks ≤ 9223372036854775807 := by unfold PdT at h; omega
/-- Steps laid in one go. -/
theorem sts_lit (w : World) (base : Nat) (zs : List (Sp × Value)) (n : Nat) (hn : zs.length = n) (cs : Array Value) (hcs : cs = (zs.flatMap fun z => stL z.1 z.2).toArray) (hA : ∀ z ∈ zs, ∃ m, OwnA w base z.2 m z.1.arms) (hb : base ≤ w.heap.size) (hm : n ≤ 1000) :
    OwnSt (w.alloc (.cells cs 26)) base (.slice (some ⟨w.heap.size, 0, none⟩) n n) n (zs.map Prod.fst) := by
  subst hcs
  refine ⟨zs, rfl, ?_, fun z hz => ?_⟩
  · have := World.ownsRow_lit (base := base) (e := 26) (size := 7) w (zs.flatMap fun z => stL z.1 z.2).toArray n hb (by unfold maxLen; omega) (by rw [List.size_toArray, flat_len _ 7 (fun _ => rfl), hn])
    simpa using this
  · obtain ⟨m, h⟩ := hA z hz
    exact ⟨m, h.below ((Below.refl _ _).alloc (Nat.le_refl _) _)⟩
end Go.Proofs.YtgndcgknedmalaaGreatDoor
