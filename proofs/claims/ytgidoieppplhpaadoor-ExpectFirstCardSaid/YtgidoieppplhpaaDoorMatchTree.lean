/-
  A pattern that is read along a text, as it lies in memory: package match's parts.
-/
import Derived.Test.YtgidoieppplhpaaDoorMatchPlain
import Derived.Test.YtgidoieppplhpaaDoorRegexTree
import Derived.LoopTactic
import Derived.Deep.RegionHeld
import Derived.Deep.DeepCutAuto
namespace Go.Proofs.YtgidoieppplhpaaDoor
open Go.RowKit
set_option linter.unusedVariables false

/-- A part's own nine cells. -/
structure Ph where
  k : Int
  s : St
  A : Option Addr
  n : Nat
  c : Nat
  m : Bool
  l : Bool
  e : Bool
def phL (h : Ph) : List Value := [.int .i64 h.k, .int .u64 (h.s.a.toNat : Int), .int .u64 (h.s.b.toNat : Int), .int .u64 (h.s.c.toNat : Int), .int .u64 (h.s.d.toNat : Int), .slice h.A h.n h.c, .bool h.m, .bool h.l, .bool h.e]
def phV (h : Ph) : Value := .agg #[.int .i64 h.k, .int .u64 (h.s.a.toNat : Int), .int .u64 (h.s.b.toNat : Int), .int .u64 (h.s.c.toNat : Int), .int .u64 (h.s.d.toNat : Int), .slice h.A h.n h.c, .bool h.m, .bool h.l, .bool h.e]
/-- It lies in block g from place o on, and may be written. -/
structure AtPh (w : World) (g o : Nat) (h : Ph) : Prop where
  c0 : w.cell? ⟨g, o, none⟩ = some (.int .i64 h.k)
  c1 : w.cell? ⟨g, o + 1, none⟩ = some (.int .u64 (h.s.a.toNat : Int))
  c2 : w.cell? ⟨g, o + 2, none⟩ = some (.int .u64 (h.s.b.toNat : Int))
  c3 : w.cell? ⟨g, o + 3, none⟩ = some (.int .u64 (h.s.c.toNat : Int))
  c4 : w.cell? ⟨g, o + 4, none⟩ = some (.int .u64 (h.s.d.toNat : Int))
  c5 : w.cell? ⟨g, o + 5, none⟩ = some (.slice h.A h.n h.c)
  c6 : w.cell? ⟨g, o + 6, none⟩ = some (.bool h.m)
  c7 : w.cell? ⟨g, o + 7, none⟩ = some (.bool h.l)
  c8 : w.cell? ⟨g, o + 8, none⟩ = some (.bool h.e)
  fz : ∀ i, w.frozen? ⟨g, i, none⟩ = false
theorem AtPh.lt {w : World} {g o : Nat} {h : Ph} (a : AtPh w g o h) : g < w.heap.size := World.block_lt_of_cell? _ _ a.c0
theorem AtPh.keep {w w' : World} {g o : Nat} {h : Ph} (a : AtPh w g o h) (hk : w'.heap[g]? = w.heap[g]?) : AtPh w' g o h :=
  ⟨(World.cell?_of_block hk).trans a.c0, (World.cell?_of_block hk).trans a.c1, (World.cell?_of_block hk).trans a.c2, (World.cell?_of_block hk).trans a.c3, (World.cell?_of_block hk).trans a.c4, (World.cell?_of_block hk).trans a.c5,
    (World.cell?_of_block hk).trans a.c6, (World.cell?_of_block hk).trans a.c7, (World.cell?_of_block hk).trans a.c8, fun i => (World.frozen?_of_block hk).trans (a.fz i)⟩

/-- The part is the root of this tree, whose parts' kids lie in blocks from lo on, below hi; no two parts of it share any. -/
def PtK (w : World) : Nat → Nat → Ph → Pt → Prop
  | lo, hi, h, .nil => h = ⟨0, st0, none, 0, 0, true, false, false⟩
  | lo, hi, h, .one s x => h = ⟨1, s, none, 0, 0, false, x, x⟩
  | lo, hi, h, .thn a b => ∃ G c x y la ha lb hb, h = ⟨2, st0, some ⟨G, 0, none⟩, 2, c, em a && em b, lv a || lv b, en b || em b && en a⟩ ∧ 2 ≤ c ∧ c ≤ maxLen ∧ lo ≤ G ∧ G < hi ∧ lo ≤ la ∧ ha ≤ lb ∧ hb ≤ hi ∧ la ≤ ha ∧ lb ≤ hb ∧ (G < la ∨ ha ≤ G) ∧ (G < lb ∨ hb ≤ G) ∧
      AtPh w G 0 x ∧ AtPh w G 9 y ∧ PtK w la ha x a ∧ PtK w lb hb y b
  | lo, hi, h, .alt a b => ∃ G c x y la ha lb hb, h = ⟨3, st0, some ⟨G, 0, none⟩, 2, c, em a || em b, lv a || lv b, en a || en b⟩ ∧ 2 ≤ c ∧ c ≤ maxLen ∧ lo ≤ G ∧ G < hi ∧ lo ≤ la ∧ ha ≤ lb ∧ hb ≤ hi ∧ la ≤ ha ∧ lb ≤ hb ∧ (G < la ∨ ha ≤ G) ∧ (G < lb ∨ hb ≤ G) ∧
      AtPh w G 0 x ∧ AtPh w G 9 y ∧ PtK w la ha x a ∧ PtK w lb hb y b
  | lo, hi, h, .star a => ∃ G c x la ha, h = ⟨4, st0, some ⟨G, 0, none⟩, 1, c, true, lv a, en a⟩ ∧ 1 ≤ c ∧ c ≤ maxLen ∧ lo ≤ G ∧ G < hi ∧ lo ≤ la ∧ ha ≤ hi ∧ la ≤ ha ∧ (G < la ∨ ha ≤ G) ∧ AtPh w G 0 x ∧ PtK w la ha x a
theorem PtK.keep {w w' : World} : ∀ {t : Pt} {lo hi : Nat} {h : Ph}, PtK w lo hi h t → (∀ g, lo ≤ g → g < hi → g < w.heap.size → w'.heap[g]? = w.heap[g]?) → PtK w' lo hi h t
  | .nil, _, _, _, h, _ => h
  | .one _ _, _, _, _, h, _ => h
  | .thn _ _, _, _, _, ⟨G, c, x, y, la, ha, lb, hb, e, h1, h2, h3, h4, h5, h6, h7, h8, h9, h10, h11, ax, ay, ix, iy⟩, hk =>
    ⟨G, c, x, y, la, ha, lb, hb, e, h1, h2, h3, h4, h5, h6, h7, h8, h9, h10, h11, ax.keep (hk G h3 h4 ax.lt), ay.keep (hk G h3 h4 ay.lt), ix.keep fun g q1 q2 q3 => hk g (by omega) (by omega) q3, iy.keep fun g q1 q2 q3 => hk g (by omega) (by omega) q3⟩
  | .alt _ _, _, _, _, ⟨G, c, x, y, la, ha, lb, hb, e, h1, h2, h3, h4, h5, h6, h7, h8, h9, h10, h11, ax, ay, ix, iy⟩, hk =>
    ⟨G, c, x, y, la, ha, lb, hb, e, h1, h2, h3, h4, h5, h6, h7, h8, h9, h10, h11, ax.keep (hk G h3 h4 ax.lt), ay.keep (hk G h3 h4 ay.lt), ix.keep fun g q1 q2 q3 => hk g (by omega) (by omega) q3, iy.keep fun g q1 q2 q3 => hk g (by omega) (by omega) q3⟩
  | .star _, _, _, _, ⟨G, c, x, la, ha, e, h1, h2, h3, h4, h5, h6, h7, h8, ax, ix⟩, hk =>
    ⟨G, c, x, la, ha, e, h1, h2, h3, h4, h5, h6, h7, h8, ax.keep (hk G h3 h4 ax.lt), ix.keep fun g q1 q2 q3 => hk g (by omega) (by omega) q3⟩
theorem PtK.wide {w : World} : ∀ {t : Pt} {lo hi lo' hi' : Nat} {h : Ph}, PtK w lo hi h t → lo' ≤ lo → hi ≤ hi' → PtK w lo' hi' h t
  | .nil, _, _, _, _, _, h, _, _ => h
  | .one _ _, _, _, _, _, _, h, _, _ => h
  | .thn _ _, _, _, _, _, _, ⟨G, c, x, y, la, ha, lb, hb, e, h1, h2, h3, h4, h5, h6, h7, h8, h9, h10, h11, ax, ay, ix, iy⟩, q1, q2 =>
    ⟨G, c, x, y, la, ha, lb, hb, e, h1, h2, by omega, by omega, by omega, h6, by omega, h8, h9, h10, h11, ax, ay, ix, iy⟩
  | .alt _ _, _, _, _, _, _, ⟨G, c, x, y, la, ha, lb, hb, e, h1, h2, h3, h4, h5, h6, h7, h8, h9, h10, h11, ax, ay, ix, iy⟩, q1, q2 =>
    ⟨G, c, x, y, la, ha, lb, hb, e, h1, h2, by omega, by omega, by omega, h6, by omega, h8, h9, h10, h11, ax, ay, ix, iy⟩
  | .star _, _, _, _, _, _, ⟨G, c, x, la, ha, e, h1, h2, h3, h4, h5, h6, h7, h8, ax, ix⟩, q1, q2 =>
    ⟨G, c, x, la, ha, e, h1, h2, by omega, by omega, by omega, by omega, h7, h8, ax, ix⟩
/-- Its flags are the tree's. -/
theorem PtK.flags {w : World} {lo hi : Nat} {h : Ph} : ∀ {t : Pt}, PtK w lo hi h t → h.m = em t ∧ h.l = lv t ∧ h.e = en t
  | .nil, h => by
    simp only [PtK] at h
    subst h; exact ⟨rfl, rfl, rfl⟩
  | .one _ _, h => by
    simp only [PtK] at h
    subst h; exact ⟨rfl, rfl, rfl⟩
  | .thn _ _, ⟨_, _, _, _, _, _, _, _, e, _⟩ => by subst e; exact ⟨rfl, rfl, rfl⟩
  | .alt _ _, ⟨_, _, _, _, _, _, _, _, e, _⟩ => by subst e; exact ⟨rfl, rfl, rfl⟩
  | .star _, ⟨_, _, _, _, _, e, _⟩ => by subst e; exact ⟨rfl, rfl, rfl⟩

/-- Only blocks from lo on, below hi, two cells of block g, and what is new, have turned: a part that lies at place o of it reads these flags. -/
structure Wr (g o lo hi : Nat) (l e : Bool) (w w' : World) : Prop where
  turn : Turn (fun i => i = g ∨ (lo ≤ i ∧ i < hi)) w w'
  same : ∀ i, i ≠ o + 7 → i ≠ o + 8 → w'.cell? ⟨g, i, none⟩ = w.cell? ⟨g, i, none⟩
  fz : ∀ i, w'.frozen? ⟨g, i, none⟩ = w.frozen? ⟨g, i, none⟩
  c7 : w'.cell? ⟨g, o + 7, none⟩ = some (.bool l)
  c8 : w'.cell? ⟨g, o + 8, none⟩ = some (.bool e)
theorem Wr.at_ {g o lo hi : Nat} {l e : Bool} {w w' : World} {h : Ph} (t : Wr g o lo hi l e w w') (a : AtPh w g o h) : AtPh w' g o { h with l := l, e := e } :=
  ⟨(t.same _ (by omega) (by omega)).trans a.c0, (t.same _ (by omega) (by omega)).trans a.c1, (t.same _ (by omega) (by omega)).trans a.c2, (t.same _ (by omega) (by omega)).trans a.c3, (t.same _ (by omega) (by omega)).trans a.c4, (t.same _ (by omega) (by omega)).trans a.c5,
    (t.same _ (by omega) (by omega)).trans a.c6, t.c7, t.c8, fun i => (t.fz i).trans (a.fz i)⟩
theorem Wr.other {g o o' lo hi : Nat} {l e : Bool} {w w' : World} {h : Ph} (t : Wr g o lo hi l e w w') (a : AtPh w g o' h) (hd : o' + 9 ≤ o ∨ o + 9 ≤ o') : AtPh w' g o' h :=
  ⟨(t.same _ (by omega) (by omega)).trans a.c0, (t.same _ (by omega) (by omega)).trans a.c1, (t.same _ (by omega) (by omega)).trans a.c2, (t.same _ (by omega) (by omega)).trans a.c3, (t.same _ (by omega) (by omega)).trans a.c4, (t.same _ (by omega) (by omega)).trans a.c5,
    (t.same _ (by omega) (by omega)).trans a.c6, (t.same _ (by omega) (by omega)).trans a.c7, (t.same _ (by omega) (by omega)).trans a.c8, fun i => (t.fz i).trans (a.fz i)⟩
/-- A tree that lies elsewhere. -/
theorem Wr.tree {g o lo hi la ha : Nat} {l e : Bool} {w w' : World} {h : Ph} {t : Pt} (r : Wr g o lo hi l e w w') (k : PtK w la ha h t) (hg : g < la ∨ ha ≤ g) (hd : hi ≤ la ∨ ha ≤ lo) : PtK w' la ha h t :=
  k.keep fun i q1 q2 q3 => r.turn.block i q3 (by omega)
theorem Wr.far {g o lo hi g' o' : Nat} {l e : Bool} {w w' : World} {h : Ph} (r : Wr g o lo hi l e w w') (a : AtPh w g' o' h) (hg : g' ≠ g) (hd : g' < lo ∨ hi ≤ g') : AtPh w' g' o' h :=
  a.keep (r.turn.block g' a.lt (by omega))
def byteI (c : UInt8) : Value := .int .u8 (c.toNat : Int)
/-- What step does to a tree. -/
def StepSpec (t : Pt) : Prop := ∀ (w : World) (g o lo hi : Nat) (h : Ph) (c : UInt8) (b : Bool), AtPh w g o h → PtK w lo hi h t → (g < lo ∨ hi ≤ g) →
  Calls Tryd.prog 23 #[.pointer (some ⟨g, o, none⟩), .int .u8 (c.toNat : Int), .bool b] w fun e w' =>
    e = .returned (.tuple #[]) ∧ Wr g o lo hi (lv (stp t c b)) (en (stp t c b)) w w' ∧ PtK w' lo hi { h with l := lv (stp t c b), e := en (stp t c b) } (stp t c b)


theorem Wr.refl {w : World} {g o lo hi : Nat} {h : Ph} (a : AtPh w g o h) : Wr g o lo hi h.l h.e w w := ⟨Turn.refl _ _, fun _ _ _ => rfl, fun _ => rfl, a.c7, a.c8⟩
set_option maxHeartbeats 1000000 in
/-- Nothing under way, and nothing begins. -/
theorem step_still {t : Pt} (hl : lv t = false) : ∀ (w : World) (g o lo hi : Nat) (h : Ph) (c : UInt8), AtPh w g o h → PtK w lo hi h t → (g < lo ∨ hi ≤ g) →
    Calls Tryd.prog 23 #[.pointer (some ⟨g, o, none⟩), .int .u8 (c.toNat : Int), .bool false] w fun e w' =>
    e = .returned (.tuple #[]) ∧ Wr g o lo hi (lv (stp t c false)) (en (stp t c false)) w w' ∧ PtK w' lo hi { h with l := lv (stp t c false), e := en (stp t c false) } (stp t c false) := by
  intro w g o lo hi h c ha hk hg
  obtain ⟨f1, f2, f3⟩ := hk.flags
  rw [stp_dead t c hl]
  have HW : Hid (Wr g o lo hi (lv t) (en t) w w) := keepHid (by rw [← f2, ← f3]; exact Wr.refl ha)
  have HK : Hid (PtK w lo hi { h with l := lv t, e := en t } t) := keepHid (by rw [← f2, ← f3]; exact hk)
  have c7 := ha.c7
  rw [f2, hl] at c7
  clear ha hk
  generalize c.toNat = cn at *
  go_enter Tryd.func23, Tryd.ntmps23
  go_wp2
  refine bodyPost_ret (results_none rfl _ _ _) rfl ?_
  exact ⟨rfl, HW.out, HK.out⟩
set_option maxHeartbeats 1000000 in
theorem step_nil : StepSpec .nil := by
  intro w g o lo hi h c b ha hk hg
  cases b
  · exact step_still rfl w g o lo hi h c ha hk hg
  · simp only [PtK] at hk
    subst hk
    have HW : Hid (Wr g o lo hi false false w w) := keepHid (Wr.refl ha)
    have c0 := ha.c0
    clear ha
    generalize c.toNat = cn at *
    go_enter Tryd.func23, Tryd.ntmps23
    go_wp2
    go_end0
    exact ⟨rfl, HW.out, rfl⟩
/-- Two cells of a part are written. -/
theorem wr_two {w w2 : World} {g o lo hi : Nat} {h : Ph} (a : AtPh w g o h) (hb : Below w.heap.size w w2) (l e : Bool) : Wr g o lo hi l e w ((w2.setCell ⟨g, o + 8, none⟩ (.bool e)).setCell ⟨g, o + 7, none⟩ (.bool l)) := by
  have a2 := a.keep (hb.block g a.lt)
  refine ⟨((Turn.of_below hb).setCell (.inl (.inl rfl)) _).setCell (.inl (.inl rfl)) _, fun i h1 h2 => ?_, fun i => ?_, ?_, ?_⟩
  · rw [World.cell?_setCell_other _ _ _ _ (fun e => by injection e; omega), World.cell?_setCell_other _ _ _ _ (fun e => by injection e; omega)]
    exact World.cell?_of_block (hb.block g a.lt)
  · rw [World.frozen?_setCell, World.frozen?_setCell]
    exact World.frozen?_of_block (hb.block g a.lt)
  · exact World.cell?_setCell_same _ _ _ ((World.cell?_setCell_other _ _ _ _ (fun e => by injection e; omega)).trans a2.c7)
  · exact (World.cell?_setCell_other _ _ _ _ (fun e => by injection e; omega)).trans (World.cell?_setCell_same _ _ _ a2.c8)
set_option maxHeartbeats 1000000 in
theorem step_one (s : St) (x : Bool) : StepSpec (.one s x) := by
  intro w g o lo hi h c b ha hk hg
  by_cases hd : b = false ∧ x = false
  · obtain ⟨rfl, rfl⟩ := hd
    exact step_still rfl w g o lo hi h c ha hk hg
  · simp only [PtK] at hk
    subst hk
    have hc := has_any s c.toNat (u8lt c) w
    have HW : Hid (∀ w2 : World, Below w.heap.size w w2 → Wr g o lo hi (b && hasS s c.toNat) (b && hasS s c.toNat) w ((w2.setCell ⟨g, o + 8, none⟩ (.bool (b && hasS s c.toNat))).setCell ⟨g, o + 7, none⟩ (.bool (b && hasS s c.toNat)))) := keepHid (fun w2 hb => wr_two ha hb _ _)
    have HA : Hid (∀ w2 : World, Below w.heap.size w w2 → AtPh w2 g o ⟨1, s, none, 0, 0, false, x, x⟩) := keepHid (fun w2 hb => ha.keep (hb.block g ha.lt))
    obtain ⟨c0, c1, c2, c3, c4, c5, c6, c7, c8, fz⟩ := ha
    have HC := keepHid hc
    unfold stV at HC
    show Calls _ _ _ _ (fun e w' => e = .returned (.tuple #[]) ∧ Wr g o lo hi (b && hasS s c.toNat) (b && hasS s c.toNat) w w' ∧ PtK w' lo hi ⟨1, s, none, 0, 0, false, (b && hasS s c.toNat), (b && hasS s c.toNat)⟩ (.one s (b && hasS s c.toNat)))
    clear hc
    generalize hasS s c.toNat = R at *
    generalize c.toNat = cn at *
    generalize s.a.toNat = sa at *
    generalize s.b.toNat = sb at *
    generalize s.c.toNat = sc at *
    generalize s.d.toNat = sd at *
    cases b
    · obtain rfl : x = true := by cases x <;> simp_all
      go_enter Tryd.func23, Tryd.ntmps23
      go_wp2
      refine bodyPost_end (results_none rfl _ _ _) rfl ?_
      exact ⟨rfl, HW.out w (Below.refl _ _), rfl⟩
    · go_enter Tryd.func23, Tryd.ntmps23
      go_wp2_with fail
      with_reducible refine HC.out.mono ?_
      rintro e w2 ⟨rfl, hb2⟩
      have HW2 := keepHid (HW.out w2 hb2)
      obtain ⟨d0, d1, d2, d3, d4, d5, d6, d7, d8, dz⟩ := HA.out w2 hb2
      clear c0 c1 c2 c3 c4 c5 c6 c7 c8 fz
      go_wp2
      refine bodyPost_end (results_none rfl _ _ _) rfl ?_
      exact ⟨rfl, HW2.out, rfl⟩


theorem wr_set {w w2 : World} {g o lo hi : Nat} {l e : Bool} (r : Wr g o lo hi l e w w2) (l' e' : Bool) : Wr g o lo hi l' e' w ((w2.setCell ⟨g, o + 7, none⟩ (.bool l')).setCell ⟨g, o + 8, none⟩ (.bool e')) := by
  refine ⟨(r.turn.setCell (.inl (.inl rfl)) _).setCell (.inl (.inl rfl)) _, fun i h1 h2 => ?_, fun i => ?_, ?_, ?_⟩
  · rw [World.cell?_setCell_other _ _ _ _ (fun e => by injection e; omega), World.cell?_setCell_other _ _ _ _ (fun e => by injection e; omega)]
    exact r.same i h1 h2
  · rw [World.frozen?_setCell, World.frozen?_setCell]
    exact r.fz i
  · exact (World.cell?_setCell_other _ _ _ _ (fun e => by injection e; omega)).trans (World.cell?_setCell_same _ _ _ r.c7)
  · exact World.cell?_setCell_same _ _ _ ((World.cell?_setCell_other _ _ _ _ (fun e => by injection e; omega)).trans r.c8)
theorem wr_kid {w w1 w2 : World} {g o lo hi G i la ha : Nat} {l e l' e' : Bool} (r : Wr g o lo hi l e w w1) (k : Wr G i la ha l' e' w1 w2) (hlt : g < w1.heap.size) (hG : lo ≤ G ∧ G < hi) (hl : lo ≤ la ∧ ha ≤ hi) (hne : g ≠ G) (hd : g < la ∨ ha ≤ g) : Wr g o lo hi l e w w2 := by
  have hb := k.turn.block g hlt (by omega)
  refine ⟨r.turn.trans (k.turn.mono fun j hj => .inr (by omega)), fun j h1 h2 => (World.cell?_of_block hb).trans (r.same j h1 h2), fun j => (World.frozen?_of_block hb).trans (r.fz j), (World.cell?_of_block hb).trans r.c7, (World.cell?_of_block hb).trans r.c8⟩
/-- A part whose kids have a place of their own is left alone by what a kid's step does. -/
theorem at_set {w2 : World} {g o G : Nat} {h : Ph} (a : AtPh w2 G o h) (hne : g ≠ G) (i j : Nat) (u v : Value) : AtPh ((w2.setCell ⟨g, i, none⟩ u).setCell ⟨g, j, none⟩ v) G o h :=
  a.keep (by rw [Below.heap_setCell _ _ _ _ (by intro e; exact hne e.symm), Below.heap_setCell _ _ _ _ (by intro e; exact hne e.symm)])
theorem tree_set {w2 : World} {g la ha : Nat} {h : Ph} {t : Pt} (a : PtK w2 la ha h t) (hd : g < la ∨ ha ≤ g) (i j : Nat) (u v : Value) : PtK ((w2.setCell ⟨g, i, none⟩ u).setCell ⟨g, j, none⟩ v) la ha h t :=
  a.keep fun b q1 q2 q3 => by rw [Below.heap_setCell _ _ _ _ (by intro e; have : b = g := e; omega), Below.heap_setCell _ _ _ _ (by intro e; have : b = g := e; omega)]
theorem at9_0 {w : World} {G : Nat} {h : Ph} (a : AtPh w G 0 h) : w.cell? ⟨G, 6, none⟩ = some (.bool h.m) ∧ w.cell? ⟨G, 7, none⟩ = some (.bool h.l) ∧ w.cell? ⟨G, 8, none⟩ = some (.bool h.e) := ⟨a.c6, a.c7, a.c8⟩
theorem at9_9 {w : World} {G : Nat} {h : Ph} (a : AtPh w G 9 h) : w.cell? ⟨G, 15, none⟩ = some (.bool h.m) ∧ w.cell? ⟨G, 16, none⟩ = some (.bool h.l) ∧ w.cell? ⟨G, 17, none⟩ = some (.bool h.e) := ⟨a.c6, a.c7, a.c8⟩

def KidPost (g o lo hi G la ha : Nat) (x : Ph) (t : Pt) (w : World) (e : Ending) (w' : World) : Prop :=
  e = .returned (.tuple #[]) ∧ Wr g o lo hi (lv t) (en t) w w' ∧ AtPh w' G 0 { x with l := lv t, e := en t } ∧ PtK w' la ha { x with l := lv t, e := en t } t
set_option maxHeartbeats 2000000 in
theorem once1 {a : Pt} (HA : StepSpec a) {w : World} {g o lo hi G c la ha : Nat} {h x : Ph} (cc : UInt8) (b : Bool) (hp : AtPh w g o h) (hA : h.A = some ⟨G, 0, none⟩) (hn : h.n = 1) (hc : h.c = c)
    (hc1 : 1 ≤ c) (hcm : c ≤ maxLen) (hG : lo ≤ G ∧ G < hi) (hl : lo ≤ la ∧ ha ≤ hi) (hd : G < la ∨ ha ≤ G) (ax : AtPh w G 0 x) (ix : PtK w la ha x a) (hg : g < lo ∨ hi ≤ g) (hlh : la ≤ ha) :
    Calls Tryd.prog 45 #[.pointer (some ⟨g, o, none⟩), .int .u8 (cc.toNat : Int), .bool b] w (KidPost g o lo hi G la ha x (stp a cc b) w) := by
  have hgG : g ≠ G := by omega
  have hgl : g < la ∨ ha ≤ g := by omega
  obtain ⟨w1, hw1⟩ : ∃ w1, (w.setCell ⟨g, o + 7, none⟩ (.bool false)).setCell ⟨g, o + 8, none⟩ (.bool false) = w1 := ⟨_, rfl⟩
  have r1 : Wr g o lo hi false false w w1 := by rw [← hw1]; exact wr_set (Wr.refl hp) _ _
  have p1 := r1.at_ hp
  have x1 : AtPh w1 G 0 x := by rw [← hw1]; exact at_set ax hgG _ _ _ _
  have t1 : PtK w1 la ha x a := by rw [← hw1]; exact tree_set ix hgl _ _ _ _
  have HC := keepHid (HA w1 G 0 la ha x cc b x1 t1 hd)
  have R1 := keepHid r1
  have P1 := keepHid p1
  have X1 := keepHid x1
  have HW := keepHid hw1
  have HG := keepHid hG
  have HL := keepHid hl
  have HD := keepHid hd
  have HGL := keepHid hgl
  have HGG := keepHid hgG
  have hci : (1 : Int) ≤ (c : Int) := by omega
  obtain ⟨c0, c1, c2, c3, c4, c5, c6, c7, c8, fz⟩ := hp
  obtain ⟨-, -, -, -, -, d5, d6, d7, d8, dz⟩ := p1
  simp only [hA, hn, hc] at c5 d5
  clear hA hn hc r1 x1 t1 hw1 ax ix hg hG hl hd hcm hc1 hgG hgl c0 c1 c2 c3 c4 c6
  generalize stp a cc b = t at *
  generalize cc.toNat = cn at *
  go_enter Tryd.func45, Tryd.ntmps45
  go_upto_region 1 with fail
  rw [HW.out]
  clear c5 c7 c8 fz
  go_wp2_with fail
  refine wp_loop_rounds 2 ?_
  rw [rounds_succ]
  go_wp2_with fail
  with_reducible refine HC.out.mono ?_
  rintro e w2 ⟨rfl, r2, k2⟩
  have HK2 := keepHid k2
  have p2 := r2.far P1.out HGG.out (by have := HGL.out; have := HD.out; exact HGL.out)
  have x2 := r2.at_ X1.out
  have R2 := keepHid (wr_kid R1.out r2 P1.out.lt HG.out HL.out HGG.out HGL.out)
  have X2 := keepHid x2
  obtain ⟨y6, y7, y8⟩ := at9_0 x2
  obtain ⟨-, -, -, -, -, e5, e6, e7, e8, ez⟩ := p2
  simp only at e7 e8 y7 y8
  generalize hlv : lv t = L at *
  generalize hen : en t = E at *
  have HF : Hid (KidPost g o lo hi G la ha x t w (.returned (.tuple #[])) ((w2.setCell ⟨g, o + 7, none⟩ (.bool L)).setCell ⟨g, o + 8, none⟩ (.bool E))) := keepHid (by
    unfold KidPost
    rw [hlv, hen]
    exact ⟨rfl, wr_set R2.out _ _, at_set X2.out HGG.out _ _ _ _, tree_set HK2.out HGL.out _ _ _ _⟩)
  have y8' : (w2.setCell ⟨g, o + 7, none⟩ (.bool L)).cell? ⟨G, 8, none⟩ = some (.bool E) := (World.cell?_setCell_far _ _ _ _ HGG.out).trans y8
  clear r2 k2 x2 d5 d6 d7 d8 dz hlv hen
  go_wp2_with fail
  rw [rounds_succ]
  go_wp2
  refine bodyPost_end (results_none rfl _ _ _) rfl ?_
  exact HF.out

def KidsPost (g o lo hi G la ha lb hb : Nat) (x y : Ph) (t u : Pt) (l e' : Bool) (w : World) (e : Ending) (w' : World) : Prop :=
  e = .returned (.tuple #[]) ∧ Wr g o lo hi l e' w w' ∧ AtPh w' G 0 { x with l := lv t, e := en t } ∧ AtPh w' G 9 { y with l := lv u, e := en u } ∧ PtK w' la ha { x with l := lv t, e := en t } t ∧ PtK w' lb hb { y with l := lv u, e := en u } u
set_option maxHeartbeats 4000000 in
theorem once2 {a a2 : Pt} (HA : StepSpec a) (HB : StepSpec a2) {w : World} {g o lo hi G c la ha lb hb : Nat} {h x y : Ph} (cc : UInt8) (b : Bool) (hp : AtPh w g o h) (hA : h.A = some ⟨G, 0, none⟩) (hn : h.n = 2) (hc : h.c = c)
    (hc1 : 2 ≤ c) (hcm : c ≤ maxLen) (hG : lo ≤ G ∧ G < hi) (hl : lo ≤ la ∧ ha ≤ hi) (hl2 : lo ≤ lb ∧ hb ≤ hi) (hd : G < la ∨ ha ≤ G) (hd2 : G < lb ∨ hb ≤ G) (hab : ha ≤ lb)
    (ax : AtPh w G 0 x) (ay : AtPh w G 9 y) (ix : PtK w la ha x a) (iy : PtK w lb hb y a2) (hg : g < lo ∨ hi ≤ g) (hlh : la ≤ ha) (hlh2 : lb ≤ hb) :
    Calls Tryd.prog 45 #[.pointer (some ⟨g, o, none⟩), .int .u8 (cc.toNat : Int), .bool b] w
      (KidsPost g o lo hi G la ha lb hb x y (stp a cc b) (stp a2 cc b) (lv (stp a cc b) || lv (stp a2 cc b)) (en (stp a cc b) || en (stp a2 cc b)) w) := by
  have hgG : g ≠ G := by omega
  have hgl : g < la ∨ ha ≤ g := by omega
  have hgl2 : g < lb ∨ hb ≤ g := by omega
  obtain ⟨w1, hw1⟩ : ∃ w1, (w.setCell ⟨g, o + 7, none⟩ (.bool false)).setCell ⟨g, o + 8, none⟩ (.bool false) = w1 := ⟨_, rfl⟩
  have r1 : Wr g o lo hi false false w w1 := by rw [← hw1]; exact wr_set (Wr.refl hp) _ _
  have p1 := r1.at_ hp
  have x1 : AtPh w1 G 0 x := by rw [← hw1]; exact at_set ax hgG _ _ _ _
  have y1 : AtPh w1 G 9 y := by rw [← hw1]; exact at_set ay hgG _ _ _ _
  have t1 : PtK w1 la ha x a := by rw [← hw1]; exact tree_set ix hgl _ _ _ _
  have u1 : PtK w1 lb hb y a2 := by rw [← hw1]; exact tree_set iy hgl2 _ _ _ _
  have HC := keepHid (HA w1 G 0 la ha x cc b x1 t1 hd)
  have HC2 := keepHid (fun w3 (k1 : AtPh w3 G 9 y) (k2 : PtK w3 lb hb y a2) => HB w3 G 9 lb hb y cc b k1 k2 hd2)
  have R1 := keepHid r1
  have P1 := keepHid p1
  have X1 := keepHid x1
  have Y1 := keepHid y1
  have U1 := keepHid u1
  have HW := keepHid hw1
  have HG := keepHid hG
  have HL := keepHid hl
  have HL2 := keepHid hl2
  have HD := keepHid hd
  have HD2 := keepHid hd2
  have HAB := keepHid hab
  have HGL := keepHid hgl
  have HGL2 := keepHid hgl2
  have HGG := keepHid hgG
  have HLH := keepHid hlh
  have HLH2 := keepHid hlh2
  have hci : (2 : Int) ≤ (c : Int) := by omega
  obtain ⟨c0, c1, c2, c3, c4, c5, c6, c7, c8, fz⟩ := hp
  obtain ⟨-, -, -, -, -, d5, d6, d7, d8, dz⟩ := p1
  simp only [hA, hn, hc] at c5 d5
  clear r1 x1 t1 y1 u1 hw1 ax ix ay iy hg hG hl hl2 hd hd2 hab hcm hc1 hgG hgl hgl2 hlh hlh2 c0 c1 c2 c3 c4 c6
  generalize stp a cc b = t at *
  generalize stp a2 cc b = u at *
  generalize cc.toNat = cn at *
  go_enter Tryd.func45, Tryd.ntmps45
  go_upto_region 1 with fail
  rw [HW.out]
  clear c5 c7 c8 fz
  go_wp2_with fail
  refine wp_loop_rounds 3 ?_
  rw [rounds_succ]
  go_wp2_with fail
  with_reducible refine HC.out.mono ?_
  rintro e w2 ⟨rfl, r2, k2⟩
  have HK2 := keepHid k2
  have p2 := r2.far P1.out HGG.out HGL.out
  have x2 := r2.at_ X1.out
  have y2 := r2.other Y1.out (.inr (by omega))
  have u2 := r2.tree U1.out HD2.out (by have := HAB.out; have := HLH.out; omega)
  have R2 := keepHid (wr_kid R1.out r2 P1.out.lt HG.out HL.out HGG.out HGL.out)
  have X2 := keepHid x2
  have Y2 := keepHid y2
  have U2 := keepHid u2
  have P2 := keepHid p2
  obtain ⟨y6, y7, y8⟩ := at9_0 x2
  obtain ⟨-, -, -, -, -, e5, e6, e7, e8, ez⟩ := p2
  simp only at e7 e8 y7 y8
  generalize hlv : lv t = L at *
  generalize hen : en t = E at *
  have y8' : (w2.setCell ⟨g, o + 7, none⟩ (.bool L)).cell? ⟨G, 8, none⟩ = some (.bool E) := (World.cell?_setCell_far _ _ _ _ HGG.out).trans y8
  obtain ⟨w3, hw3⟩ : ∃ w3, (w2.setCell ⟨g, o + 7, none⟩ (.bool L)).setCell ⟨g, o + 8, none⟩ (.bool E) = w3 := ⟨_, rfl⟩
  have r3 : Wr g o lo hi L E w w3 := by rw [← hw3]; exact wr_set R2.out _ _
  have rr : Wr g o lo hi L E w2 w3 := by rw [← hw3]; exact wr_set (Wr.refl P2.out) _ _
  have P3 := keepHid (rr.at_ P2.out)
  have X3 : Hid (AtPh w3 G 0 { x with l := L, e := E }) := keepHid (by rw [← hw3]; exact at_set X2.out HGG.out _ _ _ _)
  have Y3 : Hid (AtPh w3 G 9 y) := keepHid (by rw [← hw3]; exact at_set Y2.out HGG.out _ _ _ _)
  have T3 : Hid (PtK w3 la ha { x with l := L, e := E } t) := keepHid (by rw [← hw3]; exact tree_set HK2.out HGL.out _ _ _ _)
  have U3 : Hid (PtK w3 lb hb y a2) := keepHid (by rw [← hw3]; exact tree_set U2.out HGL2.out _ _ _ _)
  have R3 := keepHid r3
  have HW3 := keepHid hw3
  have HC3 := keepHid (HC2.out w3 Y3.out U3.out)
  clear r2 k2 x2 y2 u2 d5 d6 d7 d8 dz r3 rr hw3
  have HLV := keepHid hlv
  have HEN := keepHid hen
  clear hlv hen
  go_upto_region 8 with fail
  rw [HW3.out]
  have p3 := P3.out
  obtain ⟨-, -, -, -, -, f5, f6, f7, f8, fz⟩ := p3
  simp only [hA, hn, hc] at f5 f7 f8
  clear e5 e6 e7 e8 ez y6 y7 y8 y8' hA hn hc
  go_wp2_with fail
  rw [rounds_succ]
  go_wp2_with fail
  with_reducible refine HC3.out.mono ?_
  rintro e w4 ⟨rfl, r4, k4⟩
  have HK4 := keepHid k4
  have p4 := r4.far P3.out HGG.out HGL2.out
  have y4 := r4.at_ Y3.out
  have X4 := keepHid (r4.other X3.out (.inl (by omega)))
  have T4 := keepHid (r4.tree T3.out HD.out (by have := HAB.out; have := HLH2.out; omega))
  have R4 := keepHid (wr_kid R3.out r4 P3.out.lt HG.out HL2.out HGG.out HGL2.out)
  have Y4 := keepHid y4
  obtain ⟨y6, y7, y8⟩ := at9_9 y4
  obtain ⟨-, -, -, -, -, e5, e6, e7, e8, ez⟩ := p4
  simp only at e7 e8 y7 y8
  generalize hlv : lv u = L2 at *
  generalize hen : en u = E2 at *
  have y8' : (w4.setCell ⟨g, o + 7, none⟩ (.bool (L || L2))).cell? ⟨G, 17, none⟩ = some (.bool E2) := (World.cell?_setCell_far _ _ _ _ HGG.out).trans y8
  have HF : Hid (KidsPost g o lo hi G la ha lb hb x y t u (L || L2) (E || E2) w (.returned (.tuple #[])) ((w4.setCell ⟨g, o + 7, none⟩ (.bool (L || L2))).setCell ⟨g, o + 8, none⟩ (.bool (E || E2)))) := keepHid (by
    unfold KidsPost
    rw [hlv, hen, HLV.out, HEN.out]
    exact ⟨rfl, wr_set R4.out _ _, at_set X4.out HGG.out _ _ _ _, at_set Y4.out HGG.out _ _ _ _, tree_set T4.out HGL.out _ _ _ _, tree_set HK4.out HGL2.out _ _ _ _⟩)
  clear r4 k4 y4 f5 f6 f7 f8 fz hlv hen
  cases L <;> cases E
  all_goals
    simp only [Bool.false_or, Bool.true_or] at y8'
    go_wp2_with fail
    rw [rounds_succ]
    go_wp2
    refine bodyPost_end (results_none rfl _ _ _) rfl ?_
    exact HF.out


set_option maxHeartbeats 4000000 in
theorem turn2 {a a2 : Pt} (HA : StepSpec a) (HB : StepSpec a2) {w : World} {g o lo hi G c la ha lb hb : Nat} {h x y : Ph} (cc : UInt8) (b : Bool) (hp : AtPh w g o h) (hA : h.A = some ⟨G, 0, none⟩) (hn : h.n = 2) (hc : h.c = c)
    (hc1 : 2 ≤ c) (hcm : c ≤ maxLen) (hG : lo ≤ G ∧ G < hi) (hl : lo ≤ la ∧ ha ≤ hi) (hl2 : lo ≤ lb ∧ hb ≤ hi) (hd : G < la ∨ ha ≤ G) (hd2 : G < lb ∨ hb ≤ G) (hab : ha ≤ lb)
    (ax : AtPh w G 0 x) (ay : AtPh w G 9 y) (ix : PtK w la ha x a) (iy : PtK w lb hb y a2) (hg : g < lo ∨ hi ≤ g) (hlh : la ≤ ha) (hlh2 : lb ≤ hb) :
    Calls Tryd.prog 44 #[.pointer (some ⟨g, o, none⟩), .int .u8 (cc.toNat : Int), .bool b] w
      (KidsPost g o lo hi G la ha lb hb x y (stp a cc b) (stp a2 cc (en a || b && em a)) (lv (stp a cc b) || lv (stp a2 cc (en a || b && em a))) (en (stp a2 cc (en a || b && em a)) || em a2 && en (stp a cc b)) w) := by
  have hgG : g ≠ G := by omega
  have hgl : g < la ∨ ha ≤ g := by omega
  have hgl2 : g < lb ∨ hb ≤ g := by omega
  obtain ⟨w1, hw1⟩ : ∃ w1, (w.setCell ⟨g, o + 7, none⟩ (.bool false)).setCell ⟨g, o + 8, none⟩ (.bool false) = w1 := ⟨_, rfl⟩
  have r1 : Wr g o lo hi false false w w1 := by rw [← hw1]; exact wr_set (Wr.refl hp) _ _
  have p1 := r1.at_ hp
  have x1 : AtPh w1 G 0 x := by rw [← hw1]; exact at_set ax hgG _ _ _ _
  have y1 : AtPh w1 G 9 y := by rw [← hw1]; exact at_set ay hgG _ _ _ _
  have t1 : PtK w1 la ha x a := by rw [← hw1]; exact tree_set ix hgl _ _ _ _
  have u1 : PtK w1 lb hb y a2 := by rw [← hw1]; exact tree_set iy hgl2 _ _ _ _
  obtain ⟨xm, xl, xe⟩ := ix.flags
  obtain ⟨ym, yl, ye⟩ := iy.flags
  obtain ⟨z6, z7, z8⟩ := at9_0 x1
  rw [xm] at z6
  rw [xl] at z7
  rw [xe] at z8
  have HC := keepHid (HA w1 G 0 la ha x cc b x1 t1 hd)
  have HC2 := keepHid (fun w3 (k1 : AtPh w3 G 9 y) (k2 : PtK w3 lb hb y a2) => HB w3 G 9 lb hb y cc (en a || b && em a) k1 k2 hd2)
  have R1 := keepHid r1
  have P1 := keepHid p1
  have X1 := keepHid x1
  have Y1 := keepHid y1
  have U1 := keepHid u1
  have HW := keepHid hw1
  have HG := keepHid hG
  have HL := keepHid hl
  have HL2 := keepHid hl2
  have HD := keepHid hd
  have HD2 := keepHid hd2
  have HAB := keepHid hab
  have HGL := keepHid hgl
  have HGL2 := keepHid hgl2
  have HGG := keepHid hgG
  have HLH := keepHid hlh
  have HLH2 := keepHid hlh2
  have hci : (2 : Int) ≤ (c : Int) := by omega
  obtain ⟨c0, c1, c2, c3, c4, c5, c6, c7, c8, fz⟩ := hp
  obtain ⟨-, -, -, -, -, d5, d6, d7, d8, dz⟩ := p1
  simp only [hA, hn, hc] at c5 d5
  clear r1 x1 t1 y1 u1 hw1 ax ix ay iy hg hG hl hl2 hd hd2 hab hcm hc1 hgG hgl hgl2 hlh hlh2 c0 c1 c2 c3 c4 c6
  obtain ⟨NX, hnx⟩ : ∃ NX, (en a || b && em a) = NX := ⟨_, rfl⟩
  rw [hnx] at HC2 ⊢
  have HNX := keepHid hnx
  clear hnx
  have YM := keepHid ym
  have XM := keepHid xm
  have YE := keepHid ye
  clear xm xl xe ym yl ye
  generalize hE0 : en a = E0 at *
  generalize hM0 : em a = M0 at *
  generalize hE9 : en a2 = E9 at *
  generalize hM9 : em a2 = M9 at *
  clear hE0 hM0 hE9 hM9
  generalize stp a cc b = t at *
  generalize stp a2 cc NX = u at *
  generalize cc.toNat = cn at *
  go_enter Tryd.func44, Tryd.ntmps44
  go_upto_region 1 with fail
  rw [HW.out]
  clear c5 c7 c8 fz
  go_wp2_with fail
  refine wp_loop_rounds 3 ?_
  rw [rounds_succ]
  go_upto_region 5 with fail
  go_cut [8, 20] (fun s k wx => s = .bool NX ∧ k = .int .i64 0 ∧ wx = w1)
  case first =>
    cases E0 <;> cases b <;> cases M0
    all_goals
      go_wp2_with fail
      go_meet
      case rel => exact ⟨by rw [← HNX.out]; rfl, rfl, rfl⟩
  case rest =>
  obtain ⟨rfl, rfl, rfl⟩ := hcut
  go_wp2_with fail
  with_reducible refine HC.out.mono ?_
  rintro e w2 ⟨rfl, r2, k2⟩
  have HK2 := keepHid k2
  have p2 := r2.far P1.out HGG.out HGL.out
  have x2 := r2.at_ X1.out
  have y2 := r2.other Y1.out (.inr (by omega))
  have u2 := r2.tree U1.out HD2.out (by have := HAB.out; have := HLH.out; omega)
  have R2 := keepHid (wr_kid R1.out r2 P1.out.lt HG.out HL.out HGG.out HGL.out)
  have X2 := keepHid x2
  have Y2 := keepHid y2
  have U2 := keepHid u2
  have P2 := keepHid p2
  obtain ⟨y6, y7, y8⟩ := at9_0 x2
  obtain ⟨-, -, -, -, -, e5, e6, e7, e8, ez⟩ := p2
  simp only [hA, hn, hc, XM.out] at e5 e7 e8 y6 y7 y8
  generalize hlv : lv t = L at *
  generalize hen : en t = E at *
  obtain ⟨w3, hw3⟩ : ∃ w3, (w2.setCell ⟨g, o + 7, none⟩ (.bool L)).setCell ⟨g, o + 8, none⟩ (.bool E) = w3 := ⟨_, rfl⟩
  have r3 : Wr g o lo hi L E w w3 := by rw [← hw3]; exact wr_set R2.out _ _
  have rr : Wr g o lo hi L E w2 w3 := by rw [← hw3]; exact wr_set (Wr.refl P2.out) _ _
  have P3 := keepHid (rr.at_ P2.out)
  have X3 : Hid (AtPh w3 G 0 { x with l := L, e := E }) := keepHid (by rw [← hw3]; exact at_set X2.out HGG.out _ _ _ _)
  have Y3 : Hid (AtPh w3 G 9 y) := keepHid (by rw [← hw3]; exact at_set Y2.out HGG.out _ _ _ _)
  have T3 : Hid (PtK w3 la ha { x with l := L, e := E } t) := keepHid (by rw [← hw3]; exact tree_set HK2.out HGL.out _ _ _ _)
  have U3 : Hid (PtK w3 lb hb y a2) := keepHid (by rw [← hw3]; exact tree_set U2.out HGL2.out _ _ _ _)
  have R3 := keepHid r3
  have HW3 := keepHid hw3
  have HC3 := keepHid (HC2.out w3 Y3.out U3.out)
  clear r2 k2 x2 y2 u2 d5 d6 d7 d8 dz z6 z7 z8 r3 rr hw3
  have HLV := keepHid hlv
  have HEN := keepHid hen
  clear hlv hen
  go_upto_region 8 with fail
  obtain ⟨wm, hwm⟩ : ∃ wm, w2.setCell ⟨g, o + 7, none⟩ (.bool L) = wm := ⟨_, rfl⟩
  have m6 : wm.cell? ⟨G, 6, none⟩ = some (.bool M0) := by rw [← hwm]; exact (World.cell?_setCell_far _ _ _ _ HGG.out).trans y6
  have m8 : wm.cell? ⟨G, 8, none⟩ = some (.bool E) := by rw [← hwm]; exact (World.cell?_setCell_far _ _ _ _ HGG.out).trans y8
  have n8 : wm.cell? ⟨g, o + 8, none⟩ = some (.bool false) := by rw [← hwm]; exact (World.cell?_setCell_other _ _ _ _ (fun e => by injection e; omega)).trans e8
  have nz : ∀ i, wm.frozen? ⟨g, i, none⟩ = false := by intro i; rw [← hwm, World.frozen?_setCell]; exact ez i
  rw [hwm] at HW3 ⊢
  clear e5 e6 e7 e8 ez y6 y7 y8 hwm
  go_cut [20] (fun k wx => k = .int .i64 0 ∧ wx = w3)
  case first =>
    cases E <;> cases M0
    all_goals
      go_wp2_with fail
      go_meet
      case rel => exact ⟨rfl, HW3.out⟩
  case rest =>
  obtain ⟨rfl, rfl⟩ := hcut
  clear m6 m8 n8 nz
  have p3 := P3.out
  obtain ⟨-, -, -, -, -, f5, f6, f7, f8, fz⟩ := p3
  obtain ⟨v6, v7, v8⟩ := at9_9 Y3.out
  simp only [hA, hn, hc, YM.out, YE.out] at f5 f7 f8 v6 v8
  go_wp2_with fail
  rw [rounds_succ]
  go_upto_region 5 with fail
  go_cut [8, 20] (fun s k wx => s = .bool (E9 || NX && M9) ∧ k = .int .i64 1 ∧ wx = wc)
  case first =>
    cases E9 <;> cases NX <;> cases M9
    all_goals
      go_wp2_with fail
      go_meet
      case rel => exact ⟨rfl, rfl, rfl⟩
  case rest =>
  obtain ⟨rfl, rfl, rfl⟩ := hcut
  clear v6 v7 v8
  go_wp2_with fail
  with_reducible refine HC3.out.mono ?_
  rintro e w4 ⟨rfl, r4, k4⟩
  have HK4 := keepHid k4
  have p4 := r4.far P3.out HGG.out HGL2.out
  have y4 := r4.at_ Y3.out
  have X4 := keepHid (r4.other X3.out (.inl (by omega)))
  have T4 := keepHid (r4.tree T3.out HD.out (by have := HAB.out; have := HLH2.out; omega))
  have R4 := keepHid (wr_kid R3.out r4 P3.out.lt HG.out HL2.out HGG.out HGL2.out)
  have Y4 := keepHid y4
  obtain ⟨y6, y7, y8⟩ := at9_9 y4
  obtain ⟨-, -, -, -, -, e5, e6, e7, e8, ez⟩ := p4
  simp only [hA, hn, hc, YM.out] at e5 e7 e8 y6 y7 y8
  generalize hlv : lv u = L2 at *
  generalize hen : en u = E2 at *
  have HF : Hid (KidsPost g o lo hi G la ha lb hb x y t u (L || L2) (E2 || M9 && E) w (.returned (.tuple #[])) ((w4.setCell ⟨g, o + 7, none⟩ (.bool (L || L2))).setCell ⟨g, o + 8, none⟩ (.bool (E2 || M9 && E)))) := keepHid (by
    unfold KidsPost
    rw [hlv, hen, HLV.out, HEN.out]
    exact ⟨rfl, wr_set R4.out _ _, at_set X4.out HGG.out _ _ _ _, at_set Y4.out HGG.out _ _ _ _, tree_set T4.out HGL.out _ _ _ _, tree_set HK4.out HGL2.out _ _ _ _⟩)
  clear r4 k4 y4 f5 f6 f7 f8 fz hlv hen
  go_upto_region 7 with fail
  go_cut [20] (fun k wx => k = .int .i64 1 ∧ wx = w4.setCell ⟨g, o + 7, none⟩ (.bool (L || L2)))
  case first =>
    cases L
    all_goals
      go_wp2_with fail
      go_meet
      case rel => exact ⟨rfl, rfl⟩
  case rest =>
  obtain ⟨rfl, hwm⟩ := hcut
  have m6 : wc.cell? ⟨G, 15, none⟩ = some (.bool M9) := by rw [hwm]; exact (World.cell?_setCell_far _ _ _ _ HGG.out).trans y6
  have m8 : wc.cell? ⟨G, 17, none⟩ = some (.bool E2) := by rw [hwm]; exact (World.cell?_setCell_far _ _ _ _ HGG.out).trans y8
  have n8 : wc.cell? ⟨g, o + 8, none⟩ = some (.bool E) := by rw [hwm]; exact (World.cell?_setCell_other _ _ _ _ (fun e => by injection e; omega)).trans e8
  have nz : ∀ i, wc.frozen? ⟨g, i, none⟩ = false := by intro i; rw [hwm, World.frozen?_setCell]; exact ez i
  have HF2 : Hid (KidsPost g o lo hi G la ha lb hb x y t u (L || L2) (E2 || M9 && E) w (.returned (.tuple #[])) (wc.setCell ⟨g, o + 8, none⟩ (.bool (E2 || M9 && E)))) := keepHid (by rw [hwm]; exact HF.out)
  clear e5 e6 e7 e8 ez y6 y7 y8 hwm
  generalize wc = w5 at *
  go_upto_region 8 with fail
  go_cut [20] (fun k wx => k = .int .i64 1 ∧ wx = w5.setCell ⟨g, o + 8, none⟩ (.bool (E2 || M9 && E)))
  case first =>
    cases E2 <;> cases M9 <;> cases E
    all_goals
      go_wp2_with fail
      go_meet
      case rel => exact ⟨rfl, rfl⟩
  case rest =>
  obtain ⟨rfl, hwm⟩ := hcut
  rw [← hwm] at HF2
  clear hwm m6 m8 n8 nz
  go_wp2_with fail
  rw [rounds_succ]
  go_wp2
  refine bodyPost_end (results_none rfl _ _ _) rfl ?_
  exact HF2.out


set_option maxHeartbeats 2000000 in
theorem step_thn {a a2 : Pt} (HA : StepSpec a) (HB : StepSpec a2) : StepSpec (.thn a a2) := by
  intro w g o lo hi h c b ha hk hg
  by_cases hd : b = false ∧ lv (.thn a a2) = false
  · obtain ⟨rfl, hl⟩ := hd
    exact step_still hl w g o lo hi h c ha hk hg
  · obtain ⟨G, cp, x, y, la, hA, lb, hB, rfl, h1, h2, h3, h4, h5, h6, h7, h8, h9, h10, h11, ax, ay, ix, iy⟩ := hk
    have HC := keepHid (turn2 (h := ⟨2, st0, some ⟨G, 0, none⟩, 2, cp, em a && em a2, lv a || lv a2, en a2 || em a2 && en a⟩) HA HB c b ha rfl rfl rfl h1 h2 ⟨h3, h4⟩ ⟨h5, by omega⟩ ⟨by omega, h7⟩ h10 h11 h6 ax ay ix iy hg h8 h9)
    have HF : Hid (∀ e w', KidsPost g o lo hi G la hA lb hB x y (stp a c b) (stp a2 c (en a || b && em a)) (lv (stp a c b) || lv (stp a2 c (en a || b && em a))) (en (stp a2 c (en a || b && em a)) || em a2 && en (stp a c b)) w e w' →
        e = .returned (.tuple #[]) ∧ Wr g o lo hi (lv (stp (.thn a a2) c b)) (en (stp (.thn a a2) c b)) w w' ∧ PtK w' lo hi ⟨2, st0, some ⟨G, 0, none⟩, 2, cp, em a && em a2, lv (stp (.thn a a2) c b), en (stp (.thn a a2) c b)⟩ (stp (.thn a a2) c b)) := keepHid (by
      rintro e w' ⟨r1, r2, r3, r4, r5, r6⟩
      have e1 : lv (stp (.thn a a2) c b) = (lv (stp a c b) || lv (stp a2 c (en a || b && em a))) := rfl
      have e2 : en (stp (.thn a a2) c b) = (en (stp a2 c (en a || b && em a)) || em a2 && en (stp a c b)) := by
        show (en (stp a2 c (en a || b && em a)) || em (stp a2 c (en a || b && em a)) && en (stp a c b)) = _
        rw [em_stp]
      rw [e1, e2]
      refine ⟨r1, r2, G, cp, _, _, la, hA, lb, hB, ?_, h1, h2, h3, h4, h5, h6, h7, h8, h9, h10, h11, r3, r4, r5, r6⟩
      rw [em_stp, em_stp])
    have HD : Hid (b = true ∨ (lv a || lv a2) = true) := keepHid (by
      rcases Bool.eq_false_or_eq_true b with hb | hb
      · exact .inl hb
      · right
        rcases Bool.eq_false_or_eq_true (lv (.thn a a2)) with hl | hl
        · exact hl
        · exact absurd ⟨hb, hl⟩ hd)
    obtain ⟨c0, c1, c2, c3, c4, c5, c6, c7, c8, fz⟩ := ha
    clear hd ax ay ix iy
    generalize hL : (lv a || lv a2) = L at *
    clear hL
    generalize KidsPost g o lo hi G la hA lb hB x y (stp a c b) (stp a2 c (en a || b && em a)) (lv (stp a c b) || lv (stp a2 c (en a || b && em a))) (en (stp a2 c (en a || b && em a)) || em a2 && en (stp a c b)) w = KP at *
    generalize lv (stp (.thn a a2) c b) = L' at *
    generalize en (stp (.thn a a2) c b) = E' at *
    generalize stp (.thn a a2) c b = t' at *
    generalize c.toNat = cn at *
    cases b
    · obtain rfl : L = true := by
        rcases HD.out with h | h
        · cases h
        · exact h
      go_enter Tryd.func23, Tryd.ntmps23
      go_wp2_with fail
      with_reducible refine HC.out.mono ?_
      intro e w' hp
      obtain ⟨rfl, hw⟩ := HF.out e w' hp
      have HW := keepHid hw
      clear hw hp
      go_wp2
      refine bodyPost_end (results_none rfl _ _ _) rfl ?_
      exact ⟨rfl, HW.out⟩
    · go_enter Tryd.func23, Tryd.ntmps23
      go_wp2_with fail
      with_reducible refine HC.out.mono ?_
      intro e w' hp
      obtain ⟨rfl, hw⟩ := HF.out e w' hp
      have HW := keepHid hw
      clear hw hp
      go_wp2
      refine bodyPost_end (results_none rfl _ _ _) rfl ?_
      exact ⟨rfl, HW.out⟩
set_option maxHeartbeats 2000000 in
theorem step_alt {a a2 : Pt} (HA : StepSpec a) (HB : StepSpec a2) : StepSpec (.alt a a2) := by
  intro w g o lo hi h c b ha hk hg
  by_cases hd : b = false ∧ lv (.alt a a2) = false
  · obtain ⟨rfl, hl⟩ := hd
    exact step_still hl w g o lo hi h c ha hk hg
  · obtain ⟨G, cp, x, y, la, hA, lb, hB, rfl, h1, h2, h3, h4, h5, h6, h7, h8, h9, h10, h11, ax, ay, ix, iy⟩ := hk
    have HC := keepHid (once2 (h := ⟨3, st0, some ⟨G, 0, none⟩, 2, cp, em a || em a2, lv a || lv a2, en a || en a2⟩) HA HB c b ha rfl rfl rfl h1 h2 ⟨h3, h4⟩ ⟨h5, by omega⟩ ⟨by omega, h7⟩ h10 h11 h6 ax ay ix iy hg h8 h9)
    have HF : Hid (∀ e w', KidsPost g o lo hi G la hA lb hB x y (stp a c b) (stp a2 c b) (lv (stp a c b) || lv (stp a2 c b)) (en (stp a c b) || en (stp a2 c b)) w e w' →
        e = .returned (.tuple #[]) ∧ Wr g o lo hi (lv (stp (.alt a a2) c b)) (en (stp (.alt a a2) c b)) w w' ∧ PtK w' lo hi ⟨3, st0, some ⟨G, 0, none⟩, 2, cp, em a || em a2, lv (stp (.alt a a2) c b), en (stp (.alt a a2) c b)⟩ (stp (.alt a a2) c b)) := keepHid (by
      rintro e w' ⟨r1, r2, r3, r4, r5, r6⟩
      refine ⟨r1, r2, G, cp, _, _, la, hA, lb, hB, ?_, h1, h2, h3, h4, h5, h6, h7, h8, h9, h10, h11, r3, r4, r5, r6⟩
      rw [em_stp, em_stp]
      rfl)
    have HD : Hid (b = true ∨ (lv a || lv a2) = true) := keepHid (by
      rcases Bool.eq_false_or_eq_true b with hb | hb
      · exact .inl hb
      · right
        rcases Bool.eq_false_or_eq_true (lv (.alt a a2)) with hl | hl
        · exact hl
        · exact absurd ⟨hb, hl⟩ hd)
    obtain ⟨c0, c1, c2, c3, c4, c5, c6, c7, c8, fz⟩ := ha
    clear hd ax ay ix iy
    generalize hL : (lv a || lv a2) = L at *
    clear hL
    generalize KidsPost g o lo hi G la hA lb hB x y (stp a c b) (stp a2 c b) (lv (stp a c b) || lv (stp a2 c b)) (en (stp a c b) || en (stp a2 c b)) w = KP at *
    generalize lv (stp (.alt a a2) c b) = L' at *
    generalize en (stp (.alt a a2) c b) = E' at *
    generalize stp (.alt a a2) c b = t' at *
    generalize c.toNat = cn at *
    cases b
    · obtain rfl : L = true := by
        rcases HD.out with h | h
        · cases h
        · exact h
      go_enter Tryd.func23, Tryd.ntmps23
      go_wp2_with fail
      with_reducible refine HC.out.mono ?_
      intro e w' hp
      obtain ⟨rfl, hw⟩ := HF.out e w' hp
      have HW := keepHid hw
      clear hw hp
      go_wp2
      refine bodyPost_end (results_none rfl _ _ _) rfl ?_
      exact ⟨rfl, HW.out⟩
    · go_enter Tryd.func23, Tryd.ntmps23
      go_wp2_with fail
      with_reducible refine HC.out.mono ?_
      intro e w' hp
      obtain ⟨rfl, hw⟩ := HF.out e w' hp
      have HW := keepHid hw
      clear hw hp
      go_wp2
      refine bodyPost_end (results_none rfl _ _ _) rfl ?_
      exact ⟨rfl, HW.out⟩
set_option maxHeartbeats 2000000 in
theorem step_star {a : Pt} (HA : StepSpec a) : StepSpec (.star a) := by
  intro w g o lo hi h c b ha hk hg
  by_cases hd : b = false ∧ lv (.star a) = false
  · obtain ⟨rfl, hl⟩ := hd
    exact step_still hl w g o lo hi h c ha hk hg
  · obtain ⟨G, cp, x, la, hA, rfl, h1, h2, h3, h4, h5, h6, h7, h8, ax, ix⟩ := hk
    have HC := keepHid (once1 (h := ⟨4, st0, some ⟨G, 0, none⟩, 1, cp, true, lv a, en a⟩) HA c (b || en a) ha rfl rfl rfl h1 h2 ⟨h3, h4⟩ ⟨h5, h6⟩ h8 ax ix hg h7)
    have HF : Hid (∀ e w', KidPost g o lo hi G la hA x (stp a c (b || en a)) w e w' →
        e = .returned (.tuple #[]) ∧ Wr g o lo hi (lv (stp (.star a) c b)) (en (stp (.star a) c b)) w w' ∧ PtK w' lo hi ⟨4, st0, some ⟨G, 0, none⟩, 1, cp, true, lv (stp (.star a) c b), en (stp (.star a) c b)⟩ (stp (.star a) c b)) := keepHid (by
      rintro e w' ⟨r1, r2, r3, r4⟩
      exact ⟨r1, r2, G, cp, _, la, hA, rfl, h1, h2, h3, h4, h5, h6, h7, h8, r3, r4⟩)
    have HD : Hid (b = true ∨ lv a = true) := keepHid (by
      rcases Bool.eq_false_or_eq_true b with hb | hb
      · exact .inl hb
      · right
        rcases Bool.eq_false_or_eq_true (lv (.star a)) with hl | hl
        · exact hl
        · exact absurd ⟨hb, hl⟩ hd)
    obtain ⟨c0, c1, c2, c3, c4, c5, c6, c7, c8, fz⟩ := ha
    clear hd ax ix
    generalize hL : lv a = L at *
    generalize hE : en a = E at *
    clear hL hE
    generalize KidPost g o lo hi G la hA x (stp a c (b || E)) w = KP at *
    generalize lv (stp (.star a) c b) = L' at *
    generalize en (stp (.star a) c b) = E' at *
    generalize stp (.star a) c b = t' at *
    generalize c.toNat = cn at *
    cases b
    · obtain rfl : L = true := by
        rcases HD.out with h | h
        · cases h
        · exact h
      simp only [Bool.false_or] at HC
      go_enter Tryd.func23, Tryd.ntmps23
      go_wp2_with fail
      with_reducible refine HC.out.mono ?_
      intro e w' hp
      obtain ⟨rfl, hw⟩ := HF.out e w' hp
      have HW := keepHid hw
      clear hw hp
      go_wp2
      refine bodyPost_end (results_none rfl _ _ _) rfl ?_
      exact ⟨rfl, HW.out⟩
    · simp only [Bool.true_or] at HC
      go_enter Tryd.func23, Tryd.ntmps23
      go_wp2_with fail
      with_reducible refine HC.out.mono ?_
      intro e w' hp
      obtain ⟨rfl, hw⟩ := HF.out e w' hp
      have HW := keepHid hw
      clear hw hp
      go_wp2
      refine bodyPost_end (results_none rfl _ _ _) rfl ?_
      exact ⟨rfl, HW.out⟩
theorem step_pt : ∀ t, StepSpec t
  | .nil => step_nil
  | .one s x => step_one s x
  | .thn a b => step_thn (step_pt a) (step_pt b)
  | .alt a b => step_alt (step_pt a) (step_pt b)
  | .star a => step_star (step_pt a)


theorem all9_0 {w : World} {G : Nat} {h : Ph} (a : AtPh w G 0 h) : w.cell? ⟨G, 0, none⟩ = some (.int .i64 h.k) ∧ w.cell? ⟨G, 1, none⟩ = some (.int .u64 (h.s.a.toNat : Int)) ∧ w.cell? ⟨G, 2, none⟩ = some (.int .u64 (h.s.b.toNat : Int)) ∧ w.cell? ⟨G, 3, none⟩ = some (.int .u64 (h.s.c.toNat : Int)) ∧
    w.cell? ⟨G, 4, none⟩ = some (.int .u64 (h.s.d.toNat : Int)) ∧ w.cell? ⟨G, 5, none⟩ = some (.slice h.A h.n h.c) ∧ w.cell? ⟨G, 6, none⟩ = some (.bool h.m) ∧ w.cell? ⟨G, 7, none⟩ = some (.bool h.l) ∧ w.cell? ⟨G, 8, none⟩ = some (.bool h.e) := ⟨a.c0, a.c1, a.c2, a.c3, a.c4, a.c5, a.c6, a.c7, a.c8⟩
theorem all9_9 {w : World} {G : Nat} {h : Ph} (a : AtPh w G 9 h) : w.cell? ⟨G, 9, none⟩ = some (.int .i64 h.k) ∧ w.cell? ⟨G, 10, none⟩ = some (.int .u64 (h.s.a.toNat : Int)) ∧ w.cell? ⟨G, 11, none⟩ = some (.int .u64 (h.s.b.toNat : Int)) ∧ w.cell? ⟨G, 12, none⟩ = some (.int .u64 (h.s.c.toNat : Int)) ∧
    w.cell? ⟨G, 13, none⟩ = some (.int .u64 (h.s.d.toNat : Int)) ∧ w.cell? ⟨G, 14, none⟩ = some (.slice h.A h.n h.c) ∧ w.cell? ⟨G, 15, none⟩ = some (.bool h.m) ∧ w.cell? ⟨G, 16, none⟩ = some (.bool h.l) ∧ w.cell? ⟨G, 17, none⟩ = some (.bool h.e) := ⟨a.c0, a.c1, a.c2, a.c3, a.c4, a.c5, a.c6, a.c7, a.c8⟩
def EmpPost (b : Bool) (w : World) (e : Ending) (w' : World) : Prop := e = .returned (.bool b) ∧ Below w.heap.size w w'
set_option maxHeartbeats 2000000 in
theorem emp0 {w : World} {g : Nat} {h : Ph} (a : AtPh w g 0 h) (hA : h.A = none) (hn : h.n = 0) (hc : h.c = 0) (hk : h.k = 0 ∨ h.k = 1) :
    Calls Tryd.prog 42 #[.pointer (some ⟨g, 0, none⟩)] w (EmpPost (h.k == 0) w) := by
  obtain ⟨c0, c1, c2, c3, c4, c5, c6, c7, c8⟩ := all9_0 a
  simp only [hA, hn, hc] at c5
  clear a hA hn hc c1 c2 c3 c4 c6 c7 c8
  rcases hk with hk | hk
  all_goals
    rw [hk] at c0 ⊢
    go_enter Tryd.func42, Tryd.ntmps42
    go_wp2_with fail
    refine wp_loop_rounds 1 ?_
    rw [rounds_succ]
    go_wp2
    go_ret
    exact ⟨rfl, Below.refl _ _⟩
set_option maxHeartbeats 2000000 in
theorem emp1 {w : World} {g G c : Nat} {h x : Ph} (a : AtPh w g 0 h) (hA : h.A = some ⟨G, 0, none⟩) (hn : h.n = 1) (hc : h.c = c) (hk : h.k = 4) (hc1 : 1 ≤ c) (ax : AtPh w G 0 x) :
    Calls Tryd.prog 42 #[.pointer (some ⟨g, 0, none⟩)] w (EmpPost true w) := by
  obtain ⟨c0, c1, c2, c3, c4, c5, c6, c7, c8⟩ := all9_0 a
  obtain ⟨x0, x1, x2, x3, x4, x5, x6, x7, x8⟩ := all9_0 ax
  simp only [hA, hn, hc, hk] at c0 c5
  obtain ⟨w1, hw1⟩ : ∃ w1, w.alloc (.cells (phL x).toArray 76) = w1 := ⟨_, rfl⟩
  have hb1 : Below w.heap.size w w1 := by rw [← hw1]; exact (Below.refl _ _).alloc (Nat.le_refl _) _
  have a1 := a.keep (hb1.block g a.lt)
  have v1 : AtPh w1 w.heap.size 0 x := by
    have hk : Blk w1 w.heap.size 76 (phL x).toArray := by rw [← hw1]; exact Blk.new _ _ _
    exact ⟨hk.cell 0, hk.cell 1, hk.cell 2, hk.cell 3, hk.cell 4, hk.cell 5, hk.cell 6, hk.cell 7, hk.cell 8, hk.frozen⟩
  obtain ⟨d0, d1, d2, d3, d4, d5, d6, d7, d8⟩ := all9_0 a1
  obtain ⟨-, -, -, -, -, -, v6, -, -⟩ := all9_0 v1
  simp only [hk] at d0
  have HW1 := keepHid hw1
  have HB1 := keepHid hb1
  have hci : (1 : Int) ≤ (c : Int) := by omega
  unfold phL at HW1
  clear a ax a1 v1 hA hn hc hk hw1 hb1 c1 c2 c3 c4 c6 c7 c8 d1 d2 d3 d4 d5 d6 d7 d8
  generalize x.m = M at *
  go_enter Tryd.func42, Tryd.ntmps42
  go_wp2_with fail
  refine wp_loop_rounds 2 ?_
  rw [rounds_succ]
  go_upto_region 5 with fail
  rw [HW1.out]
  clear c0 c5 x0 x1 x2 x3 x4 x5 x6 x7 x8
  cases M
  all_goals
    go_wp2_with fail
    rw [rounds_succ]
    go_wp2
    go_ret
    exact ⟨rfl, HB1.out⟩
set_option maxHeartbeats 4000000 in
theorem emp2 {w : World} {g G c : Nat} {h x y : Ph} (a : AtPh w g 0 h) (hA : h.A = some ⟨G, 0, none⟩) (hn : h.n = 2) (hc : h.c = c) (R : Bool) (hk : (h.k = 2 ∧ R = (x.m && y.m)) ∨ (h.k = 3 ∧ R = (x.m || y.m))) (hc1 : 2 ≤ c) (ax : AtPh w G 0 x) (ay : AtPh w G 9 y) :
    Calls Tryd.prog 42 #[.pointer (some ⟨g, 0, none⟩)] w (EmpPost R w) := by
  obtain ⟨c0, c1, c2, c3, c4, c5, c6, c7, c8⟩ := all9_0 a
  obtain ⟨x0, x1, x2, x3, x4, x5, x6, x7, x8⟩ := all9_0 ax
  simp only [hA, hn, hc] at c5
  obtain ⟨w1, hw1⟩ : ∃ w1, w.alloc (.cells (phL x).toArray 76) = w1 := ⟨_, rfl⟩
  have hb1 : Below w.heap.size w w1 := by rw [← hw1]; exact (Below.refl _ _).alloc (Nat.le_refl _) _
  have v1 : AtPh w1 w.heap.size 0 x := by
    have hk : Blk w1 w.heap.size 76 (phL x).toArray := by rw [← hw1]; exact Blk.new _ _ _
    exact ⟨hk.cell 0, hk.cell 1, hk.cell 2, hk.cell 3, hk.cell 4, hk.cell 5, hk.cell 6, hk.cell 7, hk.cell 8, hk.frozen⟩
  obtain ⟨-, -, -, -, -, -, v6, -, -⟩ := all9_0 v1
  obtain ⟨y0, y1, y2, y3, y4, y5, y6, y7, y8⟩ := all9_9 (ay.keep (hb1.block G ay.lt))
  obtain ⟨w2, hw2⟩ : ∃ w2, w1.alloc (.cells (phL y).toArray 76) = w2 := ⟨_, rfl⟩
  have hb2 : Below w1.heap.size w1 w2 := by rw [← hw2]; exact (Below.refl _ _).alloc (Nat.le_refl _) _
  have v2 : AtPh w2 w1.heap.size 0 y := by
    have hk : Blk w2 w1.heap.size 76 (phL y).toArray := by rw [← hw2]; exact Blk.new _ _ _
    exact ⟨hk.cell 0, hk.cell 1, hk.cell 2, hk.cell 3, hk.cell 4, hk.cell 5, hk.cell 6, hk.cell 7, hk.cell 8, hk.frozen⟩
  obtain ⟨-, -, -, -, -, -, u6, -, -⟩ := all9_0 v2
  obtain ⟨d0, -, -, -, -, d5, -, -, -⟩ := all9_0 ((a.keep (hb1.block g a.lt)).keep (hb2.block g (Nat.lt_of_lt_of_le a.lt hb1.size)))
  simp only [hA, hn, hc] at d5
  have HW1 := keepHid hw1
  have HW2 := keepHid hw2
  have HB2 := keepHid (hb1.trans (hb2.mono hb1.size))
  have hci : (2 : Int) ≤ (c : Int) := by omega
  have hs1 : w1.heap.size = w.heap.size + 1 := by rw [← hw1]; simp
  have HS1 := keepHid hs1
  unfold phL at HW1 HW2
  clear a ax ay v1 v2 hA hn hc hw1 hw2 hb1 hb2 c1 c2 c3 c4 c6 c7 c8 hs1
  generalize x.m = M at *
  generalize y.m = M2 at *
  generalize hkk : h.k = kk at *
  clear hkk
  go_enter Tryd.func42, Tryd.ntmps42
  go_wp2_with fail
  refine wp_loop_rounds 3 ?_
  rw [rounds_succ]
  go_upto_region 5 with fail
  rw [HW1.out]
  clear c0 c5 x0 x1 x2 x3 x4 x5 x6 x7 x8
  cases M
  all_goals
    go_wp2_with fail
    rw [rounds_succ]
    go_upto_region 5 with fail
    rw [HW2.out]
    cases M2
    all_goals
      rcases hk with ⟨rfl, rfl⟩ | ⟨rfl, rfl⟩
      all_goals
        go_wp2_with fail
        rw [rounds_succ]
        go_wp2
        go_ret
        exact ⟨rfl, HB2.out⟩
end Go.Proofs.YtgidoieppplhpaaDoor
