/-
  The law's own board in memory: its pieces, and what a step leaves of them.
-/
import Derived.Test.YtonloefjhofeeaaGreatDoorBoardExec
import Derived.Test.YtonloefjhofeeaaGreatDoorSl
import Derived.Deep.DeepCutAuto
import Derived.Deep.RegionWith
import Derived.StillTailTactics
import Derived.Laws.StructEq
import Derived.Test.YtonloefjhofeeaaGreatDoorTac
namespace Go.Proofs.YtonloefjhofeeaaGreatDoor
open Go.RowKit
set_option linter.unusedVariables false

def mdlC (GS : Nat) (z1 z2 : Int) (aw : Bool) (ln : List UInt8) (pv fv : Option Addr) (ad : Nat) (rv : Value) : Array Value :=
  #[ptV GS, .int .i64 z1, .int .i64 z2, .bool aw, .string (strB ln), .pointer pv, .pointer fv, .int .i64 (ad : Int), rv]
/-- What receives the load: one of two pointers. -/
def MLod (w0 w : World) (κ : Nat → Nat) (p : BP Fl) (z1 z2 : Int) (pv fv : Option Addr) : Lod → Prop
  | .non => pv = none ∧ fv = none
  | .one crc r => fv = none ∧ ∃ GR, pv = some ⟨GR, 0, none⟩ ∧ OneAt w0 w κ p GR crc r
  | .files b => pv = none ∧ ∃ GR, fv = some ⟨GR, 0, none⟩ ∧ FilesAt w0 w κ p z1 z2 GR b
theorem MLod.turns {w0 w w' : World} {κ : Nat → Nat} {S : Nat → Prop} {p : BP Fl} {z1 z2 : Int} {pv fv : Option Addr} {l : Lod} (h : MLod w0 w κ p z1 z2 pv fv l) (ht : Turn S w w') (hS : ∀ i, κ i = 5 → ¬ S i) : MLod w0 w' κ p z1 z2 pv fv l := by
  cases l with
  | non => exact h
  | one crc r => obtain ⟨e0, GR, e1, e2⟩ := h; exact ⟨e0, GR, e1, e2.turns ht hS⟩
  | files b => obtain ⟨e0, GR, e1, e2⟩ := h; exact ⟨e0, GR, e1, e2.turns ht hS⟩
theorem MLod.hue {w0 w : World} {κ κ' : Nat → Nat} {p : BP Fl} {z1 z2 : Int} {pv fv : Option Addr} {l : Lod} (h : MLod w0 w κ p z1 z2 pv fv l) (hk : ∀ i, κ i = 5 → κ' i = 5) : MLod w0 w κ' p z1 z2 pv fv l := by
  cases l with
  | non => exact h
  | one crc r => obtain ⟨e0, GR, e1, e2⟩ := h; exact ⟨e0, GR, e1, e2.hue hk⟩
  | files b => obtain ⟨e0, GR, e1, e2⟩ := h; exact ⟨e0, GR, e1, e2.hue hk⟩
/-- The law's board in block G (colour 1), its Store in block GS (colour 2), its replies of colour 4, what it loads of colour 5. -/
structure MdlM (w0 w : World) (G : Nat) (κ : Nat → Nat) (p : BP Fl) (z1 z2 : Int) (GS : Nat) (pv fv : Option Addr) (rv : Value) (s : Bd) : Prop where
  blk : Blk w G 79 (mdlC GS z1 z2 s.aw s.ln pv fv s.ad rv)
  g : κ G = 1
  gs : κ GS = 2
  sto : Sto w GS s.st
  reps : RepsAt w0 w κ rv s.rp
  lod : MLod w0 w κ p z1 z2 pv fv s.ld
  lt : ∀ i, κ i ≠ 0 → w0.heap.size ≤ i ∧ i < w.heap.size
  base : Stan w0 w p z1 z2
def Mdl (w0 w : World) (G : Nat) (κ : Nat → Nat) (p : BP Fl) (z1 z2 : Int) (s : Bd) : Prop := ∃ GS pv fv rv, MdlM w0 w G κ p z1 z2 GS pv fv rv s
def MOut (w0 : World) (G : Nat) (κ : Nat → Nat) (p : BP Fl) (z1 z2 : Int) (s' : Bd) (w w' : World) : Prop :=
  ∃ κ', Mdl w0 w' G κ' p z1 z2 s' ∧ Turn (fun i => κ i ≠ 0) w w' ∧ ∀ i, κ' i ≠ 0 → κ i ≠ 0 ∨ w.heap.size ≤ i
section
variable {w0 w w' : World} {G GS : Nat} {κ κ' : Nat → Nat} {p : BP Fl} {z1 z2 : Int} {pv fv : Option Addr} {rv : Value} {s : Bd}
theorem MdlM.turns {S : Nat → Prop} (h : MdlM w0 w G κ p z1 z2 GS pv fv rv s) (ht : Turn S w w') (hS : ∀ i, S i → κ i = 0 ∧ w0.heap.size ≤ i) : MdlM w0 w' G κ p z1 z2 GS pv fv rv s := by
  obtain ⟨h1, h2, h3, h4, h6, h7, h8, h9⟩ := h
  have hn : ∀ (k : Nat), k ≠ 0 → ∀ i, κ i = k → ¬ S i := fun k hk i hi hs => by have := (hS i hs).1; omega
  exact ⟨ht.blk h1 (hn 1 (by omega) G h2), h2, h3, h4.turn ht (hn 2 (by omega) GS h3), h6.turns ht (hn 4 (by omega)), h7.turns ht (hn 5 (by omega)), fun i hi => ⟨(h8 i hi).1, Nat.lt_of_lt_of_le (h8 i hi).2 ht.size⟩, h9.turns ht fun i hi => (hS i hi).2⟩
theorem MdlM.below (h : MdlM w0 w G κ p z1 z2 GS pv fv rv s) (hb : Below w.heap.size w w') : MdlM w0 w' G κ p z1 z2 GS pv fv rv s := h.turns (S := fun _ => False) (Turn.of_below hb) (fun _ h => h.elim)
theorem Mdl.turns {S : Nat → Prop} (h : Mdl w0 w G κ p z1 z2 s) (ht : Turn S w w') (hS : ∀ i, S i → κ i = 0 ∧ w0.heap.size ≤ i) : Mdl w0 w' G κ p z1 z2 s := by
  obtain ⟨a, b, c, d, h⟩ := h; exact ⟨a, b, c, d, h.turns ht hS⟩
theorem Mdl.below (h : Mdl w0 w G κ p z1 z2 s) (hb : Below w.heap.size w w') : Mdl w0 w' G κ p z1 z2 s := by
  obtain ⟨a, b, c, d, h⟩ := h; exact ⟨a, b, c, d, h.below hb⟩
theorem Mdl.lt (h : Mdl w0 w G κ p z1 z2 s) : ∀ i, κ i ≠ 0 → w0.heap.size ≤ i ∧ i < w.heap.size := by obtain ⟨a, b, c, d, h⟩ := h; exact h.lt
theorem Mdl.base (h : Mdl w0 w G κ p z1 z2 s) : Stan w0 w p z1 z2 := by obtain ⟨a, b, c, d, h⟩ := h; exact h.base
theorem MOut.of {w1 : World} {κ1 : Nat → Nat} {s' : Bd} (ht : Turn (fun i => κ i ≠ 0) w w1) (hk : ∀ i, κ1 i ≠ 0 → κ i ≠ 0 ∨ w.heap.size ≤ i) (h : MOut w0 G κ1 p z1 z2 s' w1 w') : MOut w0 G κ p z1 z2 s' w w' := by
  obtain ⟨κ', h1, h2, h3⟩ := h
  refine ⟨κ', h1, ?_, fun i hi => ?_⟩
  · refine ⟨h2.os.trans ht.os, h2.tape.trans ht.tape, h2.output.trans ht.output, Nat.le_trans ht.size h2.size, fun i hi hn => (h2.block i (Nat.lt_of_lt_of_le hi ht.size) (fun h1 => ?_)).trans (ht.block i hi hn)⟩
    rcases hk i h1 with h2 | h2
    · exact hn h2
    · omega
  · rcases h3 i hi with h1 | h1
    · exact hk i h1
    · exact .inr (Nat.le_trans ht.size h1)
theorem MOut.same (h : Mdl w0 w G κ p z1 z2 s) (hb : Below w.heap.size w w') : MOut w0 G κ p z1 z2 s w w' := ⟨κ, h.below hb, Turn.of_below hb, fun i hi => .inl hi⟩
theorem MOut.below {s' : Bd} {w2 : World} (h : MOut w0 G κ p z1 z2 s' w w') (hb : Below w'.heap.size w' w2) : MOut w0 G κ p z1 z2 s' w w2 := by
  obtain ⟨κ', h1, h2, h3⟩ := h
  exact ⟨κ', h1.below hb, h2.trans (Turn.of_below hb), h3⟩
theorem MdlM.pieces (h : MdlM w0 w G κ p z1 z2 GS pv fv rv s) : ∀ k, k ≠ 1 → ∀ i, κ i = k → ¬ i = G := fun k hk i hi e => by rw [e, h.g] at hi; exact hk hi.symm
/-- Its own cells alone are written; its Store, its replies and its load stay. -/
theorem MdlM.own {s' : Bd} (h : MdlM w0 w G κ p z1 z2 GS pv fv rv s) (ht : Turn (fun i => i = G) w w') (hb : Blk w' G 79 (mdlC GS z1 z2 s'.aw s'.ln pv fv s'.ad rv)) (e1 : s'.st = s.st) (e2 : s'.rp = s.rp) (e3 : s'.ld = s.ld) :
    MdlM w0 w' G κ p z1 z2 GS pv fv rv s' := by
  have hn := h.pieces
  refine ⟨hb, h.g, h.gs, by rw [e1]; exact h.sto.turn ht (hn 2 (by omega) GS h.gs), by rw [e2]; exact h.reps.turns ht (hn 4 (by omega)), by rw [e3]; exact h.lod.turns ht (hn 5 (by omega)), fun i hi => ⟨(h.lt i hi).1, Nat.lt_of_lt_of_le (h.lt i hi).2 ht.size⟩, h.base.turns ht fun i hi => ?_⟩
  rw [hi]; exact (h.lt G (by rw [h.g]; omega)).1
theorem MdlM.turnG (h : MdlM w0 w G κ p z1 z2 GS pv fv rv s) {a b : World} (ht : Turn (fun i => i = G) a b) : Turn (fun i => κ i ≠ 0) a b := ht.mono fun i hi => by rw [hi, h.g]; omega
/-- A receiver has turned its own blocks, and may own new ones. -/
theorem MdlM.recv {l' : Lod} {O O' : Nat → Prop} (h : MdlM w0 w G κ p z1 z2 GS pv fv rv s) (ht : Turn O w w') (hO : ∀ i, O i → κ i = 5)
    (hO' : ∀ i, O' i → O i ∨ w.heap.size ≤ i) (hlt : ∀ i, O' i → i < w'.heap.size) (hl : MLod w0 w' (hue5 κ O') p z1 z2 pv fv l') :
    MdlM w0 w' G (hue5 κ O') p z1 z2 GS pv fv rv { s with ld := l' } ∧ (∀ i, hue5 κ O' i ≠ 0 → κ i ≠ 0 ∨ w.heap.size ≤ i) := by
  have hk : ∀ k, k ≠ 0 → k ≠ 5 → ∀ i, κ i = k → hue5 κ O' i = k := fun k h0 h5 i hi => by
    rw [hue5_out]
    · exact hi
    · intro ho
      rcases hO' i ho with h1 | h1
      · have := hO i h1; omega
      · have := (h.lt i (by omega)).2; omega
  have hn : ∀ k, k ≠ 5 → ∀ i, κ i = k → ¬ O i := fun k h5 i hi ho => by have := hO i ho; omega
  have hz : ∀ i, hue5 κ O' i ≠ 0 → κ i ≠ 0 ∨ w.heap.size ≤ i ∧ O' i := fun i hi => by
    by_cases ho : O' i
    · rcases hO' i ho with h1 | h1
      · exact .inl (by have := hO i h1; omega)
      · exact .inr ⟨h1, ho⟩
    · rw [hue5_out ho] at hi; exact .inl hi
  refine ⟨⟨ht.blk h.blk (hn 1 (by omega) G h.g), hk 1 (by omega) (by omega) G h.g, hk 2 (by omega) (by omega) GS h.gs, h.sto.turn ht (hn 2 (by omega) GS h.gs), (h.reps.turns ht (hn 4 (by omega))).hue (hk 4 (by omega) (by omega)), hl, fun i hi => ?_, h.base.turns ht fun i hi => (h.lt i (by rw [hO i hi]; omega)).1⟩, fun i hi => (hz i hi).imp id (·.1)⟩
  rcases hz i hi with h1 | ⟨h1, h2⟩
  · exact ⟨(h.lt i h1).1, Nat.lt_of_lt_of_le (h.lt i h1).2 ht.size⟩
  · exact ⟨Nat.le_trans h.base.bel.size h1, hlt i h2⟩
/-- A new receiver is laid in: only the board's own cells have turned. -/
theorem MdlM.loaded {w1 : World} {l' : Lod} {O' : Nat → Prop} {pv' fv' : Option Addr} (h : MdlM w0 w G κ p z1 z2 GS pv fv rv s) (hb : Below w.heap.size w w1) (hO' : ∀ i, O' i → w.heap.size ≤ i ∧ i < w1.heap.size) (ht : Turn (fun i => i = G) w1 w')
    (hs : w'.heap.size = w1.heap.size) (hk2 : Blk w' G 79 (mdlC GS z1 z2 s.aw s.ln pv' fv' s.ad rv)) (hl : MLod w0 w1 (hue5 κ O') p z1 z2 pv' fv' l') :
    MOut w0 G κ p z1 z2 { s with ld := l' } w w' := by
  have hk : ∀ k, k ≠ 0 → ∀ i, κ i = k → hue5 κ O' i = k := fun k h0 i hi => by
    rw [hue5_out]
    · exact hi
    · intro ho
      have := (hO' i ho).1
      have := (h.lt i (by omega)).2
      omega
  have h1 := h.below hb
  have hn := h.pieces
  have hz : ∀ i, hue5 κ O' i ≠ 0 → κ i ≠ 0 ∨ O' i := fun i hi => by
    by_cases ho : O' i
    · exact .inr ho
    · rw [hue5_out ho] at hi; exact .inl hi
  refine ⟨hue5 κ O', ⟨GS, pv', fv', rv, ⟨hk2, hk 1 (by omega) G h.g, hk 2 (by omega) GS h.gs, h1.sto.turn ht (hn 2 (by omega) GS h.gs), (h1.reps.turns ht (hn 4 (by omega))).hue (hk 4 (by omega)), hl.turns ht fun i hi e => ?_, fun i hi => ?_, h1.base.turns ht fun i hi => by rw [hi]; exact (h.lt G (by rw [h.g]; omega)).1⟩⟩, (Turn.of_below hb).trans (h.turnG ht), fun i hi => (hz i hi).imp id fun ho => (hO' i ho).1⟩
  · rw [e, hk 1 (by omega) G h.g] at hi; omega
  · rw [hs]
    rcases hz i hi with q | q
    · exact h1.lt i q
    · exact ⟨Nat.le_trans h.base.bel.size (hO' i q).1, (hO' i q).2⟩
/-- The load is struck out. -/
theorem MdlM.struck {w1 : World} (h : MdlM w0 w G κ p z1 z2 GS pv fv rv s) (hb : Below w.heap.size w w1) (ht : Turn (fun i => i = G) w1 w') (hs : w'.heap.size = w1.heap.size) (hk : Blk w' G 79 (mdlC GS z1 z2 s.aw s.ln none none s.ad rv)) :
    MdlM w0 w' G κ p z1 z2 GS none none rv { s with ld := .non } := by
  have h1 := h.below hb
  have hn := h.pieces
  exact ⟨hk, h.g, h.gs, h1.sto.turn ht (hn 2 (by omega) GS h.gs), h1.reps.turns ht (hn 4 (by omega)), ⟨rfl, rfl⟩, fun i hi => by rw [hs]; exact h1.lt i hi, h1.base.turns ht fun i hi => by rw [hi]; exact (h.lt G (by rw [h.g]; omega)).1⟩
/-- The Store alone is written. -/
theorem MdlM.wrote {st' : List UInt8} (h : MdlM w0 w G κ p z1 z2 GS pv fv rv s) (ht : Turn (fun i => i = GS) w w') (hs : Sto w' GS st') : MdlM w0 w' G κ p z1 z2 GS pv fv rv { s with st := st' } := by
  have hn : ∀ k, k ≠ 2 → ∀ i, κ i = k → ¬ i = GS := fun k hk i hi e => by rw [e, h.gs] at hi; exact hk hi.symm
  exact ⟨ht.blk h.blk (hn 1 (by omega) G h.g), h.g, h.gs, hs, h.reps.turns ht (hn 4 (by omega)), h.lod.turns ht (hn 5 (by omega)), fun i hi => ⟨(h.lt i hi).1, Nat.lt_of_lt_of_le (h.lt i hi).2 ht.size⟩, h.base.turns ht fun i hi => by rw [hi]; exact (h.lt GS (by rw [h.gs]; omega)).1⟩
/-- A reply is laid behind the others. -/
theorem MdlM.replied {w4 w5 : World} {G2 cap : Nat} {V : Rp} {wy : World} (h : MdlM w0 w G κ p z1 z2 GS pv fv rv s) (hb : Below w.heap.size w wy) (ho : OwnR w4 w0.heap.size (.slice (some ⟨G2, 0, none⟩) (s.rp.length + 1) cap) (s.rp.length + 1) (s.rp ++ [V])) (ht : Turn (fun i => rv.ownBlock = some i) wy w4)
    (hw : rv.ownBlock = some G2 ∨ w.heap.size ≤ G2) (h5 : w4.setCell ⟨G, 8, none⟩ (.slice (some ⟨G2, 0, none⟩) (s.rp.length + 1) cap) = w5) :
    MOut w0 G κ p z1 z2 { s with rp := s.rp ++ [V] } w w5 := by
  have hy := h.below hb
  have hG2 : κ G2 = 4 ∨ (κ G2 = 0 ∧ w.heap.size ≤ G2) := by
    rcases hw with e | e
    · exact .inl (h.reps.col G2 e)
    · refine .inr ⟨?_, e⟩
      rcases Nat.eq_zero_or_pos (κ G2) with q | q
      · exact q
      · have := (h.lt G2 (by omega)).2; omega
  have hlt2 : G2 < w4.heap.size := (World.ownsRow.lt ho G2 rfl).2
  have hge2 : w0.heap.size ≤ G2 := (World.ownsRow.lt ho G2 rfl).1
  have hk : ∀ k, k ≠ 0 → ∀ i, κ i = k → (if i = G2 then 4 else κ i) = k := fun k h0 i hi => by
    by_cases e : i = G2
    · rw [if_pos e]; rw [e] at hi; omega
    · rw [if_neg e]; exact hi
  have hn4 : ∀ k, k ≠ 4 → ∀ i, κ i = k → ¬ rv.ownBlock = some i := fun k h4 i hi e => by rw [h.reps.col i e] at hi; omega
  have t5 : Turn (fun i => i = G) w4 w5 := by rw [← h5]; exact turnAt _ _ (Turn.refl _ w4)
  have s5 : w5.heap.size = w4.heap.size := by rw [← h5]; simp
  have hn1 := h.pieces
  have hG : G ≠ G2 := fun e => by have := h.g; rw [e] at this; omega
  have hz : ∀ i, (if i = G2 then 4 else κ i) ≠ 0 → κ i ≠ 0 ∨ i = G2 := fun i hi => by
    by_cases e : i = G2
    · exact .inr e
    · rw [if_neg e] at hi; exact .inl hi
  refine ⟨fun i => if i = G2 then 4 else κ i, ⟨GS, pv, fv, .slice (some ⟨G2, 0, none⟩) (s.rp.length + 1) cap, ⟨?_, hk 1 (by omega) G h.g, hk 2 (by omega) GS h.gs, ?_, ⟨?_, ?_, ?_⟩, ?_, ?_, ?_⟩⟩, ?_, ?_⟩
  · rw [← h5]; exact (ht.blk hy.blk (hn4 1 (by omega) G h.g)).put 8 _
  · exact ((hy.sto.turn ht (hn4 2 (by omega) GS h.gs))).turn t5 (hn1 2 (by omega) GS h.gs)
  · have : (s.rp ++ [V]).length = s.rp.length + 1 := by simp
    show OwnR w5 w0.heap.size _ (s.rp ++ [V]).length (s.rp ++ [V])
    rw [this]
    exact ho.turn t5 (fun i hi e => by
      have : i = G2 := by simp [Value.ownBlock] at hi; omega
      exact hG (by rw [← e, this]))
  · intro i hi
    have : i = G2 := by simp [Value.ownBlock] at hi; omega
    simp [this]
  · intro e; simp at e
  · exact ((hy.lod.turns ht (hn4 5 (by omega))).turns t5 (hn1 5 (by omega))).hue (hk 5 (by omega))
  · intro i hi
    rw [s5]
    rcases hz i hi with q | q
    · exact ⟨(hy.lt i q).1, Nat.lt_of_lt_of_le (hy.lt i q).2 ht.size⟩
    · rw [q]; exact ⟨hge2, hlt2⟩
  · exact (hy.base.turns ht (fun i hi => (h.lt i (by rw [h.reps.col i hi]; omega)).1)).turns t5 (fun i hi => by rw [hi]; exact (h.lt G (by rw [h.g]; omega)).1)
  · exact (((Turn.of_below hb).trans (ht.mono fun i hi => by rw [h.reps.col i hi]; omega)).trans (h.turnG t5))
  · intro i hi
    rcases hz i hi with q | q
    · exact .inl q
    · rcases hG2 with g | g
      · exact .inl (by rw [q]; omega)
      · exact .inr (by rw [q]; exact g.2)
/-- What a load's receiver leaves of a call. -/
def MLPost (w0 : World) (G : Nat) (κ : Nat → Nat) (p : BP Fl) (z1 z2 : Int) (GS : Nat) (pv fv : Option Addr) (rv : Value) (s : Bd) (r : List UInt8 × Lod) (w : World) (e : Ending) (w' : World) : Prop :=
  ∃ A c κ', e = .returned (.slice A r.1.length c) ∧ OwnB w' w.heap.size 5 (.slice A r.1.length c) r.1.length r.1 ∧
    MdlM w0 w' G κ' p z1 z2 GS pv fv rv { s with ld := r.2 } ∧ Turn (fun i => κ i ≠ 0) w w' ∧ ∀ i, κ' i ≠ 0 → κ i ≠ 0 ∨ w.heap.size ≤ i
theorem mone_post {GR B : Nat} {O : Nat → Prop} {crc : Bool} {r : List UInt8 × Rd} {e : Ending} (h : MdlM w0 w G κ p z1 z2 GS (some ⟨GR, 0, none⟩) none rv s) (hO : ∀ i, O i → κ i = 5) (hB : w0.heap.size ≤ B) (hp : RPost B GR O crc true p.W r w e w') :
    MLPost w0 G κ p z1 z2 GS (some ⟨GR, 0, none⟩) none rv s (r.1, .one crc r.2) w e w' := by
  obtain ⟨A, c, O', e1, e2, e3, e4, e5, e6, e7, e8⟩ := hp
  have hr := h.recv (O' := O') (l' := .one crc r.2) e5 hO e7 e6.lt ⟨rfl, GR, rfl, O', B, hB, e6, fun i hi => hue5_in hi⟩
  exact ⟨A, c, _, e1, e2, hr.1, e5.mono fun i hi => by rw [hO i hi]; omega, hr.2⟩
theorem mfiles_post {GR B : Nat} {O : Nat → Prop} {r : List UInt8 × Br Fl} {e : Ending} (h : MdlM w0 w G κ p z1 z2 GS none (some ⟨GR, 0, none⟩) rv s) (hO : ∀ i, O i → κ i = 5) (hB : w0.heap.size ≤ B) (hp : BrPost B GR O p z1 z2 r w e w') :
    MLPost w0 G κ p z1 z2 GS none (some ⟨GR, 0, none⟩) rv s (r.1, .files r.2) w e w' := by
  obtain ⟨A, c, O', e1, e2, e3, e4, e5, e6, e7, e8⟩ := hp
  have hr := h.recv (O' := O') (l' := .files r.2) e5 hO e7 e6.lt ⟨rfl, GR, rfl, O', B, hB, e6, fun i hi => hue5_in hi⟩
  exact ⟨A, c, _, e1, e2, hr.1, e5.mono fun i hi => by rw [hO i hi]; omega, hr.2⟩
/-- A load that is in progress: which of the two pointers it is. -/
theorem MLod.one_at {GR : Nat} {l : Lod} (h : MLod w0 w κ p z1 z2 (some ⟨GR, 0, none⟩) fv l) : fv = none ∧ ∃ crc r, l = .one crc r ∧ OneAt w0 w κ p GR crc r := by
  cases l with
  | non => exact absurd h.1 (by simp)
  | one crc r =>
    obtain ⟨e0, GR', e, h⟩ := h
    obtain rfl : GR = GR' := by injection e with e; injection e
    exact ⟨e0, crc, r, rfl, h⟩
  | files b => exact absurd h.1 (by simp)
theorem MLod.files_at {GR : Nat} {l : Lod} (h : MLod w0 w κ p z1 z2 pv (some ⟨GR, 0, none⟩) l) : pv = none ∧ ∃ b, l = .files b ∧ FilesAt w0 w κ p z1 z2 GR b := by
  cases l with
  | non => exact absurd h.2 (by simp)
  | one crc r => exact absurd h.1 (by simp)
  | files b =>
    obtain ⟨e0, GR', e, h⟩ := h
    obtain rfl : GR = GR' := by injection e with e; injection e
    exact ⟨e0, b, rfl, h⟩
theorem mone_tick {GR : Nat} (h : MdlM w0 w G κ p z1 z2 GS (some ⟨GR, 0, none⟩) none rv s) :
    Calls Tryz.prog 32 #[ptV GR] w (MLPost w0 G κ p z1 z2 GS (some ⟨GR, 0, none⟩) none rv s (s.ld.tick p) w) := by
  obtain ⟨_, crc, r, hs, O, B, hB, hR, hO⟩ := h.lod.one_at
  rw [hs]
  exact (tick_rcv hR).mono fun e w' hp => mone_post h hO hB hp
theorem mfiles_tick (hp : Rdr p) {GR : Nat} (h : MdlM w0 w G κ p z1 z2 GS none (some ⟨GR, 0, none⟩) rv s) (hf : s.ld.fit) :
    Calls Tryz.prog 31 #[ptV GR] w (MLPost w0 G κ p z1 z2 GS none (some ⟨GR, 0, none⟩) rv s (s.ld.tick p) w) := by
  obtain ⟨_, b, hs, O, B, hB, hR, hO⟩ := h.lod.files_at
  rw [hs] at hf ⊢
  obtain ⟨C, B', ⟨f1, f2, f3, f4⟩, hC, hB'⟩ := hf
  refine (brtick_any hp hR h.base.std hB ?_).mono fun e w' hp => mfiles_post h hO hB hp
  have := (tick_few true p.W b.r).1
  omega
theorem mone_put {GR : Nat} (h : MdlM w0 w G κ p z1 z2 GS (some ⟨GR, 0, none⟩) none rv s) (hf : s.ld.fit) (A : Option Addr) (n c : Nat) (x : List UInt8) (hx : Bys w w.heap.size A n x) (hn : n ≤ 400000000) (hap : ∀ ad, A = some ad → 0 < n → κ ad.block = 0) :
    Calls Tryz.prog 35 #[ptV GR, .slice A n c] w (MLPost w0 G κ p z1 z2 GS (some ⟨GR, 0, none⟩) none rv s (s.ld.put p x) w) := by
  obtain ⟨_, crc, r, hs, O, B, hB, hR, hO⟩ := h.lod.one_at
  rw [hs] at hf ⊢
  obtain ⟨C, B', ⟨f1, f2, f3, f4⟩, hC, hB'⟩ := hf
  refine (put_rcv hR A n c _ x hx (Nat.le_refl _) (fun h0 ad e hh => ?_) (by omega) (by omega) (by omega)).mono fun e w' hp => mone_post h hO hB hp
  have h1 := hO GR hR.g
  have h2 := hap ad e h0
  rw [hh] at h2
  omega
theorem mfiles_put (hp : Rdr p) {GR : Nat} (h : MdlM w0 w G κ p z1 z2 GS none (some ⟨GR, 0, none⟩) rv s) (hf : s.ld.fit) (A : Option Addr) (n c : Nat) (x : List UInt8) (hx : Bys w w.heap.size A n x) (hn : n ≤ 400000000) (hap : ∀ ad, A = some ad → 0 < n → κ ad.block = 0) :
    Calls Tryz.prog 34 #[ptV GR, .slice A n c] w (MLPost w0 G κ p z1 z2 GS none (some ⟨GR, 0, none⟩) rv s (s.ld.put p x) w) := by
  obtain ⟨_, b, hs, O, B, hB, hR, hO⟩ := h.lod.files_at
  rw [hs] at hf ⊢
  obtain ⟨C, B', ⟨f1, f2, f3, f4⟩, hC, hB'⟩ := hf
  refine (brput_any hp hR h.base.std hB A n c x hx (fun h0 ad e hh => ?_) (by omega) (by omega) (by omega) ?_).mono fun e w' hp => mfiles_post h hO hB hp
  · have h1 := hO _ hh
    have h2 := hap ad e h0
    omega
  · have := (put_few true (clB b.k) p.W b.r x).1
    omega
end


/-! ### A number, plainly -/
/-- Which letter of the sixteen a byte is, of the first i. -/
def vI (c : UInt8) (i : Nat) : Int := if hexL.contains c = true ∧ dgt c < i then (dgt c : Int) else -1
theorem vI_zero (c : UInt8) : vI c 0 = -1 := by unfold vI; rw [if_neg (fun h => absurd h.2 (by omega))]
theorem vI_hit {c : UInt8} {i : Nat} (hi : i < 16) (h : chr i = c) : vI c (i + 1) = (i : Int) := by
  have hd : dgt c = i := by rw [← h]; exact (Base.ch (b := 16) (.inr rfl) hi).2.1
  have hc : hexL.contains c = true := by rw [← h]; exact (Base.ch (b := 16) (.inr rfl) hi).1
  unfold vI
  rw [if_pos ⟨hc, by omega⟩, hd]
theorem vI_miss {c : UInt8} {i : Nat} (h : chr i ≠ c) : vI c (i + 1) = vI c i := by
  unfold vI
  by_cases hc : hexL.contains c = true
  · have hd := (Base.dg (b := 16) (.inr rfl) hc).1
    have hne : dgt c ≠ i := fun e => h (by rw [← e, hd])
    by_cases hl : dgt c < i
    · rw [if_pos ⟨hc, by omega⟩, if_pos ⟨hc, hl⟩]
    · rw [if_neg (fun q => absurd q.2 (by omega)), if_neg (fun q => hl q.2)]
  · rw [if_neg (fun q => hc q.1), if_neg (fun q => hc q.1)]
theorem vI_end (c : UInt8) : (vI c 16 = -1 ∧ hexL.contains c = false) ∨ (vI c 16 = (dgt c : Int) ∧ hexL.contains c = true ∧ dgt c < 16) := by
  unfold vI
  cases hc : hexL.contains c with
  | false => exact .inl ⟨by rw [if_neg (fun q => absurd q.1 (by simp))], rfl⟩
  | true =>
    have hd := (Base.dg (b := 16) (.inr rfl) hc).2.1
    exact .inr ⟨by rw [if_pos ⟨rfl, hd⟩], rfl, hd⟩
theorem hexN_bad {l : List UInt8} {k : Nat} {c : UInt8} (h : l[k]? = some c) (hc : hexL.contains c = false) : hexN l = none := by
  unfold hexN
  rw [if_neg]
  rintro ⟨h1, _⟩
  have := h1 c (List.mem_of_getElem? h)
  rw [hc] at this
  cases this
theorem hexN_long {l : List UInt8} (h : 8 < l.length) : hexN l = none := by
  cases hn : hexN l with
  | none => rfl
  | some n =>
    obtain ⟨h1, h2⟩ := hexN_is hn
    have := dig_eight h1
    rw [← h2] at this
    omega
theorem hexN_end {l : List UInt8} (h1 : ∀ c ∈ l, hexL.contains c = true) (h2 : valB 16 l 0 < 4294967296) : hexN l = if digL 16 (valB 16 l 0) = l then some (valB 16 l 0) else none := by
  unfold hexN
  by_cases h : digL 16 (valB 16 l 0) = l
  · rw [if_pos ⟨h1, h2, h⟩, if_pos h]
  · rw [if_neg (fun q => h q.2.2), if_neg h]
/-- Where a number is, k bytes on. -/
structure NumAt (l : List UInt8) (k n : Nat) : Prop where
  k8 : k ≤ 8
  len : k ≤ l.length
  vl : valB 16 (l.take k) 0 = n
  all : ∀ c ∈ l.take k, hexL.contains c = true
  lt : n < 16 ^ k
theorem NumAt.zero (l : List UInt8) : NumAt l 0 0 := ⟨by omega, by omega, rfl, fun c h => by simp at h, by omega⟩
theorem NumAt.next {l : List UInt8} {k n : Nat} {c : UInt8} (h : NumAt l k n) (hk : k < 8) (hc : l[k]? = some c) (hx : hexL.contains c = true) : NumAt l (k + 1) (n * 16 + dgt c) := by
  have hd := (Base.dg (b := 16) (.inr rfl) hx).2.1
  have hl := (List.getElem?_eq_some_iff.1 hc).1
  refine ⟨by omega, by omega, by rw [List.take_succ_of hc, valB_snoc, h.vl], fun d hm => ?_, ?_⟩
  · rw [List.take_succ_of hc] at hm
    rcases List.mem_append.1 hm with q | q
    · exact h.all d q
    · obtain rfl := List.mem_singleton.1 q; exact hx
  · rw [Nat.pow_succ]; have := h.lt; omega
theorem NumAt.small {l : List UInt8} {k n : Nat} (h : NumAt l k n) : n < 4294967296 := by
  have h1 : 16 ^ k ≤ 16 ^ 8 := Nat.pow_le_pow_right (by omega) h.k8
  have h2 : (16 : Nat) ^ 8 = 4294967296 := by decide
  have := h.lt
  omega
theorem NumAt.end_ {l : List UInt8} {n : Nat} (h : NumAt l l.length n) : hexN l = if digL 16 n = l then some n else none := by
  have h1 := h.all
  have h2 := h.vl
  rw [List.take_length] at h1 h2
  have h3 := hexN_end h1 (by rw [h2]; exact h.small)
  rw [h2] at h3
  exact h3
def NumM (l : List UInt8) (w : World) (e : Ending) (w' : World) : Prop :=
  ∃ (n : Nat) (b : Bool), e = .returned (.tuple #[.int .i64 (n : Int), .bool b]) ∧ n < 4294967296 ∧ (b = true → hexN l = some n) ∧ (b = false → hexN l = none) ∧ Below w.heap.size w w'

/-! ### A row of words -/
theorem own_set {w : World} {base : Nat} {e : TypeId} {g cap n k : Nat} {xs : List Value} (h : w.ownsRow base e 1 (.slice (some ⟨g, 0, none⟩) n cap) n xs) (u : Value) : (w.setCell ⟨g, k, none⟩ u).ownsRow base e 1 (.slice (some ⟨g, 0, none⟩) n cap) n (xs.set k u) := by
  rcases h.2 with ⟨e0, _⟩ | ⟨g', cap', cur, e0, hb, hg, hn, hm, hs, ht⟩
  · cases e0
  · injection e0 with e1 _ e3
    injection e1 with e1
    injection e1 with e1
    subst e1; subst e3
    refine ⟨by rw [List.length_set]; exact h.1, .inr ⟨g, cap, cur.setIfInBounds k u, rfl, hb, Blk.put (t := e) (cs := cur) hg k u, hn, hm, by simpa using hs, ?_⟩⟩
    rw [← ht]
    simp [List.take_set]
def wordV (l : List UInt8) : Value := .string (strB l)
/-- A row of words of a call's own. -/
def OwnW (w : World) (base : Nat) (v : Value) (n : Nat) (ws : List (List UInt8)) : Prop := w.ownsRow base 9 1 v n (ws.map wordV)
theorem OwnW.len {w : World} {base n : Nat} {v : Value} {ws : List (List UInt8)} (h : OwnW w base v n ws) : ws.length = n := by have := h.1; simpa using this
theorem OwnW.cell {w : World} {base n g c : Nat} {ws : List (List UInt8)} (h : OwnW w base (.slice (some ⟨g, 0, none⟩) n c) n ws) {k : Nat} {x : List UInt8} (hx : ws[k]? = some x) : w.cell? ⟨g, k, none⟩ = some (.string (strB x)) := by
  have h1 := World.ownsRow.cells h rfl k (wordV x) (by rw [List.getElem?_map, hx]; rfl)
  have e : (⟨g, 0, none⟩ : Addr).add k = ⟨g, k, none⟩ := by unfold Addr.add; split <;> simp_all
  rw [e] at h1
  exact h1
theorem OwnW.one (w : World) : OwnW (w.alloc (.cells #[.string ⟨#[]⟩] 9)) w.heap.size (.slice (some ⟨w.heap.size, 0, none⟩) 1 1) 1 [[]] :=
  ⟨rfl, .inr ⟨w.heap.size, 1, _, rfl, Nat.le_refl _, heap_alloc_new w _, Nat.le_refl _, by unfold maxLen; omega, rfl, rfl⟩⟩
theorem OwnW.last {w : World} {base n g c : Nat} {q : List (List UInt8)} {x y : List UInt8} (h : OwnW w base (.slice (some ⟨g, 0, none⟩) n c) n (q ++ [x])) {k : Nat} (hk : k = q.length) : OwnW (w.setCell ⟨g, k, none⟩ (.string (strB y))) base (.slice (some ⟨g, 0, none⟩) n c) n (q ++ [y]) := by
  subst hk
  have h1 := own_set (k := q.length) h (.string (strB y))
  have e : ((q ++ [x]).map wordV).set q.length (.string (strB y)) = (q ++ [y]).map wordV := by
    rw [List.map_append, List.map_append]
    simp [wordV]
  rw [e] at h1
  exact h1
theorem words_take {l : List UInt8} {k : Nat} {c : UInt8} {q : List (List UInt8)} {x : List UInt8} (h : splitW (l.take k) = q ++ [x]) (hc : l[k]? = some c) : splitW (l.take (k + 1)) = if c = 32 then (q ++ [x]) ++ [[]] else q ++ [x ++ [c]] := by
  rw [List.take_succ_of hc]
  by_cases hb : c = 32
  · subst hb; rw [if_pos rfl, splitW_blank, h]
  · rw [if_neg hb]; exact splitW_more _ _ hb _ _ h
def WordsM (l : List UInt8) (w : World) (e : Ending) (w' : World) : Prop :=
  ∃ g c, e = .returned (.slice (some ⟨g, 0, none⟩) (splitW l).length c) ∧ OwnW w' w.heap.size (.slice (some ⟨g, 0, none⟩) (splitW l).length c) (splitW l).length (splitW l) ∧ Below w.heap.size w w'

theorem infoW : (Tryz.prog.info? 9).map (fun i => (i.zero, i.size, i.bytes)) = some (some (.string ⟨#[]⟩), 1, 16) := by kernel_rfl
set_option maxRecDepth 100000 in
set_option maxHeartbeats 4000000 in
theorem mnum_any (l : List UInt8) (hl : l.length ≤ 65536) (w : World) : Calls Tryz.prog 57 #[.string (strB l)] w (NumM l w) := by
  obtain ⟨N, hN⟩ : ∃ N, l.length = N := ⟨_, rfl⟩
  have hsz : (strB l).size = N := by rw [strB_size]; exact hN
  have HN := keepHid hN
  have H0 : Hid (NumAt l 0 0) := keepHid (NumAt.zero l)
  have HB0 := keepHid (Below.refl w.heap.size w)
  rw [hN] at hl
  clear hN
  go_enter Tryz.func57, Tryz.ntmps57
  go_wp2_with fail
  go_loopw [4, 5] (fun vn vk wx => ∃ (n k : Nat), vn = .int .i64 (n : Int) ∧ vk = .int .i64 (k : Int) ∧ Hid (NumAt l k n) ∧ Hid (Below w.heap.size w wx)) (fun _ vk _ => N - (intOf vk).toNat)
  case atStart => exact ⟨0, 0, rfl, rfl, H0, HB0⟩
  case round =>
    clear H0 HB0
    obtain ⟨n, k, rfl, rfl, HA, HB⟩ := hrel
    have hk8 := HA.out.k8
    have hkl := HA.out.len
    rw [HN.out] at hkl
    have hn32 := HA.out.small
    by_cases hkN : k < N
    · have hkI : (k : Int) < (N : Int) := by omega
      obtain ⟨c, hc⟩ : ∃ c, l[k]? = some c := ⟨_, List.getElem?_eq_getElem (by rw [HN.out]; exact hkN)⟩
      have hix := run_idx hc (k : Int) rfl
      have HV0 : Hid ((-1 : Int) = vI c 0) := keepHid (vI_zero c).symm
      have HC := keepHid hc
      generalize hSL : strB l = SL at *
      clear hc hSL
      go_wp2_with fail
      go_loopw [6, 7] (fun vv vi wx => ∃ (i : Nat), i ≤ 16 ∧ vi = .int .i64 (i : Int) ∧ vv = .int .i64 (vI c i) ∧ Hid (Below w.heap.size w wx)) (fun _ vi _ => 16 - (intOf vi).toNat)
      case atStart => exact ⟨0, Nat.zero_le _, rfl, by rw [← HV0.out], HB⟩
      case round =>
        clear HV0 HB
        obtain ⟨i, hi, rfl, rfl, HB⟩ := hrel
        by_cases hi16 : i < 16
        · have hiI : (i : Int) < 16 := by omega
          have hxi : ∀ w, (Instr.index 9 (.string ⟨#[48, 49, 50, 51, 52, 53, 54, 55, 56, 57, 97, 98, 99, 100, 101, 102]⟩) (.int .i64 (i : Int))).run Tryz.prog w = .ok (.int .u8 ((chr i).toNat : Int)) w := fun w => run_idx (hexC_get hi16) (i : Int) rfl w
          by_cases he : chr i = c
          · have HV : Hid (vI c (i + 1) = (i : Int)) := keepHid (vI_hit hi16 he)
            rw [he] at hxi
            generalize (c.toNat : Int) = cv at *
            generalize vI c i = vi at *
            clear he
            go_wp2_with fail
            go_quiet (fail)
            rename_i nq
            generalize hwq : wr.drewN nq = wq at *
            have hbq : Below wr.heap.size wr wq := by rw [← hwq]; exact below_drewN (Below.refl _ _) _
            have HBQ := keepHid (HB.out.trans (hbq.mono HB.out.size))
            clear hwq hbq
            go_wp2
            go_roundw
            case rel => exact ⟨i + 1, by omega, by go_num, by rw [HV.out], HBQ⟩
            case measure => simp [intOf]; omega
          · have hq : (((chr i).toNat : Int) == (c.toNat : Int)) = false := by simpa using u8_ne (c := chr i) (d := c) he
            have hq2 : ¬ ((chr i).toNat : Int) = (c.toNat : Int) := by simpa using hq
            have HV : Hid (vI c (i + 1) = vI c i) := keepHid (vI_miss he)
            generalize (c.toNat : Int) = cv at *
            generalize ((chr i).toNat : Int) = ev at *
            generalize hvi : vI c i = vi at *
            have HVI := keepHid hvi
            clear he hvi
            go_wp2_with fail
            go_quiet (fail)
            rename_i nq
            generalize hwq : wr.drewN nq = wq at *
            have hbq : Below wr.heap.size wr wq := by rw [← hwq]; exact below_drewN (Below.refl _ _) _
            have HBQ := keepHid (HB.out.trans (hbq.mono HB.out.size))
            clear hwq hbq
            go_wp2
            go_roundw
            case rel => exact ⟨i + 1, by omega, by go_num, by rw [HV.out], HBQ⟩
            case measure => simp [intOf]; omega
        · obtain rfl : i = 16 := by omega
          rcases vI_end c with ⟨hv, hcc⟩ | ⟨hv, hcc, hd⟩
          · rw [hv]
            have HP : Hid (NumM l w (.returned (.tuple #[.int .i64 0, .bool false])) wr) := keepHid ⟨0, false, rfl, by omega, fun h => (by cases h), fun _ => hexN_bad HC.out hcc, HB.out⟩
            clear hv hcc
            go_wp2
            go_ret2
            exact HP.out
          · rw [hv]
            have hd0 : ¬ (dgt c : Int) < 0 := by omega
            by_cases h8 : k = 8
            · have HP : Hid (NumM l w (.returned (.tuple #[.int .i64 0, .bool false])) wr) := keepHid ⟨0, false, rfl, by omega, fun h => (by cases h), fun _ => hexN_long (by rw [HN.out]; omega), HB.out⟩
              subst h8
              rw [show ((8 : Nat) : Int) = 8 from rfl]
              clear hv hcc
              go_wp2
              go_ret2
              exact HP.out
            · have h8I : ((k : Int) == 8) = false := by simp; omega
              have h8J : ¬ (k : Int) = 8 := by omega
              have HNX := keepHid (HA.out.next (by omega) HC.out hcc)
              have hsm : (n : Int) * 16 + (dgt c : Int) ≤ 100000000000 := by omega
              clear hv hcc
              go_wp2
              go_roundw
              case rel => exact ⟨n * 16 + dgt c, k + 1, by go_num, by go_num, HNX, HB⟩
              case measure => simp [intOf]; omega
    · obtain rfl : k = N := by omega
      have hA := HA.out
      have hend : hexN l = if digL 16 n = l then some n else none := by
        have : NumAt l l.length n := by rw [HN.out]; exact hA
        exact this.end_
      have hHX := hex_any n (by omega)
      have hqe : ((strB (digL 16 n)).toList == (strB l).toList) = decide (digL 16 n = l) := str_eqB _ _
      have HP : Hid (∀ wx, Below wr.heap.size wr wx → ∀ b, b = decide (digL 16 n = l) → NumM l w (.returned (.tuple #[.int .i64 (n : Int), .bool b])) wx) := keepHid (fun wx hx b hb => ⟨n, b, rfl, hn32, fun h => by
          rw [hb] at h
          rw [hend, if_pos (of_decide_eq_true h)], fun h => by
          rw [hb] at h
          rw [hend, if_neg (of_decide_eq_false h)], HB.out.trans (hx.mono HB.out.size)⟩)
      by_cases h0 : k = 0
      · subst h0
        have hl0 : l = [] := List.eq_nil_of_length_eq_zero HN.out
        have HD : Hid (false = decide (digL 16 n = l)) := keepHid (by rw [hl0, decide_eq_false (digL_ne _ _)])
        generalize strB l = SL at *
        rw [show ((0 : Nat) : Int) = 0 from rfl] at *
        clear hA hend hHX hqe hl0
        go_wp2
        go_ret2
        exact HP.out _ (Below.refl _ _) _ HD.out
      · have hpos : (0 : Int) < (k : Int) := by omega
        generalize decide (digL 16 n = l) = bb at *
        generalize strB l = SL at *
        generalize strB (digL 16 n) = SD at *
        have HHX := keepHid hHX
        clear hA hend hHX
        go_wp2_with fail
        with_reducible refine (HHX.out _).mono ?_
        rintro e w5 ⟨rfl, rfl⟩
        go_wp2
        go_ret2
        exact HP.out _ (Below.refl _ _) _ rfl
set_option maxRecDepth 100000 in
set_option maxHeartbeats 4000000 in
theorem mwords_any (l : List UInt8) (hl : l.length ≤ 80) (w : World) : Calls Tryz.prog 56 #[.string (strB l)] w (WordsM l w) := by
  obtain ⟨N, hN⟩ : ∃ N, l.length = N := ⟨_, rfl⟩
  have hsz : (strB l).size = N := by rw [strB_size]; exact hN
  have HN := keepHid hN
  obtain ⟨w1, hw1⟩ : ∃ w1, w.alloc (.cells #[.string ⟨#[]⟩] 9) = w1 := ⟨_, rfl⟩
  have HB1 : Hid (Below w.heap.size w w1) := keepHid (by rw [← hw1]; exact (Below.refl _ _).alloc (Nat.le_refl _) _)
  have HO1 : Hid (OwnW w1 w.heap.size (.slice (some ⟨w.heap.size, 0, none⟩) 1 1) 1 ([] ++ [[]])) := keepHid (by rw [← hw1]; exact OwnW.one w)
  rw [hN] at hl
  clear hN
  go_enter Tryz.func56, Tryz.ntmps56
  go_wp2_with fail
  go_loopw [3, 4] (fun vo vk wx => ∃ (k g c n : Nat) (q : List (List UInt8)) (x : List UInt8), vo = .slice (some ⟨g, 0, none⟩) n c ∧ vk = .int .i64 (k : Int) ∧ k ≤ N ∧ n ≤ k + 1 ∧ Hid (n = q.length + 1) ∧ (n : Int) ≤ (c : Int) ∧ Hid (splitW (l.take k) = q ++ [x]) ∧ Hid (OwnW wx w.heap.size (.slice (some ⟨g, 0, none⟩) n c) n (q ++ [x])) ∧ Hid (Below w.heap.size w wx)) (fun _ vk _ => N - (intOf vk).toNat)
  case atStart => exact ⟨0, w.heap.size, 1, 1, [], [], rfl, rfl, Nat.zero_le _, by omega, keepHid rfl, by omega, keepHid rfl, HO1, HB1⟩
  case round =>
    clear HO1 HB1 hw1
    obtain ⟨k, g, cc, n, q, x, rfl, rfl, hk, hnk, HNQ, hncI, HSP, HO, HB⟩ := hrel
    by_cases hkN : k < N
    · have hkI : (k : Int) < (N : Int) := by omega
      obtain ⟨c, hc⟩ : ∃ c, l[k]? = some c := ⟨_, List.getElem?_eq_getElem (by rw [HN.out]; exact hkN)⟩
      have hix := run_idx hc (k : Int) rfl
      have hcut := run_cut1 hc (k : Int) ((k : Int) + 1) rfl rfl
      have hnx := words_take HSP.out hc
      by_cases h32 : c = 32
      · subst h32
        rw [if_pos rfl] at hnx
        have HNX := keepHid hnx
        rw [show (((32 : UInt8).toNat : Nat) : Int) = 32 from rfl] at hix
        obtain ⟨w2, hw2⟩ : ∃ w2, wr.alloc (.cells #[.string ⟨#[]⟩] 9) = w2 := ⟨_, rfl⟩
        have hb2 : Below wr.heap.size wr w2 := by rw [← hw2]; exact (Below.refl _ _).alloc (Nat.le_refl _) _
        have HC2 : Hid (w2.cell? ⟨wr.heap.size, 0, none⟩ = some (wordV [])) := keepHid (by rw [← hw2]; exact (Blk.new wr 9 #[.string ⟨#[]⟩]).cell 0)
        have HO2 : Hid (OwnW w2 w.heap.size (.slice (some ⟨g, 0, none⟩) n cc) n (q ++ [x])) := keepHid (own_keep HO.out fun i hi hlt => hb2.block i hlt)
        have HB2 := keepHid (HB.out.trans (hb2.mono HB.out.size))
        generalize strB l = SL at *
        clear hnx hc hb2
        go_wp2_with (at_builtin; refine wpList_append_cell Tryz.underlying51 infoW rfl (by omega) w2 rfl _ _ rfl w.heap.size (.slice (some ⟨g, 0, none⟩) n cc) n ((q ++ [x]).map wordV) (by rfl) HO2.out wr.heap.size (by rfl) (wordV []) HC2.out rfl (by omega) HB2.out.size ?_)
        intro P cap w3 ho3 hg3 hv3
        obtain ⟨G3, rfl⟩ : ∃ G3, P = some ⟨G3, 0, none⟩ := by
          rcases ho3.2 with ⟨e0, _⟩ | ⟨g', cap', cur, e0, _⟩
          · cases e0
          · injection e0 with e1; exact ⟨g', e1⟩
        have hnc3 : n + 1 ≤ cap := by
          rcases ho3.2 with ⟨e0, _⟩ | ⟨g', cap', cur, e0, _, _, h1, _⟩
          · cases e0
          · injection e0 with e1 e2 e3; omega
        have hnc3I : ((n : Int) + 1) ≤ (cap : Int) := by omega
        have HO3 : Hid (OwnW w3 w.heap.size (.slice (some ⟨G3, 0, none⟩) (n + 1) cap) (n + 1) ((q ++ [x]) ++ [[]])) := keepHid (by
          have e : ((q ++ [x]) ++ [[]]).map wordV = List.map wordV q ++ [wordV x, wordV []] := by simp
          unfold OwnW
          rw [e]
          exact ho3)
        have HB3 : Hid (Below w.heap.size w w3) := keepHid (HB2.out.trans (below_grown hg3 (fun i hi => (World.ownsRow.lt HO2.out i hi).1) HB2.out.size))
        clear ho3 hg3 hv3 HO2 HC2 hw2
        go_wp2
        go_roundw
        case rel => exact ⟨k + 1, G3, cap, n + 1, q ++ [x], [], rfl, by go_num, by omega, by omega, keepHid (by have := HNQ.out; simp; omega), by go_num, HNX, HO3, HB3⟩
        case measure => simp [intOf]; omega
      · rw [if_neg h32] at hnx
        have hq : ((c.toNat : Int) == 32) = false := by simpa using u8_ne (c := c) (d := 32) h32
        have hq2 : ¬ (c.toNat : Int) = 32 := by simpa using hq
        have HNX := keepHid hnx
        obtain ⟨m, rfl⟩ : ∃ m, n = m + 1 := ⟨q.length, HNQ.out⟩
        have HMQ : Hid (m = q.length) := keepHid (by have := HNQ.out; omega)
        have hcl : wr.cell? ⟨g, m, none⟩ = some (.string (strB x)) := HO.out.cell (by rw [HMQ.out]; simp)
        have hfz : wr.frozen? ⟨g, m, none⟩ = false := World.ownsRow.frozenAt HO.out m
        have hxl : x.length ≤ 80 := by
          have h1 := (splitW_all (l.take k) x (by rw [HSP.out]; simp)).1
          rw [List.length_take] at h1
          omega
        have hadd : ∀ w, (Op.stringOp .add (strB x) (strB [c])).run Tryz.prog w = .ok (.string (strB (x ++ [c]))) w := fun w => run_strAdd _ _ (by simp only [List.length_cons, List.length_nil]; omega) w
        have HST : Hid (∀ wx, Below wr.heap.size wr wx → ∀ w3, wx.setCell ⟨g, m, none⟩ (.string (strB (x ++ [c]))) = w3 → OwnW w3 w.heap.size (.slice (some ⟨g, 0, none⟩) (m + 1) cc) (m + 1) (q ++ [x ++ [c]]) ∧ Below w.heap.size w w3) := keepHid (fun wx hx w3 h3 => by
          have ho : OwnW wx w.heap.size (.slice (some ⟨g, 0, none⟩) (m + 1) cc) (m + 1) (q ++ [x]) := own_keep HO.out fun i hi hlt => hx.block i hlt
          rw [← h3]
          exact ⟨ho.last HMQ.out, (HB.out.trans (hx.mono HB.out.size)).setCell (p := ⟨g, m, none⟩) (World.ownsRow.lt HO.out g rfl).1 _⟩)
        have hmi : IntKind.i64.wrap (((m + 1 : Nat) : Int) - 1) = (m : Int) := by rw [IntKind.wrap_i64]; omega
        have hm2 : (m : Int) < ((m : Int) + 1) := by omega
        generalize strB l = SL at *
        generalize hXC : strB (x ++ [c]) = XC at *
        generalize hX0 : strB x = X0 at *
        generalize hC1 : strB [c] = C1 at *
        generalize (c.toNat : Int) = cv at *
        clear hnx hc h32 hxl hX0 hC1
        go_upto_region 7 with fail
        go_region
        all_goals
          obtain ⟨w3, hw3⟩ : ∃ w3, wr.setCell ⟨g, m, none⟩ (.string XC) = w3 := ⟨_, rfl⟩
          obtain ⟨ho3, hb3⟩ := HST.out wr (Below.refl _ _) w3 hw3
          have HO3 : Hid (OwnW w3.drew w.heap.size (.slice (some ⟨g, 0, none⟩) (m + 1) cc) (m + 1) (q ++ [x ++ [c]])) := keepHid (own_keep ho3 (fun _ _ _ => rfl))
          have HB3 := keepHid hb3.drew
          clear ho3 hb3 HST hcl hfz
          try rw [hw3]
          clear hw3
          go_wp2
          go_roundw
          case rel => exact ⟨k + 1, g, cc, m + 1, q, x ++ [c], rfl, by go_num, by omega, by omega, keepHid (by have := HMQ.out; omega), hncI, HNX, HO3, HB3⟩
          case measure => simp [intOf]; omega
    · obtain rfl : k = N := by omega
      have hsp := HSP.out
      rw [show l.take k = l by rw [← HN.out]; exact List.take_length] at hsp
      have hlen : (splitW l).length = n := by have := HNQ.out; rw [hsp]; simp; omega
      have HP : Hid (WordsM l w (.returned (.slice (some ⟨g, 0, none⟩) n cc)) wr) := keepHid ⟨g, cc, by rw [hlen], by rw [hlen, hsp]; exact HO.out, HB.out⟩
      generalize strB l = SL at *
      clear hsp hlen
      go_wp2
      go_ret
      exact HP.out


def MFin (w0 : World) (G : Nat) (κ : Nat → Nat) (p : BP Fl) (z1 z2 : Int) (o : List UInt8) (s : Bd) (w : World) (e : Ending) (w' : World) : Prop :=
  e = .returned (.string (strB (o ++ (fin20 s).1))) ∧ MOut w0 G κ p z1 z2 (fin20 s).2 w w'
section
variable {w0 w : World} {G GS : Nat} {κ : Nat → Nat} {p : BP Fl} {z1 z2 : Int} {pv fv : Option Addr} {rv : Value} {s : Bd}
theorem mfin_struck {w2 w3 : World} (h : MdlM w0 w G κ p z1 z2 GS pv fv rv s) (hb : Below w.heap.size w w2) (h3 : (w2.setCell ⟨G, 6, none⟩ (.pointer none)).setCell ⟨G, 5, none⟩ (.pointer none) = w3) :
    MdlM w0 w3 G κ p z1 z2 GS none none rv { s with ld := .non } ∧ Turn (fun i => i = G) w2 w3 ∧ w3.heap.size = w2.heap.size := by
  have h2 := h.below hb
  have ht : Turn (fun i => i = G) w2 w3 := by rw [← h3]; exact turnAt _ _ (turnAt _ _ (Turn.refl _ w2))
  have hs : w3.heap.size = w2.heap.size := by rw [← h3]; simp
  exact ⟨h.struck hb ht hs (by rw [← h3]; exact (h2.blk.put 6 _).put 5 _), ht, hs⟩
theorem mfin_out {w2 w3 wx w4 : World} {st' : List UInt8} (h : MdlM w0 w G κ p z1 z2 GS pv fv rv s) (hb : Below w.heap.size w w2) (h3 : (w2.setCell ⟨G, 6, none⟩ (.pointer none)).setCell ⟨G, 5, none⟩ (.pointer none) = w3) (hx : Below w3.heap.size w3 wx)
    (ht : Turn (fun i => i = GS) wx w4) (hs : Sto w4 GS st') : MOut w0 G κ p z1 z2 { s with ld := .non, st := st' } w w4 := by
  obtain ⟨k1, k2, k3⟩ := mfin_struck h hb h3
  have k4 := (k1.below hx).wrote ht hs
  refine ⟨κ, ⟨_, _, _, _, k4⟩, ?_, fun i hi => .inl hi⟩
  exact (((Turn.of_below hb).trans (h.turnG k2)).trans (Turn.of_below (hx.mono (Nat.le_refl _)))).trans (ht.mono fun i hi => by rw [hi, h.gs]; omega)
end


section
variable {w0 w : World} {G GS : Nat} {κ : Nat → Nat} {p : BP Fl} {z1 z2 : Int} {pv fv : Option Addr} {rv : Value} {s : Bd}
set_option maxRecDepth 100000 in
set_option maxHeartbeats 4000000 in
theorem mafter_one {GR : Nat} (h : MdlM w0 w G κ p z1 z2 GS (some ⟨GR, 0, none⟩) none rv s)
    (hdone : ∀ wx, Below w.heap.size w wx → Calls Tryz.prog 48 #[ptV GR] wx fun e w' => e = .returned (.tuple #[.bool s.ld.ov, errV s.ld.er]) ∧ w' = wx.drew)
    (hdata : ∀ wx, Below w.heap.size w wx → Calls Tryz.prog 49 #[ptV GR] wx (RetB wx s.ld.da)) (had : s.ad < 4294967296) (hda : s.ld.da.length ≤ 140737488355328) (o : List UInt8) (ho : o.length ≤ 1000) :
    Calls Tryz.prog 30 #[ptV G, .string (strB o)] w (MFin w0 G κ p z1 z2 o s w) := by
  have c5 : w.cell? ⟨G, 5, none⟩ = some (.pointer (some ⟨GR, 0, none⟩)) := h.blk.cell 5
  have c6 : w.cell? ⟨G, 6, none⟩ = some (.pointer none) := h.blk.cell 6
  have hf := h.blk.frozen
  have HD := keepHid (hdone w (Below.refl _ _))
  have HA := keepHid (hdata w.drew ((Below.refl _ _).drew))
  have H := keepHid h
  have ha1 : ∀ w, (Op.stringOp .add (strB o) ⟨#[13, 10, 61, 62, 32]⟩).run Tryz.prog w = .ok (.string (strB (o ++ readyL))) w := fun w => run_strAdd o readyL (by simp only [readyL, List.length_cons, List.length_nil]; omega) w
  have ha2 : ∀ w, (Op.stringOp .add (strB o) ⟨#[33, 13, 10, 61, 62, 32]⟩).run Tryz.prog w = .ok (.string (strB (o ++ 33 :: readyL))) w := fun w => run_strAdd o (33 :: readyL) (by simp only [readyL, List.length_cons, List.length_nil]; omega) w
  clear hdone hdata
  unfold ptV at HD HA ⊢
  cases hov : s.ld.ov with
  | false =>
    rw [hov] at HD
    have HP : Hid (∀ wx, Below w.heap.size w wx → MFin w0 G κ p z1 z2 o s w (.returned (.string (strB o))) wx) := keepHid (fun wx hx => by
      unfold MFin
      rw [fin_no hov]
      exact ⟨by rw [List.append_nil], MOut.same ⟨_, _, _, _, H.out⟩ hx⟩)
    generalize errV s.ld.er = ev at *
    generalize strB (o ++ readyL) = R1 at *
    generalize strB (o ++ 33 :: readyL) = R2 at *
    generalize strB o = RO at *
    clear h hov H
    go_enter Tryz.func30, Tryz.ntmps30
    go_wp2_with fail
    with_reducible refine HD.out.mono ?_
    rintro e w1 ⟨rfl, rfl⟩
    go_wp2_with fail
    with_reducible refine HA.out.mono ?_
    rintro e w2 ⟨A, c, rfl, hown, hnc, hcm, hb2⟩
    have HR := keepHid (HP.out w2 (((Below.refl _ _).drew).trans hb2))
    clear hown hnc hcm hb2 HP
    generalize s.ld.da.length = dn at *
    go_wp2
    go_ret
    exact HR.out
  | true =>
    rw [hov] at HD
    by_cases her : s.ld.er = 0
    · rw [her] at HD
      rw [errV_zero] at HD
      have HP : Hid (∀ b w2 w3 wx w4, (b = true ∧ s.ad + s.ld.da.length ≤ 16384 ∧ Turn (fun i => i = GS) wx w4 ∧ Sto w4 GS (splice s.st s.ad s.ld.da)) ∨ (b = false ∧ ¬ s.ad + s.ld.da.length ≤ 16384 ∧ wx = w4) → Below w.heap.size w w2 → (w2.setCell ⟨G, 6, none⟩ (.pointer none)).setCell ⟨G, 5, none⟩ (.pointer none) = w3 → Below w3.heap.size w3 wx → MFin w0 G κ p z1 z2 o s w (.returned (.string (if b = true then strB (o ++ readyL) else strB (o ++ 33 :: readyL)))) w4) := keepHid (fun b w2 w3 wx w4 q0 q1 q2 q3 => by
        obtain ⟨k1, k2, k3⟩ := mfin_struck H.out q1 q2
        unfold MFin
        rcases q0 with ⟨rfl, hfit, q4, q5⟩ | ⟨rfl, hfit, rfl⟩
        · rw [fin_yes hov her hfit]
          exact ⟨rfl, mfin_out H.out q1 q2 q3 q4 q5⟩
        · rw [fin_bad hov (fun hh => hfit hh.2)]
          exact ⟨rfl, mfin_out H.out q1 q2 q3 (Turn.refl _ _) (k1.below q3).sto⟩)
      obtain ⟨n, hn⟩ : ∃ n, s.ld.da.length = n := ⟨_, rfl⟩
      have HN := keepHid hn
      generalize hR1 : strB (o ++ readyL) = R1 at *
      generalize hR2 : strB (o ++ 33 :: readyL) = R2 at *
      generalize strB o = RO at *
      clear h hov her hR1 hR2
      go_enter Tryz.func30, Tryz.ntmps30
      go_wp2_with fail
      with_reducible refine HD.out.mono ?_
      rintro e w1 ⟨rfl, rfl⟩
      go_wp2_with fail
      with_reducible refine HA.out.mono ?_
      rintro e w2 ⟨A, c, rfl, hown, hnc, hcm, hb2⟩
      have hbb : Below w.heap.size w w2 := ((Below.refl _ _).drew).trans hb2
      have df : ∀ i, w2.frozen? ⟨G, i, none⟩ = false := (H.out.below hbb).blk.frozen
      have d5 : w2.cell? ⟨G, 5, none⟩ = some (.pointer (some ⟨GR, 0, none⟩)) := (H.out.below hbb).blk.cell 5
      have d6 : w2.cell? ⟨G, 6, none⟩ = some (.pointer none) := (H.out.below hbb).blk.cell 6
      obtain ⟨w3, hw3⟩ : ∃ w3, (w2.setCell ⟨G, 6, none⟩ (.pointer none)).setCell ⟨G, 5, none⟩ (.pointer none) = w3 := ⟨_, rfl⟩
      obtain ⟨k1, k2, k3⟩ := mfin_struck H.out hbb hw3
      have hGne : ∀ ad, A = some ad → ¬ ad.block = G := fun ad e hh => by
        have := World.ownsRow.lt hown ad.block (by rw [e]; rfl)
        have := H.out.blk.lt
        simp at *
        omega
      have hy : Bys w3 w3.heap.size A n s.ld.da := by
        rw [← HN.out]
        have := (hown.bys (by rw [HN.out]; omega)).turn k2 (Nat.le_refl _) (fun _ => hGne)
        rw [k3]; exact this
      have HWR : Hid (∀ wx, Below w3.heap.size w3 wx → Calls Tryz.prog 22 #[.pointer (some ⟨GS, 0, none⟩), .int .i64 (s.ad : Int), .slice A s.ld.da.length c] wx fun e w' => ∃ b : Bool, e = .returned (.bool b) ∧ MFin w0 G κ p z1 z2 o s w (.returned (.string (if b = true then R1 else R2))) w') := keepHid (fun wx hx => by
        rw [HN.out]
        by_cases hfit : s.ad + s.ld.da.length ≤ 16384
        · exact (swrite_z GS s.st s.ad _ rfl A n c _ s.ld.da wx ((k1.below hx).sto) (hy.below hx) (by rw [← HN.out]; exact hfit)).mono fun e w' hh => ⟨true, hh.1, HP.out true w2 w3 wx w' (.inl ⟨rfl, hfit, hh.2.2, hh.2.1⟩) hbb hw3 hx⟩
        · exact (swrite_no _ (s.ad : Int) A n c wx (by omega) (by omega) (.inr (by rw [HN.out] at hfit; omega))).mono fun e w' hh => ⟨false, hh.1, HP.out false w2 w3 wx w' (.inr ⟨rfl, hfit, hh.2⟩) hbb hw3 hx⟩)
      have e0 : w3.cell? ⟨G, 0, none⟩ = some (.pointer (some ⟨GS, 0, none⟩)) := k1.blk.cell 0
      have e7 : w3.cell? ⟨G, 7, none⟩ = some (.int .i64 (s.ad : Int)) := k1.blk.cell 7
      clear hown hb2 k1 k2 hy hGne hnc hcm
      rw [hn] at HWR ⊢
      clear hn
      go_upto_region 11 with fail
      try rw [hw3]
      clear hw3 d5 d6 df c5 c6 hf hbb k3
      go_still_tail 12, (by kernel_rfl)
      change wpList _ _ _ _ _ w3.drew
      have HWW := keepHid (HWR.out _ ((Below.refl _ _).drew))
      generalize w3.drew = w3d at *
      clear HWR e0 e7
      go_wp2_with fail
      with_reducible refine HWW.out.mono ?_
      rintro e w5 ⟨b5, rfl, hp5⟩
      have HP5 := keepHid hp5
      clear hp5 HWW
      cases b5
      all_goals
        go_wp2
        go_ret
        exact HP5.out
    · have HP : Hid (∀ w2 w3 wx, Below w.heap.size w w2 → (w2.setCell ⟨G, 6, none⟩ (.pointer none)).setCell ⟨G, 5, none⟩ (.pointer none) = w3 → Below w3.heap.size w3 wx → MFin w0 G κ p z1 z2 o s w (.returned (.string (strB (o ++ 33 :: readyL)))) wx) := keepHid (fun w2 w3 wx q1 q2 q3 => by
        obtain ⟨k1, k2, k3⟩ := mfin_struck H.out q1 q2
        unfold MFin
        rw [fin_bad hov (fun hh => her hh.1)]
        exact ⟨rfl, mfin_out H.out q1 q2 q3 (Turn.refl _ _) (k1.below q3).sto⟩)
      obtain ⟨ev, hev⟩ := errV_ne her
      rw [hev] at HD
      generalize strB (o ++ readyL) = R1 at *
      generalize strB (o ++ 33 :: readyL) = R2 at *
      generalize strB o = RO at *
      clear h hov her hev
      go_enter Tryz.func30, Tryz.ntmps30
      go_wp2_with fail
      with_reducible refine HD.out.mono ?_
      rintro e w1 ⟨rfl, rfl⟩
      go_wp2_with fail
      with_reducible refine HA.out.mono ?_
      rintro e w2 ⟨A, c, rfl, hown, hnc, hcm, hb2⟩
      have hbb : Below w.heap.size w w2 := ((Below.refl _ _).drew).trans hb2
      have df : ∀ i, w2.frozen? ⟨G, i, none⟩ = false := (H.out.below hbb).blk.frozen
      have d5 : w2.cell? ⟨G, 5, none⟩ = some (.pointer (some ⟨GR, 0, none⟩)) := (H.out.below hbb).blk.cell 5
      have d6 : w2.cell? ⟨G, 6, none⟩ = some (.pointer none) := (H.out.below hbb).blk.cell 6
      obtain ⟨w3, hw3⟩ : ∃ w3, (w2.setCell ⟨G, 6, none⟩ (.pointer none)).setCell ⟨G, 5, none⟩ (.pointer none) = w3 := ⟨_, rfl⟩
      have HQ := keepHid (fun wx => HP.out w2 w3 wx hbb hw3)
      generalize s.ld.da.length = dn at *
      clear hown hb2 hnc hcm hbb
      go_upto_region 11 with fail
      try rw [hw3]
      clear hw3 d5 d6 df c5 c6 hf
      go_quiet (fail)
      rename_i nq
      generalize hwq : w3.drewN nq = wq
      have hbq : Below w3.heap.size w3 wq := by rw [← hwq]; exact below_drewN (Below.refl _ _) _
      have HR := keepHid (HQ.out _ hbq)
      clear hbq hwq
      go_wp2
      go_ret
      exact HR.out
end


section
variable {w0 w : World} {G GS : Nat} {κ : Nat → Nat} {p : BP Fl} {z1 z2 : Int} {pv fv : Option Addr} {rv : Value} {s : Bd}
set_option maxRecDepth 100000 in
set_option maxHeartbeats 4000000 in
theorem mafter_files {GR : Nat} (h : MdlM w0 w G κ p z1 z2 GS none (some ⟨GR, 0, none⟩) rv s)
    (hdone : ∀ wx, Below w.heap.size w wx → Calls Tryz.prog 46 #[ptV GR] wx fun e w' => e = .returned (.tuple #[.bool s.ld.ov, errV s.ld.er]) ∧ w' = wx.drew)
    (hdata : ∀ wx, Below w.heap.size w wx → Calls Tryz.prog 47 #[ptV GR] wx (RetB wx s.ld.da)) (had : s.ad < 4294967296) (hda : s.ld.da.length ≤ 140737488355328) (o : List UInt8) (ho : o.length ≤ 1000) :
    Calls Tryz.prog 30 #[ptV G, .string (strB o)] w (MFin w0 G κ p z1 z2 o s w) := by
  have c5 : w.cell? ⟨G, 5, none⟩ = some (.pointer none) := h.blk.cell 5
  have c6 : w.cell? ⟨G, 6, none⟩ = some (.pointer (some ⟨GR, 0, none⟩)) := h.blk.cell 6
  have hf := h.blk.frozen
  have HD := keepHid (hdone w (Below.refl _ _))
  have HA := keepHid (hdata w.drew ((Below.refl _ _).drew))
  have H := keepHid h
  have ha1 : ∀ w, (Op.stringOp .add (strB o) ⟨#[13, 10, 61, 62, 32]⟩).run Tryz.prog w = .ok (.string (strB (o ++ readyL))) w := fun w => run_strAdd o readyL (by simp only [readyL, List.length_cons, List.length_nil]; omega) w
  have ha2 : ∀ w, (Op.stringOp .add (strB o) ⟨#[33, 13, 10, 61, 62, 32]⟩).run Tryz.prog w = .ok (.string (strB (o ++ 33 :: readyL))) w := fun w => run_strAdd o (33 :: readyL) (by simp only [readyL, List.length_cons, List.length_nil]; omega) w
  clear hdone hdata
  unfold ptV at HD HA ⊢
  cases hov : s.ld.ov with
  | false =>
    rw [hov] at HD
    have HP : Hid (∀ wx, Below w.heap.size w wx → MFin w0 G κ p z1 z2 o s w (.returned (.string (strB o))) wx) := keepHid (fun wx hx => by
      unfold MFin
      rw [fin_no hov]
      exact ⟨by rw [List.append_nil], MOut.same ⟨_, _, _, _, H.out⟩ hx⟩)
    generalize errV s.ld.er = ev at *
    generalize strB (o ++ readyL) = R1 at *
    generalize strB (o ++ 33 :: readyL) = R2 at *
    generalize strB o = RO at *
    clear h hov H
    go_enter Tryz.func30, Tryz.ntmps30
    go_wp2_with fail
    with_reducible refine HD.out.mono ?_
    rintro e w1 ⟨rfl, rfl⟩
    go_wp2_with fail
    with_reducible refine HA.out.mono ?_
    rintro e w2 ⟨A, c, rfl, hown, hnc, hcm, hb2⟩
    have HR := keepHid (HP.out w2 (((Below.refl _ _).drew).trans hb2))
    clear hown hnc hcm hb2 HP
    generalize s.ld.da.length = dn at *
    go_wp2
    go_ret
    exact HR.out
  | true =>
    rw [hov] at HD
    by_cases her : s.ld.er = 0
    · rw [her] at HD
      rw [errV_zero] at HD
      have HP : Hid (∀ b w2 w3 wx w4, (b = true ∧ s.ad + s.ld.da.length ≤ 16384 ∧ Turn (fun i => i = GS) wx w4 ∧ Sto w4 GS (splice s.st s.ad s.ld.da)) ∨ (b = false ∧ ¬ s.ad + s.ld.da.length ≤ 16384 ∧ wx = w4) → Below w.heap.size w w2 → (w2.setCell ⟨G, 6, none⟩ (.pointer none)).setCell ⟨G, 5, none⟩ (.pointer none) = w3 → Below w3.heap.size w3 wx → MFin w0 G κ p z1 z2 o s w (.returned (.string (if b = true then strB (o ++ readyL) else strB (o ++ 33 :: readyL)))) w4) := keepHid (fun b w2 w3 wx w4 q0 q1 q2 q3 => by
        obtain ⟨k1, k2, k3⟩ := mfin_struck H.out q1 q2
        unfold MFin
        rcases q0 with ⟨rfl, hfit, q4, q5⟩ | ⟨rfl, hfit, rfl⟩
        · rw [fin_yes hov her hfit]
          exact ⟨rfl, mfin_out H.out q1 q2 q3 q4 q5⟩
        · rw [fin_bad hov (fun hh => hfit hh.2)]
          exact ⟨rfl, mfin_out H.out q1 q2 q3 (Turn.refl _ _) (k1.below q3).sto⟩)
      obtain ⟨n, hn⟩ : ∃ n, s.ld.da.length = n := ⟨_, rfl⟩
      have HN := keepHid hn
      generalize hR1 : strB (o ++ readyL) = R1 at *
      generalize hR2 : strB (o ++ 33 :: readyL) = R2 at *
      generalize strB o = RO at *
      clear h hov her hR1 hR2
      go_enter Tryz.func30, Tryz.ntmps30
      go_wp2_with fail
      with_reducible refine HD.out.mono ?_
      rintro e w1 ⟨rfl, rfl⟩
      go_wp2_with fail
      with_reducible refine HA.out.mono ?_
      rintro e w2 ⟨A, c, rfl, hown, hnc, hcm, hb2⟩
      have hbb : Below w.heap.size w w2 := ((Below.refl _ _).drew).trans hb2
      have df : ∀ i, w2.frozen? ⟨G, i, none⟩ = false := (H.out.below hbb).blk.frozen
      have d5 : w2.cell? ⟨G, 5, none⟩ = some (.pointer none) := (H.out.below hbb).blk.cell 5
      have d6 : w2.cell? ⟨G, 6, none⟩ = some (.pointer (some ⟨GR, 0, none⟩)) := (H.out.below hbb).blk.cell 6
      obtain ⟨w3, hw3⟩ : ∃ w3, (w2.setCell ⟨G, 6, none⟩ (.pointer none)).setCell ⟨G, 5, none⟩ (.pointer none) = w3 := ⟨_, rfl⟩
      obtain ⟨k1, k2, k3⟩ := mfin_struck H.out hbb hw3
      have hGne : ∀ ad, A = some ad → ¬ ad.block = G := fun ad e hh => by
        have := World.ownsRow.lt hown ad.block (by rw [e]; rfl)
        have := H.out.blk.lt
        simp at *
        omega
      have hy : Bys w3 w3.heap.size A n s.ld.da := by
        rw [← HN.out]
        have := (hown.bys (by rw [HN.out]; omega)).turn k2 (Nat.le_refl _) (fun _ => hGne)
        rw [k3]; exact this
      have HWR : Hid (∀ wx, Below w3.heap.size w3 wx → Calls Tryz.prog 22 #[.pointer (some ⟨GS, 0, none⟩), .int .i64 (s.ad : Int), .slice A s.ld.da.length c] wx fun e w' => ∃ b : Bool, e = .returned (.bool b) ∧ MFin w0 G κ p z1 z2 o s w (.returned (.string (if b = true then R1 else R2))) w') := keepHid (fun wx hx => by
        rw [HN.out]
        by_cases hfit : s.ad + s.ld.da.length ≤ 16384
        · exact (swrite_z GS s.st s.ad _ rfl A n c _ s.ld.da wx ((k1.below hx).sto) (hy.below hx) (by rw [← HN.out]; exact hfit)).mono fun e w' hh => ⟨true, hh.1, HP.out true w2 w3 wx w' (.inl ⟨rfl, hfit, hh.2.2, hh.2.1⟩) hbb hw3 hx⟩
        · exact (swrite_no _ (s.ad : Int) A n c wx (by omega) (by omega) (.inr (by rw [HN.out] at hfit; omega))).mono fun e w' hh => ⟨false, hh.1, HP.out false w2 w3 wx w' (.inr ⟨rfl, hfit, hh.2⟩) hbb hw3 hx⟩)
      have e0 : w3.cell? ⟨G, 0, none⟩ = some (.pointer (some ⟨GS, 0, none⟩)) := k1.blk.cell 0
      have e7 : w3.cell? ⟨G, 7, none⟩ = some (.int .i64 (s.ad : Int)) := k1.blk.cell 7
      clear hown hb2 k1 k2 hy hGne hnc hcm
      rw [hn] at HWR ⊢
      clear hn
      go_upto_region 11 with fail
      try rw [hw3]
      clear hw3 d5 d6 df c5 c6 hf hbb k3
      go_still_tail 12, (by kernel_rfl)
      change wpList _ _ _ _ _ w3.drew
      have HWW := keepHid (HWR.out _ ((Below.refl _ _).drew))
      generalize w3.drew = w3d at *
      clear HWR e0 e7
      go_wp2_with fail
      with_reducible refine HWW.out.mono ?_
      rintro e w5 ⟨b5, rfl, hp5⟩
      have HP5 := keepHid hp5
      clear hp5 HWW
      cases b5
      all_goals
        go_wp2
        go_ret
        exact HP5.out
    · have HP : Hid (∀ w2 w3 wx, Below w.heap.size w w2 → (w2.setCell ⟨G, 6, none⟩ (.pointer none)).setCell ⟨G, 5, none⟩ (.pointer none) = w3 → Below w3.heap.size w3 wx → MFin w0 G κ p z1 z2 o s w (.returned (.string (strB (o ++ 33 :: readyL)))) wx) := keepHid (fun w2 w3 wx q1 q2 q3 => by
        obtain ⟨k1, k2, k3⟩ := mfin_struck H.out q1 q2
        unfold MFin
        rw [fin_bad hov (fun hh => her hh.1)]
        exact ⟨rfl, mfin_out H.out q1 q2 q3 (Turn.refl _ _) (k1.below q3).sto⟩)
      obtain ⟨ev, hev⟩ := errV_ne her
      rw [hev] at HD
      generalize strB (o ++ readyL) = R1 at *
      generalize strB (o ++ 33 :: readyL) = R2 at *
      generalize strB o = RO at *
      clear h hov her hev
      go_enter Tryz.func30, Tryz.ntmps30
      go_wp2_with fail
      with_reducible refine HD.out.mono ?_
      rintro e w1 ⟨rfl, rfl⟩
      go_wp2_with fail
      with_reducible refine HA.out.mono ?_
      rintro e w2 ⟨A, c, rfl, hown, hnc, hcm, hb2⟩
      have hbb : Below w.heap.size w w2 := ((Below.refl _ _).drew).trans hb2
      have df : ∀ i, w2.frozen? ⟨G, i, none⟩ = false := (H.out.below hbb).blk.frozen
      have d5 : w2.cell? ⟨G, 5, none⟩ = some (.pointer none) := (H.out.below hbb).blk.cell 5
      have d6 : w2.cell? ⟨G, 6, none⟩ = some (.pointer (some ⟨GR, 0, none⟩)) := (H.out.below hbb).blk.cell 6
      obtain ⟨w3, hw3⟩ : ∃ w3, (w2.setCell ⟨G, 6, none⟩ (.pointer none)).setCell ⟨G, 5, none⟩ (.pointer none) = w3 := ⟨_, rfl⟩
      have HQ := keepHid (fun wx => HP.out w2 w3 wx hbb hw3)
      generalize s.ld.da.length = dn at *
      clear hown hb2 hnc hcm hbb
      go_upto_region 11 with fail
      try rw [hw3]
      clear hw3 d5 d6 df c5 c6 hf
      go_quiet (fail)
      rename_i nq
      generalize hwq : w3.drewN nq = wq
      have hbq : Below w3.heap.size w3 wq := by rw [← hwq]; exact below_drewN (Below.refl _ _) _
      have HR := keepHid (HQ.out _ hbq)
      clear hbq hwq
      go_wp2
      go_ret
      exact HR.out
end


section
variable {w0 w : World} {G GS : Nat} {κ : Nat → Nat} {p : BP Fl} {z1 z2 : Int} {pv fv : Option Addr} {rv : Value} {s : Bd}
/-- The end of a load, whatever receives it. -/
theorem mafter_any (h : MdlM w0 w G κ p z1 z2 GS pv fv rv s) (hl : s.ld ≠ .non) (had : s.ad < 4294967296) (hf : ∃ C B, s.ld.few C B ∧ C ≤ 600000) (o : List UInt8) (ho : o.length ≤ 1000) :
    Calls Tryz.prog 30 #[ptV G, .string (strB o)] w (MFin w0 G κ p z1 z2 o s w) := by
  obtain ⟨C, B', hf, hC⟩ := hf
  have hlod := h.lod
  cases hs : s.ld with
  | non => exact absurd hs hl
  | one crc r =>
    rw [hs] at hlod
    obtain ⟨rfl, GR, rfl, O, B, hB, hR, hO⟩ := hlod
    have hda : s.ld.da.length ≤ 140737488355328 := by
      rw [hs] at hf ⊢
      have := hf.1
      show r.da.length ≤ _
      omega
    exact mafter_one h (fun wx hx => by rw [hs]; exact done_rcv (hR.below hx)) (fun wx hx => by rw [hs] at hda ⊢; exact data_rcv (hR.below hx) hda) had hda o ho
  | files b =>
    rw [hs] at hlod
    obtain ⟨rfl, GR, rfl, O, B, hB, hR, hO⟩ := hlod
    have hda : s.ld.da.length ≤ 140737488355328 := by
      rw [hs]
      have := hR.da
      show b.da.length ≤ _
      omega
    exact mafter_files h (fun wx hx => by rw [hs]; exact brdone_any (hR.below hx)) (fun wx hx => by rw [hs]; exact brdata_any (hR.below hx)) had hda o ho
theorem tick_isnon {l : Lod} (h : l ≠ .non) : (l.tick p).2 ≠ .non := by
  cases l with
  | non => exact absurd rfl h
  | one crc r => intro e; cases e
  | files b => intro e; cases e
theorem put_isnon {l : Lod} (x : List UInt8) (h : l ≠ .non) : (l.put p x).2 ≠ .non := by
  cases l with
  | non => exact absurd rfl h
  | one crc r => intro e; cases e
  | files b => intro e; cases e
def MTick (w0 : World) (G : Nat) (κ : Nat → Nat) (p : BP Fl) (z1 z2 : Int) (s : Bd) (w : World) (e : Ending) (w' : World) : Prop :=
  e = .returned (.string (strB (tick20 p s).1)) ∧ MOut w0 G κ p z1 z2 (tick20 p s).2 w w'
set_option maxRecDepth 100000 in
theorem mtick_any (hp : Rdr p) (h : Mdl w0 w G κ p z1 z2 s) (hf : s.ld.fit) (had : s.ad < 4294967296) :
    Calls Tryz.prog 14 #[ptV G] w (MTick w0 G κ p z1 z2 s w) := by
  obtain ⟨GS, pv, fv, rv, h⟩ := h
  have c5 : w.cell? ⟨G, 5, none⟩ = some (.pointer pv) := h.blk.cell 5
  have c6 : w.cell? ⟨G, 6, none⟩ = some (.pointer fv) := h.blk.cell 6
  have hlod := h.lod
  have hfew : ∃ C B, (s.ld.tick p).2.few C B ∧ C ≤ 600000 := by
    obtain ⟨C, B, h1, h2, h3⟩ := hf
    exact ⟨C, B, Lod.few_tick p h1, by omega⟩
  have hol := Lod.tick_out p s.ld
  have HAF : Hid (s.ld ≠ .non → ∀ w1 κ1, MdlM w0 w1 G κ1 p z1 z2 GS pv fv rv { s with ld := (s.ld.tick p).2 } → Turn (fun i => κ i ≠ 0) w w1 → (∀ i, κ1 i ≠ 0 → κ i ≠ 0 ∨ w.heap.size ≤ i) → Calls Tryz.prog 30 #[ptV G, .string (strB (s.ld.tick p).1)] w1 (MTick w0 G κ p z1 z2 s w)) := keepHid (fun hn w1 κ1 k1 k2 k3 => by
    refine (mafter_any k1 (tick_isnon hn) had hfew (s.ld.tick p).1 (by omega)).mono ?_
    rintro e w' ⟨rfl, hm⟩
    exact ⟨rfl, hm.of k2 k3⟩)
  cases hs : s.ld with
  | non =>
    rw [hs] at hlod
    obtain ⟨rfl, rfl⟩ := hlod
    have HP : Hid (MTick w0 G κ p z1 z2 s w (.returned (.string ⟨#[]⟩)) w) := keepHid (by
      unfold MTick
      rw [tick_non hs]
      exact ⟨rfl, MOut.same ⟨_, _, _, _, h⟩ (Below.refl _ _)⟩)
    clear HAF h hs hol hfew hf
    unfold ptV
    go_enter Tryz.func14, Tryz.ntmps14
    go_wp2
    go_ret
    exact HP.out
  | one crc r =>
    rw [hs] at hlod
    obtain ⟨rfl, GR, rfl, _⟩ := hlod
    have HTK := keepHid (mone_tick h)
    have HA2 := keepHid (HAF.out (by rw [hs]; simp))
    obtain ⟨n, hn⟩ : ∃ n, (s.ld.tick p).1.length = n := ⟨_, rfl⟩
    have HN := keepHid hn
    clear HAF h hs hfew hf hn
    unfold ptV at *
    go_enter Tryz.func14, Tryz.ntmps14
    go_wp2_with fail
    with_reducible refine HTK.out.mono ?_
    rintro e w1 ⟨A, c, κ1, rfl, ho, hm, ht, hk⟩
    have hcv := run_str (P := Tryz.prog) (w := w1) (c := c) 31 5 9 Tryz.underlying31 Tryz.underlying5 Tryz.underlying9 (ho.bys (by omega))
    have HA3 := keepHid (HA2.out w1 κ1 hm ht hk)
    generalize strB (s.ld.tick p).1 = SO at *
    generalize (s.ld.tick p).1.length = n1 at *
    clear ho hm ht hk HTK HA2
    go_wp2_with fail
    with_reducible refine HA3.out.mono ?_
    intro e w2 hh
    have HH := keepHid hh
    obtain ⟨rfl, _⟩ := hh
    go_wp2
    go_ret
    exact HH.out
  | files b =>
    rw [hs] at hlod
    obtain ⟨rfl, GR, rfl, _⟩ := hlod
    have HTK := keepHid (mfiles_tick hp h hf)
    have HA2 := keepHid (HAF.out (by rw [hs]; simp))
    obtain ⟨n, hn⟩ : ∃ n, (s.ld.tick p).1.length = n := ⟨_, rfl⟩
    have HN := keepHid hn
    clear HAF h hs hfew hf hn
    unfold ptV at *
    go_enter Tryz.func14, Tryz.ntmps14
    go_wp2_with fail
    with_reducible refine HTK.out.mono ?_
    rintro e w1 ⟨A, c, κ1, rfl, ho, hm, ht, hk⟩
    have hcv := run_str (P := Tryz.prog) (w := w1) (c := c) 31 5 9 Tryz.underlying31 Tryz.underlying5 Tryz.underlying9 (ho.bys (by omega))
    have HA3 := keepHid (HA2.out w1 κ1 hm ht hk)
    generalize strB (s.ld.tick p).1 = SO at *
    generalize (s.ld.tick p).1.length = n1 at *
    clear ho hm ht hk HTK HA2
    go_wp2_with fail
    with_reducible refine HA3.out.mono ?_
    intro e w2 hh
    have HH := keepHid hh
    obtain ⟨rfl, _⟩ := hh
    go_wp2
    go_ret
    exact HH.out
end


theorem way_is {y : List UInt8} {k : Nat} (h : wayOf y = some k) : k ≤ 3 ∧ y = wayL (k : Int) := by
  unfold wayOf at h
  split at h
  · obtain rfl := Option.some.inj h; exact ⟨by omega, by assumption⟩
  split at h
  · obtain rfl := Option.some.inj h; exact ⟨by omega, by assumption⟩
  split at h
  · obtain rfl := Option.some.inj h; exact ⟨by omega, by assumption⟩
  split at h
  · obtain rfl := Option.some.inj h; exact ⟨by omega, by assumption⟩
  · cases h
def readyC : List UInt8 := [13, 10, 61, 62, 32]
def MDo (w0 : World) (G : Nat) (κ : Nat → Nat) (p : BP Fl) (z1 z2 : Int) (r : List UInt8 × Bd) (w : World) (e : Ending) (w' : World) : Prop :=
  e = .returned (.string (strB r.1)) ∧ MOut w0 G κ p z1 z2 r.2 w w'
section
variable {w0 w : World} {G GS : Nat} {κ : Nat → Nat} {p : BP Fl} {z1 z2 : Int} {rv : Value} {s : Bd}
/-- What the Store reads. -/
theorem read_m (GS a b : Nat) (st : List UInt8) (w : World) (hs : Sto w GS st) (ha : a < 4294967296) (hb : b < 4294967296) :
    Calls Tryz.prog 23 #[.pointer (some ⟨GS, 0, none⟩), .int .i64 (a : Int), .int .i64 (b : Int)] w fun e w' => ∃ A n c ok, e = .returned (.tuple #[.slice A n c, .bool ok]) ∧ Below w.heap.size w w' ∧ (ok = true → a + b ≤ 16384 ∧ Bys w' w'.heap.size A n (getL st a b)) ∧ (ok = false → ¬ a + b ≤ 16384) := by
  by_cases h : a + b ≤ 16384
  · refine (sread_z GS st a b _ _ rfl rfl w hs h).mono ?_
    rintro e w' ⟨rfl, hk, hbl⟩
    exact ⟨_, _, _, true, rfl, hbl, fun _ => ⟨h, (bys_blk hk (getL_len (by rw [hs.len]; exact h)) (by omega)).more hk.lt⟩, fun h => (by cases h)⟩
  · refine (sread_no _ (a : Int) (b : Int) w (by omega) (by omega) (.inr (.inr (by omega)))).mono ?_
    rintro e w' ⟨rfl, rfl⟩
    exact ⟨none, 0, 0, false, rfl, Below.refl _ _, fun h => (by cases h), fun _ => h⟩
/-- The load's address is set, its receiver made and laid in. -/
theorem maddr {w1 w2 : World} {pv fv : Option Addr} (h : MdlM w0 w G κ p z1 z2 GS pv fv rv s) (hb : Below w.heap.size w w1) (a : Nat) (h2 : w1.setCell ⟨G, 7, none⟩ (.int .i64 (a : Int)) = w2) : MdlM w0 w2 G κ p z1 z2 GS pv fv rv { s with ad := a } ∧ Turn (fun i => κ i ≠ 0) w w2 := by
  have h1 := h.below hb
  have ht : Turn (fun i => i = G) w1 w2 := by rw [← h2]; exact turnAt _ _ (Turn.refl _ w1)
  exact ⟨h1.own ht (by rw [← h2]; exact h1.blk.put 7 _) rfl rfl rfl, (Turn.of_below hb).trans (h.turnG ht)⟩
theorem mtake_call (h : MdlM w0 w G κ p z1 z2 GS none none rv s) : Calls Tryz.prog 58 #[.agg #[.int .i64 z1, .int .i64 z2]] w fun e w1 => ∃ GR, e = .returned (ptV GR) ∧ Below w.heap.size w w1 ∧
    ∀ w2, w1.setCell ⟨G, 6, none⟩ (.pointer (some ⟨GR, 0, none⟩)) = w2 → MOut w0 G κ p z1 z2 { s with ld := .files (newBR p) } w w2 := by
  refine (brtake_any p z1 z2 h.base.T h.base.W).mono ?_
  rintro e w1 ⟨GR, O, rfl, hb, hbel⟩
  refine ⟨GR, rfl, hbel, fun w2 h2 => ?_⟩
  exact h.loaded (O' := O) (l' := .files (newBR p)) hbel (fun i hi => ⟨hb.ge i hi, hb.lt i hi⟩) (by rw [← h2]; exact turnAt _ _ (Turn.refl _ w1)) (by rw [← h2]; simp) (by rw [← h2]; exact (h.below hbel).blk.put 6 _) ⟨rfl, GR, rfl, O, w.heap.size, h.base.bel.size, hb, fun i hi => hue5_in hi⟩
theorem mof_call (h : MdlM w0 w G κ p z1 z2 GS none none rv s) (crc : Bool) : Calls Tryz.prog 59 #[.agg #[.int .i64 z1, .int .i64 z2], .int .u8 1, .bool crc, .bool true, .int .i64 1] w fun e w1 => ∃ GR, e = .returned (ptV GR) ∧ Below w.heap.size w w1 ∧
    ∀ w2, w1.setCell ⟨G, 5, none⟩ (.pointer (some ⟨GR, 0, none⟩)) = w2 → MOut w0 G κ p z1 z2 { s with ld := .one crc (newR 1 1 p.T) } w w2 := by
  refine (show Calls Tryz.prog 59 #[.agg #[.int .i64 z1, .int .i64 z2], .int .u8 1, .bool crc, .bool true, .int .i64 1] w (OfRPost w crc true (capZ z2 99) (newR 1 1 (capZ z1 9))) from of_rcv z1 z2 1 crc true 1 w (by omega)).mono ?_
  rintro e w1 ⟨GR, rfl, hge, hb, hbel⟩
  refine ⟨GR, rfl, hbel, fun w2 h2 => ?_⟩
  rw [h.base.T, h.base.W] at hb
  exact h.loaded (O' := fun i => i = GR) (l' := .one crc (newR 1 1 p.T)) hbel (fun i hi => ⟨hb.ge i hi, hb.lt i hi⟩) (by rw [← h2]; exact turnAt _ _ (Turn.refl _ w1)) (by rw [← h2]; simp) (by rw [← h2]; exact (h.below hbel).blk.put 5 _) ⟨rfl, GR, rfl, _, w.heap.size, h.base.bel.size, hb, fun i hi => hue5_in hi⟩

set_option maxRecDepth 100000 in
set_option maxHeartbeats 8000000 in
theorem mdoes_any {pv fv : Option Addr} (h : MdlM w0 w G κ p z1 z2 GS pv fv rv s) (hld : s.ld = .non) (l : List UInt8) (hl : l.length ≤ 80) (hrp : s.rp.length ≤ 1000000000) :
    Calls Tryz.prog 36 #[ptV G, .string (strB l)] w (MDo w0 G κ p z1 z2 (exec20 p s l) w) := by
  obtain ⟨rfl, rfl⟩ : pv = none ∧ fv = none := by have := h.lod; rw [hld] at this; exact this
  have H := keepHid h
  have HW := keepHid (mwords_any l hl w)
  by_cases h3 : (splitW l).length = 3
  case neg =>
    have hq : ¬ ((splitW l).length : Int) = 3 := by omega
    by_cases h0 : l = []
    · have HP : Hid (∀ w1, Below w.heap.size w w1 → MDo w0 G κ p z1 z2 (exec20 p s l) w (.returned (.string ⟨#[13, 10, 61, 62, 32]⟩)) w1) := keepHid (fun w1 hb => by
        have : exec20 p s l = (readyL, s) := by unfold exec20; rw [if_pos h0]
        rw [this]; exact ⟨rfl, MOut.same ⟨_, _, _, _, H.out⟩ hb⟩)
      have e1 : (strB l).toList = [] := by rw [strB_toList]; exact h0
      have e2 : (strB l).toList.isEmpty = true := by rw [e1]; rfl
      generalize exec20 p s l = r at *
      unfold WordsM at HW
      generalize strB l = X at *
      generalize splitW l = q at *
      generalize hql : q.length = n3 at *
      clear h h3 hl h0 hql
      unfold ptV
      go_enter Tryz.func36, Tryz.ntmps36
      go_wp2_with fail
      with_reducible refine HW.out.mono ?_
      rintro e w1 ⟨g, c, rfl, ho, hb⟩
      have HR := keepHid (HP.out w1 hb)
      clear ho hb HP HW
      go_wp2
      go_ret
      exact HR.out
    · have HP : Hid (∀ w1, Below w.heap.size w w1 → MDo w0 G κ p z1 z2 (exec20 p s l) w (.returned (.string ⟨#[63, 13, 10, 61, 62, 32]⟩)) w1) := keepHid (fun w1 hb => by
        rw [exec_few h0 h3]; exact ⟨rfl, MOut.same ⟨_, _, _, _, H.out⟩ hb⟩)
      have e1 : ¬ (strB l).toList = [] := by rw [strB_toList]; exact h0
      have e2 : (strB l).toList.isEmpty = false := by rw [strB_toList]; simpa using h0
      generalize exec20 p s l = r at *
      unfold WordsM at HW
      generalize strB l = X at *
      generalize splitW l = q at *
      generalize hql : q.length = n3 at *
      clear h h3 hl h0 hql
      unfold ptV
      go_enter Tryz.func36, Tryz.ntmps36
      go_wp2_with fail
      with_reducible refine HW.out.mono ?_
      rintro e w1 ⟨g, c, rfl, ho, hb⟩
      have HR := keepHid (HP.out w1 hb)
      clear ho hb HP HW
      go_wp2
      go_ret
      exact HR.out
  case pos =>
  obtain ⟨x, y, z, hxyz⟩ := three_of h3
  have h0 : l ≠ [] := by
    rintro rfl
    simp [splitW] at hxyz
  have hall := splitW_all l
  rw [hxyz] at hall
  have hly : y.length ≤ 65536 := by have := (hall y (by simp)).1; omega
  have hlz : z.length ≤ 65536 := by have := (hall z (by simp)).1; omega
  have HXYZ := keepHid hxyz
  have H0 := keepHid h0
  have HW3 : Hid (Calls Tryz.prog 56 #[.string (strB l)] w fun e w' => ∃ g c, e = .returned (.slice (some ⟨g, 0, none⟩) 3 c) ∧ (3 : Int) ≤ (c : Int) ∧ w'.cell? ⟨g, 0, none⟩ = some (.string (strB x)) ∧ w'.cell? ⟨g, 1, none⟩ = some (.string (strB y)) ∧ w'.cell? ⟨g, 2, none⟩ = some (.string (strB z)) ∧ g < w'.heap.size ∧ Below w.heap.size w w') := keepHid (by
    refine HW.out.mono ?_
    rintro e w' ⟨g, c, rfl, ho, hb⟩
    rw [h3, hxyz] at ho
    have hc : 3 ≤ c := by
      rcases ho.2 with ⟨e0, _⟩ | ⟨g', cap', cur, e0, _, _, h1, _⟩
      · cases e0
      · injection e0 with e1 e2 e3; omega
    exact ⟨g, c, by rw [h3], by omega, ho.cell rfl, ho.cell rfl, ho.cell rfl, (World.ownsRow.lt ho g rfl).2, hb⟩)
  have HNY := keepHid (fun wx => mnum_any y hly wx)
  have HNZ := keepHid (fun wx => mnum_any z hlz wx)
  have HWY : Hid (∀ w : World, Calls Tryz.prog 38 #[] w fun e w' => e = .returned (.slice (some ⟨w.heap.size, 0, none⟩) 4 4) ∧ Below w.heap.size w w' ∧ WaysAt w' w.heap.size) := keepHid ways_any
  have hqx : ((strB x).toList == [108, 111, 97, 100]) = decide (x = wLoad) := by rw [show ([108, 111, 97, 100] : List UInt8) = (strB wLoad).toList from (strB_toList wLoad).symm]; exact str_eqB x wLoad
  have hqs : ((strB x).toList == [115, 117, 109]) = decide (x = wSum) := by rw [show ([115, 117, 109] : List UInt8) = (strB wSum).toList from (strB_toList wSum).symm]; exact str_eqB x wSum
  have e1 : ¬ (strB l).toList = [] := by rw [strB_toList]; exact h0
  have e2 : (strB l).toList.isEmpty = false := by rw [strB_toList]; simpa using h0
  have HQY := keepHid (fun k : Nat => str_eqB y (wayL (k : Int)))
  clear h h3 hl h0 hall HW hxyz hly hlz
  obtain ⟨r, hr⟩ : ∃ r, exec20 p s l = r := ⟨_, rfl⟩
  have HR := keepHid hr
  rw [hr]
  generalize hX : strB l = X at *
  generalize hXX : strB x = XX at *
  generalize hXY : strB y = XY at *
  generalize hXZ : strB z = XZ at *
  obtain ⟨bx, hbx⟩ : ∃ b, decide (x = wLoad) = b := ⟨_, rfl⟩
  obtain ⟨bs, hbs⟩ : ∃ b, decide (x = wSum) = b := ⟨_, rfl⟩
  rw [hbx] at hqx
  rw [hbs] at hqs
  have HBX := keepHid hbx
  have HBS := keepHid hbs
  unfold ptV
  unfold NumM at HNY HNZ
  clear hr hX hXX hXY hXZ hbx hbs
  go_enter Tryz.func36, Tryz.ntmps36
  go_wp2_with fail
  with_reducible refine HW3.out.mono ?_
  rintro e w1 ⟨g, c, rfl, hc3, d0, d1, d2, hgl, hb1⟩
  have HB1 := keepHid hb1
  have HCS : Hid (∀ wx, Below w1.heap.size w1 wx → wx.cell? ⟨g, 0, none⟩ = some (.string XX) ∧ wx.cell? ⟨g, 1, none⟩ = some (.string XY) ∧ wx.cell? ⟨g, 2, none⟩ = some (.string XZ)) := keepHid (fun wx hx => ⟨(hx.cell hgl).trans d0, (hx.cell hgl).trans d1, (hx.cell hgl).trans d2⟩)
  clear hb1 hgl HW3
  go_wp2_with fail
  with_reducible refine (HNY.out _).mono ?_
  rintro e w2 ⟨a, one, rfl, ha, hone, hone2, hb2⟩
  obtain ⟨d0', d1', d2'⟩ := HCS.out w2 hb2
  have HB2 := keepHid hb2
  have HO1 := keepHid hone
  have HO2 := keepHid hone2
  clear d0 d1 d2 hb2 HNY hone hone2
  go_wp2_with fail
  with_reducible refine (HNZ.out _).mono ?_
  rintro e w3 ⟨b, tw, rfl, hb, htw, htw2, hb3⟩
  have HB3 := keepHid (HB2.out.trans (hb3.mono HB2.out.size))
  have HT1 := keepHid htw
  have HT2 := keepHid htw2
  clear d0' d1' d2' hb3 HNZ htw htw2 HB2
  go_wp2_with fail
  with_reducible refine (HWY.out _).mono ?_
  rintro e w4 ⟨rfl, hb4, hway⟩
  have HB4 := keepHid (HB3.out.trans (hb4.mono HB3.out.size))
  have HWAY := keepHid hway
  have HN0 : Hid (∀ j, x = wLoad → tw = true → wayOf y = some j → 0 ≤ j) := keepHid (fun j _ _ _ => Nat.zero_le _)
  obtain ⟨gw, hgw⟩ : ∃ gw, w3.heap.size = gw := ⟨_, rfl⟩
  rw [hgw] at HWAY ⊢
  obtain ⟨e0, e1', e2'⟩ := HCS.out w4 HB4.out
  have c0 : w4.cell? ⟨G, 0, none⟩ = some (.pointer (some ⟨GS, 0, none⟩)) := (H.out.below (HB1.out.trans (HB4.out.mono HB1.out.size))).blk.cell 0
  have H4 := keepHid (H.out.below (HB1.out.trans (HB4.out.mono HB1.out.size)))
  have HBW := keepHid (HB1.out.trans (HB4.out.mono HB1.out.size))
  clear hb4 hway HB3 HWY hgw HB4 HCS HB1
  go_wp2_with fail
  go_loopw [36] (fun vk wx => ∃ (k : Nat), k ≤ 4 ∧ vk = .int .i64 (k : Int) ∧ wx = w4 ∧ Hid (∀ j, x = wLoad → tw = true → wayOf y = some j → k ≤ j)) (fun vk _ => 4 - (intOf vk).toNat)
  case atStart => exact ⟨0, by omega, rfl, rfl, HN0⟩
  case round =>
    clear HN0
    obtain ⟨k, hk, rfl, rfl, HNK⟩ := hrel
    by_cases hk4 : k < 4
    · have hkI : (k : Int) < 4 := by omega
      have hck : wr.cell? ⟨gw, k, none⟩ = some (.string (strB (wayL (k : Int)))) := HWAY.out.at_ (by omega)
      have hqy := HQY.out k
      obtain ⟨bY, hbY⟩ : ∃ b, decide (y = wayL (k : Int)) = b := ⟨_, rfl⟩
      rw [hbY] at hqy
      have HBY := keepHid hbY
      have HSTEP : Hid ((bx && bY && tw) = false → ∀ j, x = wLoad → tw = true → wayOf y = some j → k + 1 ≤ j) := keepHid (fun hf j q1 q2 q3 => by
        have h1 := HNK.out j q1 q2 q3
        rcases Nat.lt_or_ge k j with h2 | h2
        · exact h2
        · obtain rfl : j = k := by omega
          have h3 := (way_is q3).2
          have e1 : bx = true := by rw [← HBX.out]; exact decide_eq_true q1
          have e2 : bY = true := by rw [← HBY.out]; exact decide_eq_true h3
          rw [e1, e2, q2] at hf
          cases hf)
      generalize strB (wayL (k : Int)) = XW at *
      clear hbY hk
      cases bx
      case false =>
        have HN1 := keepHid (HSTEP.out (by simp))
        clear HSTEP
        go_wp2
        go_roundw
        case rel => exact ⟨k + 1, by omega, by go_num, trivial, HN1⟩
        case measure => simp [intOf]; omega
      cases bY
      case false =>
        have HN1 := keepHid (HSTEP.out (by simp))
        clear HSTEP
        go_wp2
        go_roundw
        case rel => exact ⟨k + 1, by omega, by go_num, trivial, HN1⟩
        case measure => simp [intOf]; omega
      cases htw : tw
      case false =>
        subst htw
        have HN1 := keepHid (HSTEP.out (by simp))
        clear HSTEP
        go_wp2
        go_roundw
        case rel => exact ⟨k + 1, by omega, by go_num, trivial, HN1⟩
        case measure => simp [intOf]; omega
      subst htw
      have hyk : y = wayL (k : Int) := of_decide_eq_true HBY.out
      have hwk : wayOf y = some k := by rw [hyk]; exact way_of20 k (by omega)
      have hxl : x = wLoad := of_decide_eq_true HBX.out
      have hfz := H4.out.blk.frozen
      have c7 : wr.cell? ⟨G, 7, none⟩ = some (.int .i64 (s.ad : Int)) := H4.out.blk.cell 7
      obtain ⟨w5, hw5⟩ : ∃ w5, wr.setCell ⟨G, 7, none⟩ (.int .i64 (b : Int)) = w5 := ⟨_, rfl⟩
      obtain ⟨m5, t5⟩ := maddr H4.out (Below.refl _ _) b hw5
      have hex : exec20 p s l = ([], { s with ad := b, ld := begin20 p k }) := exec_begin H0.out (by rw [HXYZ.out, hxl]) hwk (HT1.out rfl)
      have M5 := keepHid m5
      have f1 : w5.cell? ⟨G, 1, none⟩ = some (.int .i64 z1) := m5.blk.cell 1
      have f2 : w5.cell? ⟨G, 2, none⟩ = some (.int .i64 z2) := m5.blk.cell 2
      have T5 : Hid (Turn (fun i => κ i ≠ 0) w w5) := keepHid (Turn.trans (Turn.of_below HBW.out) t5)
      have HFIN : Hid (∀ w7 l', begin20 p k = l' → MOut w0 G κ p z1 z2 { s with ad := b, ld := l' } w5 w7 → MDo w0 G κ p z1 z2 r w (.returned (.string ⟨#[]⟩)) w7) := keepHid (fun w7 l' hl' hm => by
        rw [← HR.out, hex, hl']
        exact ⟨rfl, MOut.of T5.out (fun i hi => .inl hi) hm⟩)
      clear m5 t5 hex hwk hyk hxl
      by_cases hk3 : k = 3
      · subst hk3
        have HTK := keepHid (mtake_call M5.out)
        rw [show ((3 : Nat) : Int) = 3 from rfl] at *
        go_wp2_with fail
        try rw [hw5]
        with_reducible refine HTK.out.mono ?_
        rintro e w6 ⟨GR, rfl, hb6, hset⟩
        have c6 : w6.cell? ⟨G, 6, none⟩ = some (.pointer none) := (M5.out.below hb6).blk.cell 6
        have f6 := (M5.out.below hb6).blk.frozen
        obtain ⟨w7, hw7⟩ : ∃ w7, w6.setCell ⟨G, 6, none⟩ (.pointer (some ⟨GR, 0, none⟩)) = w7 := ⟨_, rfl⟩
        have HRR := keepHid (HFIN.out w7 _ (show begin20 p 3 = .files (newBR p) by unfold begin20; rw [if_pos rfl]) (hset w7 hw7))
        clear hset hb6 HTK HFIN f1 f2 hw5 c7 hfz hck
        unfold ptV
        go_wp2
        try rw [hw7]
        go_ret
        exact HRR.out
      · have hk3I : ((k : Int) == 3) = false := by simp; omega
        have hk3J : ¬ (k : Int) = 3 := by omega
        obtain ⟨crc, hcrc⟩ : ∃ crc, decide (k ≠ 0) = crc := ⟨_, rfl⟩
        have hcz : decide (0 < k) = crc := by
          rw [← hcrc]
          by_cases h0 : k = 0
          · subst h0; rfl
          · rw [decide_eq_true h0]; simp; omega
        have HTK := keepHid (mof_call M5.out crc)
        have hbg : begin20 p k = .one crc (newR 1 1 p.T) := by unfold begin20; rw [if_neg hk3, hcrc]
        have HBG := keepHid hbg
        clear hbg hcrc hk3
        go_wp2_with fail
        try rw [hw5]
        with_reducible refine HTK.out.mono ?_
        rintro e w6 ⟨GR, rfl, hb6, hset⟩
        have c5 : w6.cell? ⟨G, 5, none⟩ = some (.pointer none) := (M5.out.below hb6).blk.cell 5
        have f6 := (M5.out.below hb6).blk.frozen
        obtain ⟨w7, hw7⟩ : ∃ w7, w6.setCell ⟨G, 5, none⟩ (.pointer (some ⟨GR, 0, none⟩)) = w7 := ⟨_, rfl⟩
        have HRR := keepHid (HFIN.out w7 _ HBG.out (hset w7 hw7))
        clear hset hb6 HTK HFIN f1 f2 hw5 c7 hfz hck
        unfold ptV
        go_wp2
        try rw [hw7]
        go_ret
        exact HRR.out
    · obtain rfl : k = 4 := by omega
      have HNL : Hid (x = wLoad → wayOf y = none ∨ hexN z = none) := keepHid (fun hx => by
        cases hw : wayOf y with
        | none => exact .inl rfl
        | some j =>
          refine .inr ?_
          cases htw : tw with
          | false => exact HT2.out htw
          | true =>
            have := HNK.out j hx htw hw
            have := (way_is hw).1
            omega)
      have HRD := keepHid (read_m GS a b s.st wr H4.out.sto ha hb)
      rw [show ((4 : Nat) : Int) = 4 from rfl]
      clear HNK hk
      go_wp2_with fail
      with_reducible refine HRD.out.mono ?_
      rintro e w5 ⟨A5, n5, c5, ok, rfl, hb5, hok, hno⟩
      have HB5 := keepHid (HBW.out.trans (hb5.mono HBW.out.size))
      have HOK := keepHid hok
      have HNOK := keepHid hno
      have q0 : w5.cell? ⟨g, 0, none⟩ = some (.string XX) := (hb5.cell (World.block_lt_of_cell? _ _ e0)).trans e0
      have HNO : Hid ((bs && one && tw && ok) = false → ∀ wx, Below w.heap.size w wx → MDo w0 G κ p z1 z2 r w (.returned (.string ⟨#[63, 13, 10, 61, 62, 32]⟩)) wx) := keepHid (fun hf wx hx => by
        have hex : exec20 p s l = (noL, s) := by
          by_cases hx1 : x = wLoad
          · exact exec_nobegin H0.out (by rw [HXYZ.out, hx1]) (HNL.out hx1)
          · by_cases hx2 : x = wSum
            · refine exec_noreply H0.out (by rw [HXYZ.out, hx2]) (fun a' n' q1 q2 q3 => ?_)
              have e1 : bs = true := by rw [← HBS.out]; exact decide_eq_true hx2
              have e2 : one = true := by
                cases ho : one with
                | false => rw [HO2.out ho] at q1; cases q1
                | true => rfl
              have e3 : tw = true := by
                cases ho : tw with
                | false => rw [HT2.out ho] at q2; cases q2
                | true => rfl
              have e4 : a' = a := by have := HO1.out e2; rw [q1] at this; exact Option.some.inj this
              have e5 : n' = b := by have := HT1.out e3; rw [q2] at this; exact Option.some.inj this
              subst e4 e5
              have e6 : ok = true := by
                cases ho : ok with
                | false => exact absurd q3 (HNOK.out ho)
                | true => rfl
              rw [e1, e2, e3, e6] at hf
              cases hf
            · exact exec_word H0.out HXYZ.out hx1 hx2
        rw [← HR.out, hex]
        exact ⟨rfl, MOut.same ⟨_, _, _, _, H.out⟩ hx⟩)
      clear hb5 hok hno e0 e1' e2'
      cases bs
      case false =>
        have HP := keepHid (HNO.out (by simp) _ HB5.out)
        clear HNO
        go_wp2
        go_ret
        exact HP.out
      cases one
      case false =>
        have HP := keepHid (HNO.out (by simp) _ HB5.out)
        clear HNO
        go_wp2
        go_ret
        exact HP.out
      cases tw
      case false =>
        have HP := keepHid (HNO.out (by simp) _ HB5.out)
        clear HNO
        go_wp2
        go_ret
        exact HP.out
      cases ok
      case false =>
        have HP := keepHid (HNO.out (by simp) _ HB5.out)
        clear HNO
        go_wp2
        go_ret
        exact HP.out
      obtain ⟨hfit, hby⟩ := HOK.out rfl
      have hx2 : x = wSum := of_decide_eq_true HBS.out
      obtain ⟨P, hP⟩ : ∃ P, prNum (prL (getL s.st a b)) = P := ⟨_, rfl⟩
      have hP32 : P < 4294967296 := by rw [← hP]; exact pr_u32 _
      have HPR := keepHid (print_any A5 n5 c5 (getL s.st a b) w5 hby)
      rw [hP] at HPR
      have HEX : Hid (exec20 p s l = (lin20 a b P ++ promptL, { s with rp := s.rp ++ [(a, b, P)] })) := keepHid (by rw [← hP]; exact exec_reply H0.out (by rw [HXYZ.out, hx2]) (HO1.out rfl) (HT1.out rfl) hfit)
      clear hby hfit hx2 hP HNO HOK HNOK HNL HO1 HO2 HT1 HT2
      go_wp2_with fail
      with_reducible refine HPR.out.mono ?_
      rintro e w6 ⟨rfl, hb6⟩
      obtain ⟨w7, hw7⟩ : ∃ w7, w6.alloc (.cells #[.int .i64 (a : Int), .int .i64 (b : Int), .int .u32 (P : Int)] 54) = w7 := ⟨_, rfl⟩
      have hb67 : Below w6.heap.size w6 w7 := by rw [← hw7]; exact (Below.refl _ _).alloc (Nat.le_refl _) _
      have HKR : Hid (Blk w7 w6.heap.size 54 (rpA (a, b, P))) := keepHid (by rw [← hw7]; exact Blk.new w6 _ _)
      have hb06 := HB5.out.trans (hb6.mono HB5.out.size)
      have HB7 := keepHid (hb06.trans (hb67.mono hb06.size))
      obtain ⟨R, hRe⟩ : ∃ R, w6.heap.size = R := ⟨_, rfl⟩
      have hRg : w.heap.size ≤ R := by rw [← hRe]; exact hb06.size
      rw [hRe] at HKR
      obtain ⟨A, cr, hrv⟩ : ∃ A c, rv = .slice A s.rp.length c := by
        rcases H.out.reps.own.2 with ⟨e, e2⟩ | ⟨g, cap, cur, e, _⟩
        · exact ⟨none, 0, by rw [e, e2]⟩
        · exact ⟨_, cap, e⟩
      subst hrv
      have HCC := keepHid (H.out.below HB7.out)
      have c8 : w7.cell? ⟨G, 8, none⟩ = some (.slice A s.rp.length cr) := HCC.out.blk.cell 8
      have c8a : ∀ o, (w7.alloc o).cell? ⟨G, 8, none⟩ = some (.slice A s.rp.length cr) := fun o => (((Below.refl w7.heap.size w7).alloc (Nat.le_refl _) o).cell (show G < w7.heap.size from HCC.out.blk.lt)).trans c8
      have t0 : w7.cell? ⟨R, 0, none⟩ = some (.int .i64 (a : Int)) := HKR.out.cell 0
      have t1 : w7.cell? ⟨R, 1, none⟩ = some (.int .i64 (b : Int)) := HKR.out.cell 1
      have t2 : w7.cell? ⟨R, 2, none⟩ = some (.int .u32 (P : Int)) := HKR.out.cell 2
      have HO : Hid (∀ wy, Below w7.heap.size w7 wy → OwnR wy w0.heap.size (.slice A s.rp.length cr) s.rp.length s.rp ∧ w0.heap.size ≤ wy.heap.size) := keepHid (fun wy hb => ⟨(HCC.out.below hb).reps.own, (HCC.out.below hb).base.bel.size⟩)
      have HAP : Hid (∀ wy, Below w7.heap.size w7 wy → ∀ G2 cap w4, OwnR w4 w0.heap.size (.slice (some ⟨G2, 0, none⟩) (s.rp.length + 1) cap) (s.rp.length + 1) (s.rp ++ [(a, b, P)]) → wy.grownBy w4 (Value.slice A s.rp.length cr).ownBlock → ((Value.slice A s.rp.length cr).ownBlock = some G2 ∨ G2 = wy.heap.size) →
          w4.cell? ⟨G, 8, none⟩ = some (.slice A s.rp.length cr) ∧ w4.frozen? ⟨G, 8, none⟩ = false ∧ ∀ w5, w4.setCell ⟨G, 8, none⟩ (.slice (some ⟨G2, 0, none⟩) (s.rp.length + 1) cap) = w5 → w5.cell? ⟨R, 2, none⟩ = some (.int .u32 (P : Int)) ∧ MOut w0 G κ p z1 z2 r.2 w w5) := keepHid (fun wy hb G2 cap w4 q1 q2 q3 => by
        have hy := HCC.out.below hb
        have ht := turn_grown q2
        have hcol := H.out.reps.col
        have hGn : ¬ (Value.slice A s.rp.length cr).ownBlock = some G := fun e => by have := hcol G e; rw [H.out.g] at this; omega
        have hRn : ¬ (Value.slice A s.rp.length cr).ownBlock = some R := fun e => by have := (H.out.lt R (by rw [hcol R e]; omega)).2; omega
        have hb4 := ht.blk hy.blk hGn
        refine ⟨hb4.cell 8, hb4.frozen 8, fun w5 h5 => ?_⟩
        have hk4 := ht.blk (HKR.out.below hb HKR.out.lt) hRn
        have t5 : Turn (fun i => i = G) w4 w5 := by rw [← h5]; exact turnAt _ _ (Turn.refl _ w4)
        have hk5 := t5.blk hk4 (fun e => by have := H.out.blk.lt; omega)
        have hbw : Below w.heap.size w wy := HB7.out.trans (hb.mono HB7.out.size)
        refine ⟨hk5.cell 2, ?_⟩
        rw [← HR.out, HEX.out]
        exact H.out.replied hbw q1 ht (q3.imp id fun e => by rw [e]; exact hbw.size) h5)
      have HR1 : Hid (r.1 = lin20 a b P ++ promptL) := keepHid (by rw [← HR.out, HEX.out])
      generalize hN : s.rp.length = N at *
      have hN2 : N ≤ 1000000000 := hrp
      have HRE := keepHid hRe
      clear hb6 hb67 hb06 HPR hRe
      go_upto_region 18 with fail
      try rw [hw7]
      rw [HRE.out]
      clear hw7
      go_region_law (first
        | ((refine step_append_rps rfl (.tmp 112) (.tmp 114) rfl w0.heap.size (.slice A N cr) N s.rp (by simp [Act.eval]) (HO.out _ (by (repeat (first | (with_reducible exact Below.refl _ _) | (with_reducible refine bel20a ?_ _) | (with_reducible refine Below.drew ?_) | (with_reducible refine below_drewN ?_ _))))).1 ⟨w7.heap.size, 0, none⟩ 1 1 [(a, b, P)] (by simp [Act.eval]) rfl (by first | exact rp_cells (a, b, P) | exact rp_cells (w := w7.drew) (a, b, P)) (by omega) (by omega) (HO.out _ (by (repeat (first | (with_reducible exact Below.refl _ _) | (with_reducible refine bel20a ?_ _) | (with_reducible refine Below.drew ?_) | (with_reducible refine below_drewN ?_ _))))).2 ?_); intro G2 cap w4 q1 q2 q3; obtain ⟨g0, g1, hf⟩ := HAP.out _ (by (repeat (first | (with_reducible exact Below.refl _ _) | (with_reducible refine bel20a ?_ _) | (with_reducible refine Below.drew ?_) | (with_reducible refine below_drewN ?_ _)))) G2 cap w4 q1 q2 q3; have HF := keepHid hf; clear q1 q2 q3 hf))
      all_goals
        obtain ⟨w8, hw8⟩ : ∃ w8, w4.setCell ⟨G, 8, none⟩ (.slice (some ⟨G2, 0, none⟩) (N + 1) cap) = w8 := ⟨_, rfl⟩
        obtain ⟨u2, hout⟩ := HF.out w8 hw8
        have HOUT := keepHid hout
        have HXA := keepHid (hex_any a (by omega))
        have HXB := keepHid (hex_any b (by omega))
        have HXP := keepHid (hex_any P (by omega))
        have la := dig_eight (n := a) (by omega)
        have lb := dig_eight (n := b) (by omega)
        have lp := dig_eight (n := P) (by omega)
        have vP : IntKind.i64.wrap (P : Int) = (P : Int) := by rw [IntKind.wrap_i64]; omega
        have k1 : ∀ w, (Op.stringOp .add ⟨#[115, 117, 109, 32]⟩ (strB (digL 16 a))).run Tryz.prog w = .ok (.string (strB ([115, 117, 109, 32] ++ digL 16 a))) w := fun w => run_strAdd _ _ (by simp only [List.length_cons, List.length_nil]; omega) w
        have k2 : ∀ w, (Op.stringOp .add (strB ([115, 117, 109, 32] ++ digL 16 a)) ⟨#[32]⟩).run Tryz.prog w = .ok (.string (strB ([115, 117, 109, 32] ++ digL 16 a ++ [32]))) w := fun w => run_strAdd _ _ (by simp only [List.length_append, List.length_cons, List.length_nil]; omega) w
        have k3 : ∀ w, (Op.stringOp .add (strB ([115, 117, 109, 32] ++ digL 16 a ++ [32])) (strB (digL 16 b))).run Tryz.prog w = .ok (.string (strB ([115, 117, 109, 32] ++ digL 16 a ++ [32] ++ digL 16 b))) w := fun w => run_strAdd _ _ (by simp only [List.length_append, List.length_cons, List.length_nil]; omega) w
        have k4 : ∀ w, (Op.stringOp .add (strB ([115, 117, 109, 32] ++ digL 16 a ++ [32] ++ digL 16 b)) ⟨#[32]⟩).run Tryz.prog w = .ok (.string (strB ([115, 117, 109, 32] ++ digL 16 a ++ [32] ++ digL 16 b ++ [32]))) w := fun w => run_strAdd _ _ (by simp only [List.length_append, List.length_cons, List.length_nil]; omega) w
        have k5 : ∀ w, (Op.stringOp .add (strB ([115, 117, 109, 32] ++ digL 16 a ++ [32] ++ digL 16 b ++ [32])) (strB (digL 16 P))).run Tryz.prog w = .ok (.string (strB ([115, 117, 109, 32] ++ digL 16 a ++ [32] ++ digL 16 b ++ [32] ++ digL 16 P))) w := fun w => run_strAdd _ _ (by simp only [List.length_append, List.length_cons, List.length_nil]; omega) w
        have k6 : ∀ w, (Op.stringOp .add (strB ([115, 117, 109, 32] ++ digL 16 a ++ [32] ++ digL 16 b ++ [32] ++ digL 16 P)) ⟨#[13, 10, 61, 62, 32]⟩).run Tryz.prog w = .ok (.string (strB ([115, 117, 109, 32] ++ digL 16 a ++ [32] ++ digL 16 b ++ [32] ++ digL 16 P ++ readyC))) w := fun w => run_strAdd _ _ (by simp only [List.length_append, List.length_cons, List.length_nil]; omega) w
        have HRR : Hid (strB r.1 = strB ([115, 117, 109, 32] ++ digL 16 a ++ [32] ++ digL 16 b ++ [32] ++ digL 16 P ++ readyC)) := keepHid (by rw [HR1.out]; unfold lin20; simp only [readyC, promptL, List.append_assoc, List.cons_append, List.nil_append])
        try rw [hw8]
        clear hout HF HAP HO hw8 g0 g1 c8 c8a la lb lp t0 t1 t2
        generalize strB ([115, 117, 109, 32] ++ digL 16 a ++ [32] ++ digL 16 b ++ [32] ++ digL 16 P ++ readyC) = R6 at *
        generalize strB ([115, 117, 109, 32] ++ digL 16 a ++ [32] ++ digL 16 b ++ [32] ++ digL 16 P) = R5 at *
        generalize strB ([115, 117, 109, 32] ++ digL 16 a ++ [32] ++ digL 16 b ++ [32]) = R4 at *
        generalize strB ([115, 117, 109, 32] ++ digL 16 a ++ [32] ++ digL 16 b) = R3 at *
        generalize strB ([115, 117, 109, 32] ++ digL 16 a ++ [32]) = R2 at *
        generalize strB ([115, 117, 109, 32] ++ digL 16 a) = R1 at *
        generalize strB (digL 16 a) = XA at *
        generalize strB (digL 16 b) = XB at *
        generalize strB (digL 16 P) = XP at *
        go_upto_region 19 with fail
        go_quiet (first
          | (go_at_call 18; (with_reducible refine Calls.quiet_of_same ((HXA.out _).mono fun _ _ q => ⟨q.1, q.2.symm⟩)))
          | (go_at_call 18; (with_reducible refine Calls.quiet_of_same ((HXB.out _).mono fun _ _ q => ⟨q.1, q.2.symm⟩)))
          | (go_at_call 18; (with_reducible refine Calls.quiet_of_same ((HXP.out _).mono fun _ _ q => ⟨q.1, q.2.symm⟩))))
        rename_i nq
        have HPP : Hid (MDo w0 G κ p z1 z2 r w (.returned (.string R6)) (w8.drewN nq)) := keepHid ⟨by rw [HRR.out], HOUT.out.below (below_drewN (Below.refl _ _) _)⟩
        go_wp2
        go_ret
        exact HPP.out
end


theorem run_tailk (A : Option Addr) (n c k : Nat) (hk : k ≤ n) (hc : n ≤ c) (W : World) :
    (Instr.slice 31 (.slice A n c) (some (.int .i64 (k : Int))) none none).run Tryz.prog W = .ok (.slice (if c = k then A else A.map (·.add k)) (n - k) (c - k)) W := by
  rw [run_slice_l W 31 A n c (by kernel_rfl) .i64 (k : Int) (by omega) (by omega)]
  have hs : ∀ W, (sizeOf (Tryz.prog.elem 31)).run Tryz.prog W = .ok 1 W := fun W => by kernel_rfl
  rw [hs]
  simp [sliced]
theorem run_onek (A : Option Addr) (n c k : Nat) (y : Int) (hy : y = (k : Int) + 1) (hk : k + 1 ≤ c) (W : World) :
    (Instr.slice 31 (.slice A n c) (some (.int .i64 (k : Int))) (some (.int .i64 y)) none).run Tryz.prog W = .ok (.slice (if c = k then A else A.map (·.add k)) 1 (c - k)) W := by
  subst hy
  rw [run_slice_lh W 31 A n c (by kernel_rfl) .i64 .i64 (k : Int) ((k : Int) + 1) (by omega) (by omega) (by omega)]
  have hs : ∀ W, (sizeOf (Tryz.prog.elem 31)).run Tryz.prog W = .ok 1 W := fun W => by kernel_rfl
  rw [hs]
  have e : ((k : Int) + 1).toNat = k + 1 := by omega
  simp [sliced, e]
def MPut (w0 : World) (G : Nat) (κ : Nat → Nat) (p : BP Fl) (z1 z2 : Int) (r : List UInt8 × Bd) (w : World) (e : Ending) (w' : World) : Prop :=
  e = .returned (.string (strB r.1)) ∧ MOut w0 G κ p z1 z2 r.2 w w'
/-- Where a Put is, k bytes on. -/
def PutM (w0 w : World) (G : Nat) (κ : Nat → Nat) (p : BP Fl) (z1 z2 : Int) (s : Bd) (b : List UInt8) (C B k : Nat) (out : List UInt8) (wr : World) : Prop :=
  ∃ κ' s', Mdl w0 wr G κ' p z1 z2 s' ∧ Turn (fun i => κ i ≠ 0) w wr ∧ (∀ i, κ' i ≠ 0 → κ i ≠ 0 ∨ w.heap.size ≤ i) ∧ Ok20 C B s' ∧ s'.rp.length ≤ s.rp.length + k ∧
    feed20 p s b = (out ++ (feed20 p s' (b.drop k)).1, (feed20 p s' (b.drop k)).2) ∧ out.length ≤ 64 * k
section
variable {w0 w : World} {G GS : Nat} {κ : Nat → Nat} {p : BP Fl} {z1 z2 : Int} {s : Bd} {b : List UInt8} {C B k : Nat} {out : List UInt8} {wr : World}
theorem PutM.step {κ' : Nat → Nat} {s' : Bd} {c : UInt8} {w5 : World} (hT : Turn (fun i => κ i ≠ 0) w wr) (hK : ∀ i, κ' i ≠ 0 → κ i ≠ 0 ∨ w.heap.size ≤ i) (hok : Ok20 C B s') (hrp : s'.rp.length ≤ s.rp.length + k)
    (hf : feed20 p s b = (out ++ (feed20 p s' (b.drop k)).1, (feed20 p s' (b.drop k)).2)) (ho : out.length ≤ 64 * k) (hn : s'.ld = .non) (hc : b[k]? = some c) (hm : MOut w0 G κ' p z1 z2 (take20 p s' c).2 wr w5) :
    PutM w0 w G κ p z1 z2 s b C B (k + 1) (out ++ (take20 p s' c).1) w5 := by
  obtain ⟨κ2, h1, h2, h3⟩ := hm.of hT hK
  have ht := take_out p s' c
  obtain ⟨hk, hc'⟩ := List.getElem?_eq_some_iff.1 hc
  have hd : b.drop k = c :: b.drop (k + 1) := by rw [List.drop_eq_getElem_cons hk, hc']
  refine ⟨κ2, _, h1, h2, h3, take_ok hok c, by omega, ?_, by rw [List.length_append]; omega⟩
  rw [hf, hd, feed_take hn, List.append_assoc]
theorem PutM.drew (h : PutM w0 w G κ p z1 z2 s b C B k out wr) : PutM w0 w G κ p z1 z2 s b C B k out wr.drew := by
  obtain ⟨κ', s', h1, h2, h3, h4⟩ := h
  exact ⟨κ', s', h1.below (Below.refl _ _).drew, h2.trans (Turn.of_below (Below.refl _ _).drew), h3, h4⟩
theorem PutM.last {κ' : Nat → Nat} {s' : Bd} (hm : Mdl w0 wr G κ' p z1 z2 s') (hT : Turn (fun i => κ i ≠ 0) w wr) (hK : ∀ i, κ' i ≠ 0 → κ i ≠ 0 ∨ w.heap.size ≤ i) (hok : Ok20 C B s')
    (hf : feed20 p s b = (out ++ (feed20 p s' (b.drop k)).1, (feed20 p s' (b.drop k)).2)) (hk : b.length = k) : MPut w0 G κ p z1 z2 (feed20 p s b) w (.returned (.string (strB out))) wr := by
  have hd : b.drop k = [] := List.drop_of_length_le (by omega)
  have e : feed20 p s' [] = ([], s') := lput_nil hok.ov hok.calm
  rw [hf, hd, e]
  exact ⟨by rw [List.append_nil], κ', hm, hT, hK⟩

theorem lput_out (p : BP Fl) (s : Bd) (x : List UInt8) : (lput20 p s x).1.length ≤ 8 := by
  have h1 := Lod.put_out p x s.ld
  have h2 := fin_out_few { s with ld := (s.ld.put p x).2 }
  show ((s.ld.put p x).1 ++ _).length ≤ 8
  rw [List.length_append]
  omega
set_option maxRecDepth 100000 in
set_option maxHeartbeats 8000000 in
theorem mput_any (hp : Rdr p) (h : Mdl w0 w G κ p z1 z2 s) (hok0 : Ok20 C B s) (hC : C ≤ 400000) (hB : B ≤ 400000000) (A : Option Addr) (n c : Nat) (hy : Bys w w.heap.size A n b) (hnc : n ≤ c) (hn : n ≤ 300000000) (hap : ∀ ad, A = some ad → 0 < n → κ ad.block = 0) (hrp0 : s.rp.length + n ≤ 1000000000) :
    Calls Tryz.prog 17 #[ptV G, .slice A n c] w (MPut w0 G κ p z1 z2 (feed20 p s b) w) := by
  have HP := keepHid hp
  have HPM : Hid (PutM w0 w G κ p z1 z2 s b C B 0 [] w) := keepHid ⟨κ, s, h, Turn.refl _ w, fun i hi => .inl hi, hok0, by omega, by simp, by simp⟩
  have HY := keepHid hy
  have HAP := keepHid hap
  have HQ0 : Hid (ByteArray.mk #[] = strB []) := keepHid rfl
  clear hp h hok0 hap hy
  unfold ptV
  go_enter Tryz.func17, Tryz.ntmps17
  go_wp2_with fail
  go_loopw [5, 6] (fun vo vk wx => ∃ (k : Nat) (out : List UInt8), vo = .string (strB out) ∧ vk = .int .i64 (k : Int) ∧ k ≤ n ∧ Hid (PutM w0 w G κ p z1 z2 s b C B k out wx)) (fun _ vk _ => n - (intOf vk).toNat)
  case atStart => exact ⟨0, [], by rw [← HQ0.out], rfl, Nat.zero_le _, HPM⟩
  case round =>
    clear HPM HQ0
    obtain ⟨k, out, rfl, rfl, hk, HPM⟩ := hrel
    by_cases hkn : k < n
    · have hkI : (k : Int) < (n : Int) := by omega
      obtain ⟨κ', s', hM0, hT, hK, hok, hrp, hfd, hol⟩ := HPM.out
      obtain ⟨GS, pv, fv, rv, hM⟩ := hM0
      have hfree : Apart (fun i => κ i ≠ 0) A n := fun hn0 ad e => by have := HAP.out ad e hn0; intro hh; exact hh this
      have hyr : Bys wr wr.heap.size A n b := (HY.out.turn hT (Nat.le_refl _) hfree).more hT.size
      have hap2 : ∀ ad, A = some ad → 0 < n → κ' ad.block = 0 := fun ad e hn0 => by
        rcases Nat.eq_zero_or_pos (κ' ad.block) with q | q
        · exact q
        · obtain ⟨ad2, _, e2, hlt2, _⟩ := HY.out.at_ hn0
          obtain rfl : ad = ad2 := by rw [e] at e2; exact Option.some.inj e2
          rcases hK ad.block (by omega) with q1 | q1
          · exact absurd (HAP.out ad e hn0) q1
          · omega
      obtain ⟨ad, ch, had, _, hch, hcell⟩ := hyr.at_ hkn
      have c3 : wr.cell? ⟨G, 3, none⟩ = some (.bool s'.aw) := hM.blk.cell 3
      have c4 : wr.cell? ⟨G, 4, none⟩ = some (.string (strB s'.ln)) := hM.blk.cell 4
      have c5 : wr.cell? ⟨G, 5, none⟩ = some (.pointer pv) := hM.blk.cell 5
      have c6 : wr.cell? ⟨G, 6, none⟩ = some (.pointer fv) := hM.blk.cell 6
      have hfz := hM.blk.frozen
      have hlod := hM.lod
      obtain ⟨A2, hA2⟩ : ∃ A2, (if c = k then A else A.map (·.add k)) = A2 := ⟨_, rfl⟩
      obtain ⟨N2, hN2⟩ : ∃ N2, n - k = N2 := ⟨_, rfl⟩
      obtain ⟨C2, hC2⟩ : ∃ C2, c - k = C2 := ⟨_, rfl⟩
      have hsl := run_tailk A n c k (by omega) hnc
      have hon := run_onek A n c k ((k : Int) + 1) rfl (by omega)
      have hb2 : ∀ ad2, A2 = some ad2 → ad2.block = ad.block := fun ad2 e => by
        rw [← hA2, if_neg (by omega), had] at e
        have := Option.some.inj e
        rw [← this]
        exact ad_block _ _
      have hcut := hyr.cut (k := k) (cap := c) (by omega) hnc
      rw [hA2, hN2] at hcut
      rw [hA2, hN2, hC2] at hsl
      rw [hA2, hC2] at hon
      have hone : Bys wr wr.heap.size A2 1 [ch] := by
        have h1 := hcut.head (k := 1) (by omega)
        have h2 : (b.drop k).take 1 = [ch] := by
          obtain ⟨q1, q2⟩ := List.getElem?_eq_some_iff.1 hch
          rw [List.drop_eq_getElem_cons q1, q2]; rfl
        rw [h2] at h1
        exact h1
      have hfree2 : ∀ ad2, A2 = some ad2 → 0 < N2 → κ' ad2.block = 0 := fun ad2 e _ => by rw [hb2 ad2 e]; exact hap2 ad had (by omega)
      have hA3 : A2 = some (ad.add k) := by rw [← hA2, if_neg (by omega), had]; rfl
      clear hA2 hb2
      subst hA3
      cases hlds : s'.ld with
      | files bb =>
        have hnon : s'.ld ≠ .non := by rw [hlds]; simp
        rw [hlds] at hlod
        obtain ⟨rfl, GR, rfl, _⟩ := hlod
        have hfit : s'.ld.fit := ⟨C, B, hok.few, by omega, by omega⟩
        have HPU : Hid (∀ wx, Below wr.heap.size wr wx → Calls Tryz.prog 34 #[.pointer (some ⟨GR, 0, none⟩), .slice (some (ad.add k)) N2 C2] wx fun e w5 => ∃ A5 n5 c5 S5, e = .returned (.slice A5 n5 c5) ∧ (convert 31 9 (.slice A5 n5 c5)).run Tryz.prog w5 = .ok (.string S5) w5 ∧ (convert 31 9 (.slice A5 n5 c5)).run Tryz.prog w5.drew = .ok (.string S5) w5.drew ∧
            Hid (∀ wy, Below w5.heap.size w5 wy → Calls Tryz.prog 30 #[.pointer (some ⟨G, 0, none⟩), .string S5] wy fun e w6 => ∃ S6 R6, e = .returned (.string S6) ∧ (∀ w, (Op.stringOp .add (strB out) S6).run Tryz.prog w = .ok (.string R6) w) ∧ MPut w0 G κ p z1 z2 (feed20 p s b) w (.returned (.string R6)) w6)) := keepHid (fun wx hx => by
          have hMx := hM.below hx
          refine (show Calls Tryz.prog 34 #[ptV GR, .slice (some (ad.add k)) N2 C2] wx _ from mfiles_put HP.out hMx hfit (some (ad.add k)) N2 C2 (b.drop k) ((hcut.below hx).more hx.size) (by omega) hfree2).mono ?_
          rintro e w5 ⟨A5, c5, κ5, rfl, ho5, hm5, ht5, hk5⟩
          have hol5 := Lod.put_out p (b.drop k) s'.ld
          have hby5 := ho5.bys (by omega)
          refine ⟨A5, _, c5, strB (s'.ld.put p (b.drop k)).1, rfl, run_str (P := Tryz.prog) 31 5 9 Tryz.underlying31 Tryz.underlying5 Tryz.underlying9 hby5, run_str (P := Tryz.prog) 31 5 9 Tryz.underlying31 Tryz.underlying5 Tryz.underlying9 hby5.drew, keepHid (fun wy hy => ?_)⟩
          have hfew : ∃ C B, (s'.ld.put p (b.drop k)).2.few C B ∧ C ≤ 600000 := ⟨C + 1, _, Lod.few_put p (b.drop k) hok.few, by omega⟩
          refine (mafter_any (hm5.below hy) (put_isnon _ hnon) hok.ad hfew (s'.ld.put p (b.drop k)).1 (by omega)).mono ?_
          rintro e w6 ⟨rfl, hmo⟩
          have hlp : feed20 p s' (b.drop k) = lput20 p s' (b.drop k) := feed_load (by cases hld : s'.ld with | non => exact absurd hld hnon | one _ _ => rfl | files _ => rfl) _
          have hl8 := (lput_out p s' (b.drop k))
          refine ⟨_, strB (out ++ (lput20 p s' (b.drop k)).1), rfl, fun w => run_strAdd _ _ (by show out.length + (lput20 p s' (b.drop k)).1.length ≤ _; omega) w, ?_⟩
          unfold MPut
          rw [hfd, hlp]
          refine ⟨rfl, MOut.of hT hK (MOut.of ((Turn.of_below hx).trans (ht5.mono fun i hi => hi)) (fun i hi => ?_) (MOut.of (Turn.of_below hy) (fun i hi => .inl hi) hmo))⟩
          rcases hk5 i hi with q | q
          · exact .inl q
          · exact .inr (Nat.le_trans hx.size q))
        generalize strB out = SO at *
        clear hM hT hK hok hrp hfd hol hyr hfree hap2 hcell HPM
        go_upto_region 6 with fail
        go_region_with (first
          | (go_at_call 34; (with_reducible refine (HPU.out _ (by first | exact Below.refl _ _ | exact (Below.refl _ _).drew | exact below_drewN (Below.refl _ _) _)).mono ?_); rintro e w5 ⟨A5, n5, c5, S5, rfl, cv5, cv5d, HAF⟩)
          | (go_at_call 30; (with_reducible refine (HAF.out _ (by first | exact Below.refl _ _ | exact (Below.refl _ _).drew | exact below_drewN (Below.refl _ _) _)).mono ?_); rintro e w6 ⟨S6, R6, rfl, ad6, hp6⟩; have HP6 := keepHid hp6; clear hp6))
        all_goals
          go_wp2
          go_ret
          exact HP6.out
      | one crc rr =>
        have hnon : s'.ld ≠ .non := by rw [hlds]; simp
        rw [hlds] at hlod
        obtain ⟨rfl, GR, rfl, _⟩ := hlod
        have hfit : s'.ld.fit := ⟨C, B, hok.few, by omega, by omega⟩
        have HPU : Hid (∀ wx, Below wr.heap.size wr wx → Calls Tryz.prog 35 #[.pointer (some ⟨GR, 0, none⟩), .slice (some (ad.add k)) N2 C2] wx fun e w5 => ∃ A5 n5 c5 S5, e = .returned (.slice A5 n5 c5) ∧ (convert 31 9 (.slice A5 n5 c5)).run Tryz.prog w5 = .ok (.string S5) w5 ∧ (convert 31 9 (.slice A5 n5 c5)).run Tryz.prog w5.drew = .ok (.string S5) w5.drew ∧
            Hid (∀ wy, Below w5.heap.size w5 wy → Calls Tryz.prog 30 #[.pointer (some ⟨G, 0, none⟩), .string S5] wy fun e w6 => ∃ S6 R6, e = .returned (.string S6) ∧ (∀ w, (Op.stringOp .add (strB out) S6).run Tryz.prog w = .ok (.string R6) w) ∧ MPut w0 G κ p z1 z2 (feed20 p s b) w (.returned (.string R6)) w6)) := keepHid (fun wx hx => by
          have hMx := hM.below hx
          refine (show Calls Tryz.prog 35 #[ptV GR, .slice (some (ad.add k)) N2 C2] wx _ from mone_put hMx hfit (some (ad.add k)) N2 C2 (b.drop k) ((hcut.below hx).more hx.size) (by omega) hfree2).mono ?_
          rintro e w5 ⟨A5, c5, κ5, rfl, ho5, hm5, ht5, hk5⟩
          have hol5 := Lod.put_out p (b.drop k) s'.ld
          have hby5 := ho5.bys (by omega)
          refine ⟨A5, _, c5, strB (s'.ld.put p (b.drop k)).1, rfl, run_str (P := Tryz.prog) 31 5 9 Tryz.underlying31 Tryz.underlying5 Tryz.underlying9 hby5, run_str (P := Tryz.prog) 31 5 9 Tryz.underlying31 Tryz.underlying5 Tryz.underlying9 hby5.drew, keepHid (fun wy hy => ?_)⟩
          have hfew : ∃ C B, (s'.ld.put p (b.drop k)).2.few C B ∧ C ≤ 600000 := ⟨C + 1, _, Lod.few_put p (b.drop k) hok.few, by omega⟩
          refine (mafter_any (hm5.below hy) (put_isnon _ hnon) hok.ad hfew (s'.ld.put p (b.drop k)).1 (by omega)).mono ?_
          rintro e w6 ⟨rfl, hmo⟩
          have hlp : feed20 p s' (b.drop k) = lput20 p s' (b.drop k) := feed_load (by cases hld : s'.ld with | non => exact absurd hld hnon | one _ _ => rfl | files _ => rfl) _
          have hl8 := (lput_out p s' (b.drop k))
          refine ⟨_, strB (out ++ (lput20 p s' (b.drop k)).1), rfl, fun w => run_strAdd _ _ (by show out.length + (lput20 p s' (b.drop k)).1.length ≤ _; omega) w, ?_⟩
          unfold MPut
          rw [hfd, hlp]
          refine ⟨rfl, MOut.of hT hK (MOut.of ((Turn.of_below hx).trans (ht5.mono fun i hi => hi)) (fun i hi => ?_) (MOut.of (Turn.of_below hy) (fun i hi => .inl hi) hmo))⟩
          rcases hk5 i hi with q | q
          · exact .inl q
          · exact .inr (Nat.le_trans hx.size q))
        generalize strB out = SO at *
        clear hM hT hK hok hrp hfd hol hyr hfree hap2 hcell HPM
        go_upto_region 8 with fail
        go_region_with (first
          | (go_at_call 35; (with_reducible refine (HPU.out _ (by first | exact Below.refl _ _ | exact (Below.refl _ _).drew | exact below_drewN (Below.refl _ _) _)).mono ?_); rintro e w5 ⟨A5, n5, c5, S5, rfl, cv5, cv5d, HAF⟩)
          | (go_at_call 30; (with_reducible refine (HAF.out _ (by first | exact Below.refl _ _ | exact (Below.refl _ _).drew | exact below_drewN (Below.refl _ _) _)).mono ?_); rintro e w6 ⟨S6, R6, rfl, ad6, hp6⟩; have HP6 := keepHid hp6; clear hp6))
        all_goals
          go_wp2
          go_ret
          exact HP6.out
      | non =>
        rw [hlds] at hlod
        obtain ⟨rfl, rfl⟩ := hlod
        have hln := hok.ln
        subst had
        have HST : Hid (∀ w5, MOut w0 G κ' p z1 z2 (take20 p s' ch).2 wr w5 → PutM w0 w G κ p z1 z2 s b C B (k + 1) (out ++ (take20 p s' ch).1) w5) := keepHid (fun w5 hm => PutM.step hT hK hok hrp hfd hol hlds hch hm)
        have hadd : ∀ t : List UInt8, t.length ≤ 64 → ∀ w, (Op.stringOp .add (strB out) (strB t)).run Tryz.prog w = .ok (.string (strB (out ++ t))) w := fun t ht w => run_strAdd _ _ (by omega) w
        have HM := keepHid hM
        clear hyr hap2 hcut hfree2 hsl hfree hC2 hN2
        cases haw : s'.aw with
        | false =>
          rw [haw] at c3
          have e1 := hadd readyL (by simp [readyL])
          obtain ⟨w5, hw5⟩ : ∃ w5, wr.setCell ⟨G, 3, none⟩ (.bool true) = w5 := ⟨_, rfl⟩
          have HNX : Hid (PutM w0 w G κ p z1 z2 s b C B (k + 1) (out ++ readyL) w5) := keepHid (by
            have h1 := HST.out w5
            rw [take_asleep haw] at h1
            refine h1 ⟨κ', ⟨GS, none, none, rv, ?_⟩, ?_, fun i hi => .inl hi⟩
            · exact HM.out.own (by rw [← hw5]; exact turnAt _ _ (Turn.refl _ wr)) (by rw [← hw5]; exact HM.out.blk.put 3 _) rfl rfl rfl
            · exact HM.out.turnG (by rw [← hw5]; exact turnAt _ _ (Turn.refl _ wr)))
          have e2 : ∀ w, (Op.stringOp .add (strB out) ⟨#[13, 10, 61, 62, 32]⟩).run Tryz.prog w = .ok (.string (strB (out ++ readyL))) w := e1
          generalize hR1 : strB (out ++ readyL) = R1 at *
          generalize strB out = SO at *
          generalize strB s'.ln = SL at *
          have HR1 := keepHid hR1
          clear hM hT hK hok hrp hfd hol hone hon haw hlds hadd e1 hcell HST HPM hR1
          go_wp2_with fail
          try rw [hw5]
          go_roundw
          case rel => exact ⟨k + 1, _, by rw [HR1.out], by go_num, by omega, HNX⟩
          case measure => simp [intOf]; omega
        | true =>
          rw [haw] at c3
          by_cases hcr : ch = 13
          · subst hcr
            rw [show (((13 : UInt8).toNat : Nat) : Int) = 13 from rfl] at hcell
            obtain ⟨w5, hw5⟩ : ∃ w5, wr.setCell ⟨G, 4, none⟩ (.string ⟨#[]⟩) = w5 := ⟨_, rfl⟩
            have ht5 : Turn (fun i => i = G) wr w5 := by rw [← hw5]; exact turnAt _ _ (Turn.refl _ wr)
            have hm5 : MdlM w0 w5 G κ' p z1 z2 GS none none rv { s' with ln := [] } := hM.own ht5 (by rw [← hw5]; exact hM.blk.put 4 _) rfl rfl rfl
            have hexl := (exec_out p { s' with ln := [] } s'.ln).1
            have HDO : Hid (Calls Tryz.prog 36 #[.pointer (some ⟨G, 0, none⟩), .string (strB s'.ln)] w5 fun e w6 => e = .returned (.string (strB (exec20 p { s' with ln := [] } s'.ln).1)) ∧ PutM w0 w G κ p z1 z2 s b C B (k + 1) (out ++ (exec20 p { s' with ln := [] } s'.ln).1) w6) := keepHid (by
              refine (show Calls Tryz.prog 36 #[ptV G, .string (strB s'.ln)] w5 _ from mdoes_any hm5 hlds s'.ln hln (by show s'.rp.length ≤ _; omega)).mono ?_
              rintro e w6 ⟨rfl, hmo⟩
              have h1 := HST.out w6
              rw [take_cr haw] at h1
              exact ⟨rfl, h1 (MOut.of (hM.turnG ht5) (fun i hi => .inl hi) hmo)⟩)
            have e1 := hadd (exec20 p { s' with ln := [] } s'.ln).1 (by omega)
            generalize hR1 : out ++ (exec20 p { s' with ln := [] } s'.ln).1 = R1 at *
            generalize strB (exec20 p { s' with ln := [] } s'.ln).1 = SE at *
            generalize strB s'.ln = SL at *
            generalize hR2 : strB R1 = R2 at *
            generalize strB out = SO at *
            have HR2 := keepHid hR2
            clear hM hT hK hok hrp hfd hol hone hon haw hlds hadd hexl hm5 ht5 HST HPM hR1 hR2
            go_wp2_with fail
            try rw [hw5]
            with_reducible refine HDO.out.mono ?_
            rintro e w6 ⟨rfl, hpm⟩
            have HNX := keepHid hpm
            clear hpm HDO hw5 c3 c4 c5 c6 hfz hcell
            go_wp2_with fail
            go_roundw
            case rel => exact ⟨k + 1, R1, by rw [HR2.out], by go_num, by omega, HNX⟩
            case measure => simp [intOf]; omega
          · have hq : ((ch.toNat : Int) == 13) = false := by simpa using u8_ne (c := ch) (d := 13) hcr
            have hq2 : ¬ (ch.toNat : Int) = 13 := by simpa using hq
            have hsz : (strB s'.ln).size = s'.ln.length := strB_size _
            by_cases hl80 : s'.ln.length < 80
            · have hl80I : (s'.ln.length : Int) < 80 := by omega
              have hcv : ∀ wx, Below wr.heap.size wr wx → (convert 31 9 (.slice (some (ad.add k)) 1 C2)).run Tryz.prog wx = .ok (.string (strB [ch])) wx := fun wx hx => run_str (P := Tryz.prog) 31 5 9 Tryz.underlying31 Tryz.underlying5 Tryz.underlying9 (hone.below hx)
              have cv0 := hcv wr (Below.refl _ _)
              have cv1 := hcv wr.drew (Below.refl _ _).drew
              have hla : ∀ w, (Op.stringOp .add (strB s'.ln) (strB [ch])).run Tryz.prog w = .ok (.string (strB (s'.ln ++ [ch]))) w := fun w => run_strAdd _ _ (by simp only [List.length_cons, List.length_nil]; omega) w
              have HFIN : Hid (∀ wx, Below wr.heap.size wr wx → ∀ w5, wx.setCell ⟨G, 4, none⟩ (.string (strB (s'.ln ++ [ch]))) = w5 → PutM w0 w G κ p z1 z2 s b C B (k + 1) out w5) := keepHid (fun wx hx w5 h5 => by
                have h1 := HST.out w5
                rw [take_byte haw hcr hl80] at h1
                have hmx := HM.out.below hx
                have ht5 : Turn (fun i => i = G) wx w5 := by rw [← h5]; exact turnAt _ _ (Turn.refl _ wx)
                have h2 := h1 ⟨κ', ⟨GS, none, none, rv, hmx.own ht5 (by rw [← h5]; exact hmx.blk.put 4 _) rfl rfl rfl⟩, (Turn.of_below hx).trans (HM.out.turnG ht5), fun i hi => .inl hi⟩
                rw [List.append_nil] at h2
                exact h2)
              generalize hL1 : strB (s'.ln ++ [ch]) = L1 at *
              generalize strB s'.ln = SL at *
              generalize strB [ch] = SC at *
              generalize hSO : strB out = SO at *
              have HSO := keepHid hSO
              generalize (ch.toNat : Int) = cv at *
              generalize s'.ln.length = ll at *
              clear hM hT hK hok hrp hfd hol hone haw hlds hadd HST HPM hL1 hSO hcv hcr
              go_upto_region 17 with fail
              go_region
              all_goals
                obtain ⟨w5, hw5⟩ : ∃ w5, wr.setCell ⟨G, 4, none⟩ (.string L1) = w5 := ⟨_, rfl⟩
                have HNX := keepHid (HFIN.out wr (Below.refl _ _) w5 hw5).drew
                clear HFIN c3 c4 c5 c6 hfz hcell
                try rw [hw5]
                clear hw5
                go_wp2
                go_roundw
                case rel => exact ⟨k + 1, out, by rw [HSO.out], by go_num, by omega, HNX⟩
                case measure => simp [intOf]; omega
            · have hl80I : ¬ (s'.ln.length : Int) < 80 := by omega
              have HNX : Hid (PutM w0 w G κ p z1 z2 s b C B (k + 1) out wr) := keepHid (by
                have h1 := HST.out wr
                rw [take_lost haw hcr hl80] at h1
                have h2 := h1 (MOut.same ⟨_, _, _, _, HM.out⟩ (Below.refl _ _))
                rw [List.append_nil] at h2
                exact h2)
              generalize strB s'.ln = SL at *
              generalize hSO : strB out = SO at *
              have HSO := keepHid hSO
              generalize (ch.toNat : Int) = cv at *
              generalize s'.ln.length = ll at *
              clear hM hT hK hok hrp hfd hol hone hon haw hlds hadd HST HPM hSO hcr
              go_wp2_with fail
              go_roundw
              case rel => exact ⟨k + 1, out, by rw [HSO.out], by go_num, by omega, HNX⟩
              case measure => simp [intOf]; omega
    · obtain rfl : k = n := by omega
      have HR : Hid (MPut w0 G κ p z1 z2 (feed20 p s b) w (.returned (.string (strB out))) wr) := keepHid (by
        obtain ⟨κ', s', hM0, hT, hK, hok, hrp, hfd, hol⟩ := HPM.out
        exact PutM.last hM0 hT hK hok hfd HY.out.len)
      generalize strB out = SO at *
      clear HPM
      go_wp2
      go_ret
      exact HR.out
end


theorem mloads_any {w0 w : World} {G : Nat} {κ : Nat → Nat} {p : BP Fl} {z1 z2 : Int} {s : Bd} (h : Mdl w0 w G κ p z1 z2 s) :
    Calls Tryz.prog 28 #[ptV G] w fun e w' => e = .returned (.bool (!s.ld.isNon)) ∧ w = w' := by
  obtain ⟨GS, pv, fv, rv, h⟩ := h
  have c5 : w.cell? ⟨G, 5, none⟩ = some (.pointer pv) := h.blk.cell 5
  have c6 : w.cell? ⟨G, 6, none⟩ = some (.pointer fv) := h.blk.cell 6
  have hl := h.lod
  clear h
  unfold ptV at *
  cases hs : s.ld with
  | non =>
    rw [hs] at hl
    obtain ⟨rfl, rfl⟩ := hl
    go_enter Tryz.func28, Tryz.ntmps28
    go_wp2
    go_ret
    exact ⟨rfl, rfl⟩
  | one crc r =>
    rw [hs] at hl
    obtain ⟨rfl, GR, rfl, _⟩ := hl
    go_enter Tryz.func28, Tryz.ntmps28
    go_wp2
    go_ret
    exact ⟨rfl, rfl⟩
  | files b =>
    rw [hs] at hl
    obtain ⟨rfl, GR, rfl, _⟩ := hl
    go_enter Tryz.func28, Tryz.ntmps28
    go_wp2
    go_ret
    exact ⟨rfl, rfl⟩
def NewMPost (w0 : World) (p : BP Fl) (z1 z2 : Int) (w : World) (e : Ending) (w' : World) : Prop :=
  ∃ G κ, e = .returned (ptV G) ∧ Mdl w0 w' G κ p z1 z2 new20 ∧ Below w.heap.size w w' ∧ ∀ i, κ i ≠ 0 → w.heap.size ≤ i
attribute [local irreducible] zrow
set_option maxRecDepth 100000 in
set_option maxHeartbeats 4000000 in
theorem newm_any {w0 w : World} {p : BP Fl} {z1 z2 : Int} (h : Stan w0 w p z1 z2) :
    Calls Tryz.prog 11 #[.agg #[.int .i64 z1, .int .i64 z2]] w (NewMPost w0 p z1 z2 w) := by
  obtain ⟨w1, hw1⟩ : ∃ w1, w.alloc (.cells #[.int .i64 z1, .int .i64 z2] 23) = w1 := ⟨_, rfl⟩
  obtain ⟨w2, hw2⟩ : ∃ w2, w1.alloc (.cells (zrow 16384) 75) = w2 := ⟨_, rfl⟩
  obtain ⟨w3, hw3⟩ : ∃ w3, w2.alloc (.cells (mdlC w1.heap.size z1 z2 false [] none none 0 (.slice none 0 0)) 79) = w3 := ⟨_, rfl⟩
  have s1 : w1.heap.size = w.heap.size + 1 := by rw [← hw1]; simp
  have s2 : w2.heap.size = w1.heap.size + 1 := by rw [← hw2]; simp
  have s3 : w3.heap.size = w2.heap.size + 1 := by rw [← hw3]; simp
  have b1 : Below w.heap.size w w1 := by rw [← hw1]; exact (Below.refl _ _).alloc (Nat.le_refl _) _
  have b2 : Below w.heap.size w w2 := by rw [← hw2]; exact b1.alloc (by omega) _
  have b3 : Below w.heap.size w w3 := by rw [← hw3]; exact b2.alloc (by omega) _
  have k2 : Sto w2 w1.heap.size (zeros 16384) := by rw [← hw2]; exact sto_new w1 _ rfl _ rfl
  have k3 : Sto w3 w1.heap.size (zeros 16384) := by rw [← hw3]; exact k2.alloc _
  have d0 : w1.cell? ⟨w.heap.size, 0, none⟩ = some (.int .i64 z1) := by rw [← hw1]; exact (Blk.new w 23 #[.int .i64 z1, .int .i64 z2]).cell 0
  have d1 : w1.cell? ⟨w.heap.size, 1, none⟩ = some (.int .i64 z2) := by rw [← hw1]; exact (Blk.new w 23 #[.int .i64 z1, .int .i64 z2]).cell 1
  have e0 : w2.cell? ⟨w.heap.size, 0, none⟩ = some (.int .i64 z1) := by
    have hb : Below w1.heap.size w1 w2 := by rw [← hw2]; exact (Below.refl _ _).alloc (Nat.le_refl _) _
    exact (hb.cell (show _ < w1.heap.size by show w.heap.size < _; omega)).trans d0
  have e1 : w2.cell? ⟨w.heap.size, 1, none⟩ = some (.int .i64 z2) := by
    have hb : Below w1.heap.size w1 w2 := by rw [← hw2]; exact (Below.refl _ _).alloc (Nat.le_refl _) _
    exact (hb.cell (show _ < w1.heap.size by show w.heap.size < _; omega)).trans d1
  have HP : Hid (NewMPost w0 p z1 z2 w (.returned (ptV w2.heap.size)) w3) := keepHid (by
    have hbe := h.bel.size
    refine ⟨w2.heap.size, fun i => if i = w2.heap.size then 1 else if i = w1.heap.size then 2 else 0, rfl, ⟨w1.heap.size, none, none, _, ⟨by rw [← hw3]; exact Blk.new w2 _ _, by simp, ?_, k3, ⟨OwnR.nil _ _, fun i hi => by simp [Value.ownBlock] at hi, fun _ => rfl⟩, ⟨rfl, rfl⟩, fun i hi => ?_, h.below b3⟩⟩, b3, fun i hi => ?_⟩
    · show (if w1.heap.size = w2.heap.size then 1 else if w1.heap.size = w1.heap.size then 2 else 0) = 2
      rw [if_neg (by omega), if_pos rfl]
    · have hi : (if i = w2.heap.size then 1 else if i = w1.heap.size then 2 else 0) ≠ 0 := hi
      split at hi
      · omega
      · split at hi
        · omega
        · exact absurd rfl hi
    · have hi : (if i = w2.heap.size then 1 else if i = w1.heap.size then 2 else 0) ≠ 0 := hi
      split at hi
      · omega
      · split at hi
        · omega
        · exact absurd rfl hi)
  have hz : ∀ w : World, (zeroValue 75).run Tryz.prog w = .ok (.agg (zrow 16384)) w := zero_run
  clear b1 b2 b3 k2 k3 d0 d1 h s2 s3
  have HW1 := keepHid hw1
  have HW2 := keepHid hw2
  have HW3 := keepHid hw3
  have hsb : strB [] = ⟨#[]⟩ := rfl
  unfold mdlC ptV at hw3
  rw [s1, hsb] at hw3
  go_enter Tryz.func11, Tryz.ntmps11
  go_wp2
  go_ret
  have hq := HP.out
  rw [← HW3.out] at hq
  unfold mdlC ptV at hq
  rw [s1, hsb] at hq
  exact hq


theorem neq_rp (a n q : Nat) (W : World) : (binOp .neq 54 (.agg #[.int .i64 (a : Int), .int .i64 (n : Int), .int .u32 (q : Int)]) (.agg #[.int .i64 (a : Int), .int .i64 (n : Int), .int .u32 (q : Int)])).run Tryz.prog W = .ok (.bool false) W := by
  rw [run_neq_struct, run_equalIn_agg W 9999 54 _ _ (by kernel_rfl) (by kernel_rfl)]
  go_simp
set_option maxRecDepth 100000 in
set_option maxHeartbeats 8000000 in
theorem agrees_any {w0 w : World} {Gt Gm : Nat} {κt κm : Nat → Nat} {p : BP Fl} {z1 z2 : Int} {s : Bd} (ht : Tgt w0 w Gt κt p z1 z2 s) (hm : Mdl w0 w Gm κm p z1 z2 s) (hrp : s.rp.length ≤ 1000000000) :
    Calls Tryz.prog 12 #[ptV Gm, ptV Gt] w fun e w' => e = .returned (.bool true) ∧ Below w.heap.size w w' := by
  have HT := keepHid ht
  have HM := keepHid hm
  have HR := keepHid (replies_any ht (by omega))
  obtain ⟨N, hN⟩ : ∃ N, s.rp.length = N := ⟨_, rfl⟩
  have HN := keepHid hN
  unfold RpsPost at HR
  rw [hN] at HR hrp
  have HLT := keepHid (fun wx (hx : Below w.heap.size w wx) => loads_any (ht.below hx))
  have HLM := keepHid (fun wx (hx : Below w.heap.size w wx) => mloads_any (hm.below hx))
  obtain ⟨lb, hlb⟩ : ∃ lb, (!s.ld.isNon) = lb := ⟨_, rfl⟩
  rw [hlb] at HLT HLM
  have hbb : (lb != lb) = false := by simp
  obtain ⟨GSm, pv, fv, rv, hmm⟩ := hm
  obtain ⟨GSt, lv, iv, rvt, htt⟩ := ht
  obtain ⟨A8, c8, hrv⟩ : ∃ A c, rv = .slice A N c := by
    rcases hmm.reps.own.2 with ⟨e, e2⟩ | ⟨g, cap, cur, e, _⟩
    · exact ⟨none, 0, by rw [e, ← hN, e2]⟩
    · exact ⟨_, cap, by rw [e, hN]⟩
  subst hrv
  have HC8 : Hid (∀ wx, Below w.heap.size w wx → wx.cell? ⟨Gm, 8, none⟩ = some (.slice A8 N c8) ∧ ∀ (j : Nat) (r : Rp), s.rp[j]? = some r → ∃ ad, A8 = some ad ∧ wx.cell? (ad.add (j * 3)) = some (.int .i64 (r.1 : Int)) ∧ wx.cell? ⟨(ad.add (j * 3)).block, (ad.add (j * 3)).off + 1, none⟩ = some (.int .i64 (r.2.1 : Int)) ∧ wx.cell? ⟨(ad.add (j * 3)).block, (ad.add (j * 3)).off + 2, none⟩ = some (.int .u32 (r.2.2 : Int))) := keepHid (fun wx hx => ⟨(hmm.below hx).blk.cell 8, fun j r hr => by
    have ho := (hmm.below hx).reps.own
    rw [HN.out] at ho
    exact ho.at_ hr⟩)
  have HST : Hid (∀ wx, Below w.heap.size w wx → wx.cell? ⟨Gt, 0, none⟩ = some (.pointer (some ⟨GSt, 0, none⟩)) ∧ wx.cell? ⟨Gm, 0, none⟩ = some (.pointer (some ⟨GSm, 0, none⟩)) ∧ Sto wx GSt s.st ∧ Sto wx GSm s.st) := keepHid (fun wx hx => ⟨(htt.below hx).blk.cell 0, (hmm.below hx).blk.cell 0, (htt.below hx).sto, (hmm.below hx).sto⟩)
  clear hmm htt hN hlb
  unfold ptV at *
  go_enter Tryz.func12, Tryz.ntmps12
  go_wp2_with fail
  with_reducible refine HR.out.mono ?_
  rintro e w1 ⟨A1, c1, rfl, ho1, hb1⟩
  have HB1 := keepHid hb1
  have HO1 := keepHid ho1
  have HLT1 := keepHid (HLT.out w1 hb1)
  have HLM1 := keepHid (HLM.out w1 hb1)
  have q8 := (HC8.out w1 hb1).1
  clear hb1 ho1 HR HLT HLM HT HM
  go_wp2_with fail
  with_reducible refine HLT1.out.mono ?_
  rintro e w2 ⟨rfl, rfl⟩
  go_wp2_with fail
  with_reducible refine HLM1.out.mono ?_
  rintro e w2 ⟨rfl, rfl⟩
  clear HLT1 HLM1
  have HBR := keepHid (Below.refl w1.heap.size w1)
  go_wp2_with fail
  go_loopw [30] (fun vk wx => ∃ (k : Nat), k ≤ N ∧ vk = .int .i64 (k : Int) ∧ Hid (Below w1.heap.size w1 wx)) (fun vk _ => N - (intOf vk).toNat)
  case atStart => exact ⟨0, Nat.zero_le _, rfl, HBR⟩
  case round =>
    clear HBR q8
    obtain ⟨k, hk, rfl, HBR⟩ := hrel
    by_cases hkN : k < N
    · have hkI : (k : Int) < (N : Int) := by omega
      obtain ⟨r, hr⟩ : ∃ r, s.rp[k]? = some r := ⟨_, List.getElem?_eq_getElem (by rw [HN.out]; exact hkN)⟩
      have hbw := HB1.out.trans (HBR.out.mono HB1.out.size)
      obtain ⟨q8, qat⟩ := HC8.out wr hbw
      obtain ⟨ad8, rfl, q0, q1, q2⟩ := qat k r hr
      have ho : OwnR wr w.heap.size (.slice A1 N c1) N s.rp := by
        exact HO1.out.keep fun i hi hlt => HBR.out.block i hlt
      obtain ⟨ad1, rfl, p0, p1, p2⟩ := ho.at_ hr
      have hnq := neq_rp r.1 r.2.1 r.2.2
      generalize (r.1 : Int) = r1 at *
      generalize (r.2.1 : Int) = r2 at *
      generalize (r.2.2 : Int) = r3 at *
      clear qat hr ho hbw
      go_upto_region 7 with fail
      go_quiet (fail)
      rename_i nq
      generalize hwq : wr.drewN nq = wq at *
      have hbq : Below wr.heap.size wr wq := by rw [← hwq]; exact below_drewN (Below.refl _ _) _
      have HBQ := keepHid (HBR.out.trans (hbq.mono HBR.out.size))
      clear hwq hbq q0 q1 q2 p0 p1 p2 q8
      go_wp2
      go_roundw
      case rel => exact ⟨k + 1, by omega, by go_num, HBQ⟩
      case measure => simp [intOf]; omega
    · obtain rfl : k = N := by omega
      have hbw := HB1.out.trans (HBR.out.mono HB1.out.size)
      obtain ⟨t0, m0, st0, sm0⟩ := HST.out wr hbw
      have HR1 := keepHid (sread_z GSt s.st 0 16384 0 16384 rfl rfl wr st0 (by omega))
      have HBW := keepHid hbw
      have hgl : (getL s.st 0 16384).length = 16384 := getL_len (by rw [st0.len]; omega)
      have HGL := keepHid hgl
      clear hbw st0 sm0 hgl HBR HC8
      go_wp2_with fail
      with_reducible refine HR1.out.mono ?_
      rintro e w5 ⟨rfl, hk5, hb5⟩
      have hbw5 := HBW.out.trans (hb5.mono HBW.out.size)
      obtain ⟨t05, m05, _, sm5⟩ := HST.out w5 hbw5
      have HR2 := keepHid (sread_z GSm s.st 0 16384 0 16384 rfl rfl w5 sm5 (by omega))
      have HY5 := keepHid ((bys_blk hk5 HGL.out (by omega)).more hk5.lt)
      obtain ⟨g5, hg5⟩ : ∃ g, wr.heap.size = g := ⟨_, rfl⟩
      rw [hg5] at HY5 ⊢
      have HB5 := keepHid hbw5
      clear hk5 hb5 hbw5 sm5 HR1 t0 m0 HBW hg5
      go_wp2_with fail
      with_reducible refine HR2.out.mono ?_
      rintro e w6 ⟨rfl, hk6, hb6⟩
      have hcv1 := run_str (P := Tryz.prog) (w := w6) (c := 16384) 31 5 9 Tryz.underlying31 Tryz.underlying5 Tryz.underlying9 (HY5.out.below hb6)
      have hcv2 := run_str (P := Tryz.prog) (w := w6) (c := 16384) 31 5 9 Tryz.underlying31 Tryz.underlying5 Tryz.underlying9 ((bys_blk hk6 HGL.out (by omega)).more hk6.lt)
      have hqq : ((strB (getL s.st 0 16384)).toList == (strB (getL s.st 0 16384)).toList) = true := by simp
      have HB6 := keepHid (HB5.out.trans (hb6.mono HB5.out.size))
      obtain ⟨g6, hg6⟩ : ∃ g, w5.heap.size = g := ⟨_, rfl⟩
      rw [hg6] at hcv2 ⊢
      generalize strB (getL s.st 0 16384) = SG at *
      clear hk6 hb6 HR2 t05 m05 hg6 HY5 HGL
      go_wp2
      go_ret
      exact ⟨rfl, HB6.out⟩

/-! ### Both boards, side by side -/
def Both (w0 w : World) (Gt Gm : Nat) (p : BP Fl) (z1 z2 : Int) (C T : Nat) (s : Bd) : Prop :=
  ∃ κt κm, Tgt w0 w Gt κt p z1 z2 s ∧ Mdl w0 w Gm κm p z1 z2 s ∧ (∀ i, κt i ≠ 0 → κm i = 0) ∧ Ok20 C T s ∧ s.rp.length ≤ T
section
variable {w0 w1 w : World} {Gt Gm : Nat} {p : BP Fl} {z1 z2 : Int} {C T : Nat} {s : Bd}
theorem Both.below (h : Both w0 w1 Gt Gm p z1 z2 C T s) (hb : Below w1.heap.size w1 w) : Both w0 w Gt Gm p z1 z2 C T s := by
  obtain ⟨κt, κm, h1, h2, h3, h4, h5⟩ := h
  exact ⟨κt, κm, h1.below hb, h2.below hb, h3, h4, h5⟩
theorem Both.mono {C' T' : Nat} (h : Both w0 w1 Gt Gm p z1 z2 C T s) (hC : C ≤ C') (hT : T ≤ T') : Both w0 w1 Gt Gm p z1 z2 C' T' s := by
  obtain ⟨κt, κm, h1, h2, h3, h4, h5⟩ := h
  exact ⟨κt, κm, h1, h2, h3, h4.mono hC hT, Nat.le_trans h5 hT⟩
theorem Both.bel (h : Both w0 w1 Gt Gm p z1 z2 C T s) : Below w0.heap.size w0 w1 := by
  obtain ⟨κt, κm, h1, h2, h3, h4, h5⟩ := h
  exact h1.base.bel
theorem Both.supw (h : Both w0 w1 Gt Gm p z1 z2 C T s) : Sup w1 := by
  obtain ⟨κt, κm, h1, h2, h3, h4, h5⟩ := h
  exact h1.base.supw
theorem both_agrees (h : Both w0 w1 Gt Gm p z1 z2 C T s) (hT : T ≤ 1000000000) :
    Calls Tryz.prog 12 #[.pointer (some ⟨Gm, 0, none⟩), .pointer (some ⟨Gt, 0, none⟩)] w1 fun e w' => e = .returned (.bool true) ∧ Below w1.heap.size w1 w' := by
  obtain ⟨κt, κm, h1, h2, h3, h4, h5⟩ := h
  exact agrees_any h1 h2 (by omega)
theorem both_store (h : Both w0 w1 Gt Gm p z1 z2 C T s) : ∃ GS, w1.cell? ⟨Gt, 0, none⟩ = some (.pointer (some ⟨GS, 0, none⟩)) := by
  obtain ⟨κt, κm, ⟨GS, lv, iv, rv, h1⟩, h2, h3, h4, h5⟩ := h
  exact ⟨GS, h1.blk.cell 0⟩
/-- What a call of the one, then of the other, leaves. -/
def CvAt (A : Option Addr) (n c : Nat) (S : ByteArray) (w : World) : Prop := (convert 31 9 (.slice A n c)).run Tryz.prog w = .ok (.string S) w
theorem cvAt {w : World} {B n c : Nat} {A : Option Addr} {out : List UInt8} (h : OwnB w B 5 (.slice A n c) n out) (hn : n ≤ 9223372036854775807) : CvAt A n c (strB out) w ∧ CvAt A n c (strB out) w.drew :=
  ⟨run_str (P := Tryz.prog) 31 5 9 Tryz.underlying31 Tryz.underlying5 Tryz.underlying9 (h.bys hn), run_str (P := Tryz.prog) 31 5 9 Tryz.underlying31 Tryz.underlying5 Tryz.underlying9 (h.bys hn).drew⟩
theorem both_next {w w5 wy w6 : World} {κt κm κt' κm' : Nat → Nat} {s' : Bd} {C' T' : Nat} (h1 : Tgt w0 w Gt κt p z1 z2 s) (h2 : Mdl w0 w Gm κm p z1 z2 s) (h3 : ∀ i, κt i ≠ 0 → κm i = 0)
    (t1 : Tgt w0 w5 Gt κt' p z1 z2 s') (t2 : Turn (fun i => κt i ≠ 0) w w5) (t3 : ∀ i, κt' i ≠ 0 → κt i ≠ 0 ∨ w.heap.size ≤ i) (hy : Below w5.heap.size w5 wy) (m1 : Mdl w0 w6 Gm κm' p z1 z2 s') (m2 : Turn (fun i => κm i ≠ 0) wy w6) (m3 : ∀ i, κm' i ≠ 0 → κm i ≠ 0 ∨ wy.heap.size ≤ i)
    (hok : Ok20 C' T' s') (hrp : s'.rp.length ≤ T') : Both w0 w6 Gt Gm p z1 z2 C' T' s' := by
  have hd : ∀ i, κm i ≠ 0 → κt' i = 0 := fun i hi => by
    rcases Nat.eq_zero_or_pos (κt' i) with q | q
    · exact q
    · have hlt := (h2.lt i hi).2
      rcases t3 i (by omega) with q1 | q1
      · exact absurd (h3 i q1) hi
      · omega
  refine ⟨κt', κm', (t1.below hy).turns m2 fun i hi => ⟨hd i hi, (h2.lt i hi).1⟩, m1, fun i hi => ?_, hok, hrp⟩
  rcases Nat.eq_zero_or_pos (κm' i) with q | q
  · exact q
  · rcases m3 i (by omega) with q1 | q1
    · exact absurd (hd i q1) hi
    · have := (t1.lt i hi).2
      have := hy.size
      omega
theorem both_row {w w5 wy w6 : World} {κm : Nat → Nat} {A : Option Addr} {n c : Nat} {out : List UInt8} (h2 : Mdl w0 w Gm κm p z1 z2 s) (ho : OwnB w5 w.heap.size 5 (.slice A n c) n out) (hy : Below w5.heap.size w5 wy) (m2 : Turn (fun i => κm i ≠ 0) wy w6) : OwnB w6 w.heap.size 5 (.slice A n c) n out := by
  refine own_keep ho fun i hi hlt => (m2.block i (Nat.lt_of_lt_of_le hlt hy.size) (fun hh => ?_)).trans (hy.block i hlt)
  have := (h2.lt i hh).2
  have := (World.ownsRow.lt ho i hi).1
  omega
set_option maxRecDepth 100000 in
theorem both_tick (hp : Rdr p) (h : Both w0 w1 Gt Gm p z1 z2 C T s) (hb : Below w1.heap.size w1 w) (hC : C ≤ 400000) (hT : T ≤ 300000000) :
    Calls Tryz.prog 13 #[.pointer (some ⟨Gt, 0, none⟩)] w fun e w5 => ∃ A n c S L, e = .returned (.slice A n c) ∧ CvAt A n c S w5 ∧ CvAt A n c S w5.drew ∧ S.size = L ∧ L ≤ 100000000000 ∧
      Hid (∀ wy, Below w5.heap.size w5 wy → Calls Tryz.prog 14 #[.pointer (some ⟨Gm, 0, none⟩)] wy fun e w6 => e = .returned (.string S) ∧ CvAt A n c S w6 ∧ CvAt A n c S w6.drew ∧ Hid (∃ s', Both w0 w6 Gt Gm p z1 z2 C T s')) := by
  obtain ⟨κt, κm, h1, h2, h3, h4, h5⟩ := h.below hb
  have hfit : s.ld.fit := ⟨C, T, h4.few, by omega, by omega⟩
  refine (show Calls Tryz.prog 13 #[ptV Gt] w _ from ttick_any hp h1 hfit h4.ad).mono ?_
  rintro e w5 ⟨A, c, κt', rfl, ho, hnc, hcm, t1, t2, t3, t4⟩
  have hl8 := tick_le8 p s
  have hcv := cvAt ho (by omega)
  refine ⟨A, _, c, strB (tick20 p s).1, (tick20 p s).1.length, rfl, hcv.1, hcv.2, strB_size _, by omega, keepHid (fun wy hy => ?_)⟩
  have h2' := (h2.turns t2 fun i hi => ⟨h3 i hi, (h1.lt i hi).1⟩).below hy
  refine (show Calls Tryz.prog 14 #[ptV Gm] wy _ from mtick_any hp h2' hfit h4.ad).mono ?_
  rintro e w6 ⟨rfl, κm', m1, m2, m3⟩
  have hcv6 := cvAt (both_row h2 ho hy m2) (by omega)
  exact ⟨rfl, hcv6.1, hcv6.2, keepHid ⟨_, both_next h1 h2 h3 t1 t2 t3 hy m1 m2 m3 (tick_ok h4) (by rw [hl8.2]; exact h5)⟩⟩
set_option maxRecDepth 100000 in
theorem both_put (hp : Rdr p) (h : Both w0 w1 Gt Gm p z1 z2 C T s) (hb : Below w1.heap.size w1 w) (hC : C ≤ 300000) (hT : T ≤ 300000000) (B : Option Addr) (m d : Nat) (b : List UInt8) (hy0 : Bys w w.heap.size B m b) (hm : m ≤ d) (hd : d ≤ 9223372036854775807) (hM : m ≤ 100000000) (hap : ∀ ad, B = some ad → 0 < m → ad.block < w0.heap.size ∨ w1.heap.size ≤ ad.block) :
    Calls Tryz.prog 16 #[.pointer (some ⟨Gt, 0, none⟩), .slice B m d] w fun e w5 => ∃ A n c S L, e = .returned (.slice A n c) ∧ CvAt A n c S w5 ∧ CvAt A n c S w5.drew ∧ S.size = L ∧ L ≤ 100000000000 ∧
      Hid (∀ wy, Below w5.heap.size w5 wy → Calls Tryz.prog 17 #[.pointer (some ⟨Gm, 0, none⟩), .slice B m d] wy fun e w6 => e = .returned (.string S) ∧ CvAt A n c S w6 ∧ CvAt A n c S w6.drew ∧ Hid (∃ s', Both w0 w6 Gt Gm p z1 z2 (C + 1) (T + m) s')) := by
  obtain ⟨κt, κm, g1, g2, h3, h4, h5⟩ := h
  have h1 := g1.below hb
  have h2 := g2.below hb
  have hz : ∀ κ : Nat → Nat, (∀ i, κ i ≠ 0 → w0.heap.size ≤ i ∧ i < w1.heap.size) → ∀ ad, B = some ad → 0 < m → κ ad.block = 0 := fun κ hk ad e h0 => by
    rcases Nat.eq_zero_or_pos (κ ad.block) with q | q
    · exact q
    · have := hk ad.block (by omega)
      rcases hap ad e h0 with q1 | q1 <;> omega
  have zt := hz κt g1.lt
  have zm := hz κm g2.lt
  have hle := feed_le20 p b s
  rw [hy0.len] at hle
  refine (show Calls Tryz.prog 16 #[ptV Gt, .slice B m d] w _ from put_any20 hp h1 h4 (by omega) (by omega) B m d b hy0 (by omega) hm hd zt (by omega)).mono ?_
  rintro e w5 ⟨A, c, κt', rfl, ho, hnc, hcm, t1, t2, t3, t4⟩
  have hcv := cvAt ho (by omega)
  refine ⟨A, _, c, strB (feed20 p s b).1, (feed20 p s b).1.length, rfl, hcv.1, hcv.2, strB_size _, by omega, keepHid (fun wy hy => ?_)⟩
  have h2' := (h2.turns t2 fun i hi => ⟨h3 i hi, (h1.lt i hi).1⟩).below hy
  have hby : Bys wy wy.heap.size B m b := (((hy0.turn t2 (Nat.le_refl _) (fun h0 ad e hh => hh (zt ad e h0))).more t2.size).below hy).more hy.size
  refine (show Calls Tryz.prog 17 #[ptV Gm, .slice B m d] wy _ from mput_any hp h2' h4 (by omega) (by omega) B m d hby hm (by omega) zm (by omega)).mono ?_
  rintro e w6 ⟨rfl, κm', m1, m2, m3⟩
  have hcv6 := cvAt (both_row h2 ho hy m2) (by omega)
  have hok := feed_ok (p := p) b h4
  rw [hy0.len] at hok
  exact ⟨rfl, hcv6.1, hcv6.2, keepHid ⟨_, both_next h1 h2 h3 t1 t2 t3 hy m1 m2 m3 hok (by have := hle.2; omega)⟩⟩
/-- Both are made. -/
theorem both_new {w : World} (h : Stan w0 w p z1 z2) : Calls Tryz.prog 10 #[.agg #[.int .i64 z1, .int .i64 z2]] w fun e w5 => ∃ Gt, e = .returned (.pointer (some ⟨Gt, 0, none⟩)) ∧ Below w.heap.size w w5 ∧
    Hid (∀ wy, Below w5.heap.size w5 wy → Calls Tryz.prog 11 #[.agg #[.int .i64 z1, .int .i64 z2]] wy fun e w6 => ∃ Gm, e = .returned (.pointer (some ⟨Gm, 0, none⟩)) ∧ Hid (∃ s', Both w0 w6 Gt Gm p z1 z2 0 0 s')) := by
  refine (of_any20 h).mono ?_
  rintro e w5 ⟨Gt, κt, rfl, t1, hb, t2⟩
  refine ⟨Gt, rfl, hb, keepHid (fun wy hy => ?_)⟩
  refine (newm_any ((h.below hb).below hy)).mono ?_
  rintro e w6 ⟨Gm, κm, rfl, m1, hb6, m2⟩
  refine ⟨Gm, rfl, keepHid ⟨new20, κt, κm, (t1.below hy).below hb6, m1, fun i hi => ?_, new_ok, Nat.zero_le _⟩⟩
  rcases Nat.eq_zero_or_pos (κm i) with q | q
  · exact q
  · have q1 := m2 i (by omega)
    have q2 := (t1.lt i hi).2
    have := hy.size
    omega
end
end Go.Proofs.YtonloefjhofeeaaGreatDoor
