/-
  Two rows of a call's own that grow side by side: texts, and the nodes of their patterns.
-/
import Derived.Test.YtgidoieppplhpaaDoorExpectBuilt
import Derived.Test.YtgidoieppplhpaaDoorRegexClone
namespace Go.Proofs.YtgidoieppplhpaaDoor
open Go.RowKit
set_option linter.unusedVariables false

/-- A row of texts (V1), and one of nodes (V2), of the call's own; no node's kids lie in either. -/
structure Rw (w : World) (L : Nat) (V1 : Value) (ss : List (List UInt8)) (V2 : Value) (hs : List Hd) (rs : List Re) : Prop where
  own1 : w.ownsRow L 9 1 V1 ss.length (ss.map strV)
  own2 : w.ownsRow L 32 6 V2 hs.length (hs.flatMap hdL)
  tree : ∀ (k : Nat) (r : Re), rs[k]? = some r → ∃ h, hs[k]? = some h ∧ IsS w (fun b => V1.ownBlock ≠ some b ∧ V2.ownBlock ≠ some b) h r
  base : L ≤ w.heap.size
namespace Rw
variable {w w' : World} {L : Nat} {V1 V2 : Value} {ss : List (List UInt8)} {hs : List Hd} {rs : List Re}
theorem nil (h : L ≤ w.heap.size) : Rw w L (.slice none 0 0) [] (.slice none 0 0) [] [] :=
  ⟨World.ownsRow_nil _ _ _ _, World.ownsRow_nil _ _ _ _, fun k r hr => by simp at hr, h⟩
theorem below (h : Rw w L V1 ss V2 hs rs) (hb : Below w.heap.size w w') : Rw w' L V1 ss V2 hs rs :=
  ⟨own_keep h.own1 fun i _ hl => hb.block i hl, own_keep h.own2 fun i _ hl => hb.block i hl, fun k r hr => by obtain ⟨x, h1, h2⟩ := h.tree k r hr; exact ⟨x, h1, h2.below hb⟩, Nat.le_trans h.base hb.size⟩
theorem apart (h : Rw w L V1 ss V2 hs rs) {i : Nat} (h1 : V1.ownBlock = some i) : V2.ownBlock ≠ some i := fun h2 => by
  obtain ⟨c1, k1⟩ := own_obj h.own1 h1
  obtain ⟨c2, k2⟩ := own_obj h.own2 h2
  exact blk_ne k1 k2 (by decide) rfl
/-- A text more. -/
theorem more1 (h : Rw w L V1 ss V2 hs rs) {p : List UInt8} {g cap : Nat} {r : Re} {x : Hd} (hx : IsS w (fun b => V1.ownBlock ≠ some b ∧ V2.ownBlock ≠ some b) x r)
    (ho : w'.ownsRow L 9 1 (.slice (some ⟨g, 0, none⟩) (ss.length + 1) cap) (ss.length + 1) (ss.map strV ++ [strV p])) (hg : w.grownBy w' V1.ownBlock) (ha : V1.ownBlock = some g ∨ g = w.heap.size) :
    Rw w' L (.slice (some ⟨g, 0, none⟩) (ss.length + 1) cap) (ss ++ [p]) V2 hs rs ∧ IsS w' (fun b => (Value.slice (some ⟨g, 0, none⟩) (ss.length + 1) cap).ownBlock ≠ some b ∧ V2.ownBlock ≠ some b) x r := by
  have mv : ∀ {h : Hd} {r : Re}, IsS w (fun b => V1.ownBlock ≠ some b ∧ V2.ownBlock ≠ some b) h r → IsS w' (fun b => (Value.slice (some ⟨g, 0, none⟩) (ss.length + 1) cap).ownBlock ≠ some b ∧ V2.ownBlock ≠ some b) h r := fun i =>
    i.move (fun b hb hl => hg.block b hl (fun e => hb.1 e.symm)) fun b hb hl => ⟨fun e => by
      simp only [Value.ownBlock, Option.some.injEq] at e
      rcases ha with ha | ha
      · exact hb.1 (by rw [ha, e])
      · omega, hb.2⟩
  refine ⟨⟨by simpa using ho, own_keep h.own2 fun i hi hl => hg.block i hl (fun e => h.apart e.symm hi), fun k r hr => ?_, Nat.le_trans h.base hg.size⟩, mv hx⟩
  obtain ⟨y, h1, h2⟩ := h.tree k r hr
  exact ⟨y, h1, mv h2⟩
/-- A node more. -/
theorem more2 (h : Rw w L V1 ss V2 hs rs) (hl : hs.length = rs.length) {g cap : Nat} {r : Re} {x : Hd} (hx : IsS w (fun b => V1.ownBlock ≠ some b ∧ V2.ownBlock ≠ some b) x r)
    (ho : w'.ownsRow L 32 6 (.slice (some ⟨g, 0, none⟩) (hs.length + 1) cap) (hs.length + 1) (hs.flatMap hdL ++ hdL x)) (hg : w.grownBy w' V2.ownBlock) (ha : V2.ownBlock = some g ∨ g = w.heap.size) :
    Rw w' L V1 ss (.slice (some ⟨g, 0, none⟩) (hs.length + 1) cap) (hs ++ [x]) (rs ++ [r]) ∧ IsS w' (fun b => V1.ownBlock ≠ some b ∧ (Value.slice (some ⟨g, 0, none⟩) (hs.length + 1) cap).ownBlock ≠ some b) x r := by
  have mv : ∀ {h : Hd} {r : Re}, IsS w (fun b => V1.ownBlock ≠ some b ∧ V2.ownBlock ≠ some b) h r → IsS w' (fun b => V1.ownBlock ≠ some b ∧ (Value.slice (some ⟨g, 0, none⟩) (hs.length + 1) cap).ownBlock ≠ some b) h r := fun i =>
    i.move (fun b hb hl => hg.block b hl (fun e => hb.2 e.symm)) fun b hb hl => ⟨hb.1, fun e => by
      simp only [Value.ownBlock, Option.some.injEq] at e
      rcases ha with ha | ha
      · exact hb.2 (by rw [ha, e])
      · omega⟩
  refine ⟨⟨own_keep h.own1 fun i hi hl => hg.block i hl (fun e => h.apart hi e.symm), by simpa using ho, fun k r' hr => ?_, Nat.le_trans h.base hg.size⟩, mv hx⟩
  rcases get_push hr with h1 | ⟨h1, rfl⟩
  · obtain ⟨y, q1, q2⟩ := h.tree k r' h1
    refine ⟨y, ?_, mv q2⟩
    rw [List.getElem?_append_left (by
      rcases Nat.lt_or_ge k hs.length with hl | hl
      · exact hl
      · rw [List.getElem?_eq_none hl] at q1; cases q1)]
    exact q1
  · refine ⟨x, ?_, mv hx⟩
    rw [List.getElem?_append_right (by omega), h1, hl]
    simp
end Rw
/-- On the way: a: the text lies in a block, b: it is in its row; c: the node is loaded, d: it lies in a block, e: it is in its row. -/
structure R10 (L : Nat) (p : List UInt8) (x : Hd) (r : Re) (V1 V2 : Value) (ss : List (List UInt8)) (hs : List Hd) (rs : List Re) (V : Nat) (w0 : World) (a b c d e : Bool) (t48 t49 t51 t52 t53 : Value) (w : World) : Prop where
  rows : Rw w L (if b then t49 else V1) (if b then ss ++ [p] else ss) (if e then t53 else V2) (if e then hs ++ [x] else hs) (if e then rs ++ [r] else rs)
  new : IsS w (fun y => (if b then t49 else V1).ownBlock ≠ some y ∧ (if e then t53 else V2).ownBlock ≠ some y) x r
  below : Below L w0 w
  len : hs.length = rs.length
  var : c = false → Blk w V 32 (hdC x)
  s48 : a = true → b = false → ∃ g, t48 = .slice (some ⟨g, 0, none⟩) 1 1 ∧ Blk w g 9 #[strV p]
  s49 : b = true → ∃ g cap, t49 = .slice (some ⟨g, 0, none⟩) (ss.length + 1) cap
  s51 : c = true → t51 = hdV x
  s52 : d = true → e = false → ∃ g, t52 = .slice (some ⟨g, 0, none⟩) 1 1 ∧ Blk w g 32 (hdC x)
  s53 : e = true → ∃ g cap, t53 = .slice (some ⟨g, 0, none⟩) (hs.length + 1) cap
namespace R10
variable {L : Nat} {p : List UInt8} {x : Hd} {r : Re} {V1 V2 : Value} {ss : List (List UInt8)} {hs : List Hd} {rs : List Re} {V : Nat} {w0 : World} {a b c d e : Bool} {t48 t49 t51 t52 t53 : Value} {w w' : World}
theorem grow (h : R10 L p x r V1 V2 ss hs rs V w0 a b c d e t48 t49 t51 t52 t53 w) (hb : Below w.heap.size w w') : R10 L p x r V1 V2 ss hs rs V w0 a b c d e t48 t49 t51 t52 t53 w' :=
  ⟨h.rows.below hb, h.new.below hb, h.below.trans (hb.mono h.rows.base), h.len, fun q => (h.var q).below hb (h.var q).lt, fun q q' => by obtain ⟨g, h1, h2⟩ := h.s48 q q'; exact ⟨g, h1, h2.below hb h2.lt⟩, h.s49, h.s51, fun q q' => by obtain ⟨g, h1, h2⟩ := h.s52 q q'; exact ⟨g, h1, h2.below hb h2.lt⟩, h.s53⟩
theorem k48 (h : R10 L p x r V1 V2 ss hs rs V w0 false b c d e t48 t49 t51 t52 t53 w) : R10 L p x r V1 V2 ss hs rs V w0 true b c d e (.slice (some ⟨w.heap.size, 0, none⟩) 1 1) t49 t51 t52 t53 (w.alloc (.cells #[strV p] 9)) := by
  have h' := h.grow ((Below.refl _ _).alloc (Nat.le_refl _) (.cells #[strV p] 9))
  exact ⟨h'.rows, h'.new, h'.below, h'.len, h'.var, fun _ _ => ⟨_, rfl, Blk.new _ _ _⟩, h'.s49, h'.s51, h'.s52, h'.s53⟩
theorem k51 (h : R10 L p x r V1 V2 ss hs rs V w0 a b false d e t48 t49 t51 t52 t53 w) : R10 L p x r V1 V2 ss hs rs V w0 a b true d e t48 t49 (hdV x) t52 t53 w :=
  ⟨h.rows, h.new, h.below, h.len, (fun q => by cases q), h.s48, h.s49, fun _ => rfl, h.s52, h.s53⟩
theorem k52 (h : R10 L p x r V1 V2 ss hs rs V w0 a b c false e t48 t49 t51 t52 t53 w) : R10 L p x r V1 V2 ss hs rs V w0 a b c true e t48 t49 t51 (.slice (some ⟨w.heap.size, 0, none⟩) 1 1) t53 (w.alloc (.cells (hdC x) 32)) := by
  have h' := h.grow ((Below.refl _ _).alloc (Nat.le_refl _) (.cells (hdC x) 32))
  exact ⟨h'.rows, h'.new, h'.below, h'.len, h'.var, h'.s48, h'.s49, h'.s51, fun _ _ => ⟨_, rfl, Blk.new _ _ _⟩, h'.s53⟩
theorem k49 {g cap : Nat} (h : R10 L p x r V1 V2 ss hs rs V w0 a false c d e t48 t49 t51 t52 t53 w)
    (ho : w'.ownsRow L 9 1 (.slice (some ⟨g, 0, none⟩) (ss.length + 1) cap) (ss.length + 1) (ss.map strV ++ [strV p])) (hg : w.grownBy w' V1.ownBlock) (ha : V1.ownBlock = some g ∨ g = w.heap.size) :
    R10 L p x r V1 V2 ss hs rs V w0 a true c d e t48 (.slice (some ⟨g, 0, none⟩) (ss.length + 1) cap) t51 t52 t53 w' := by
  have hr := h.rows
  have hn := h.new
  simp only [Bool.false_eq_true, if_false] at hr hn
  obtain ⟨m1, m2⟩ := hr.more1 hn ho hg ha
  have ty : ∀ {i : Nat} {t : TypeId} {cs : Array Value}, Blk w i t cs → t ≠ 9 → Blk w' i t cs := fun hb hne => (hg.block _ hb.lt (fun e => by obtain ⟨cur, hc⟩ := own_obj hr.own1 e.symm; exact blk_ne hb hc hne rfl)).trans hb
  refine ⟨by simpa using m1, by simpa using m2, h.below.trans (below_grown hg (fun i hi => (hr.own1.lt i hi).1) hr.base), h.len, fun q => ty (h.var q) (by decide), (fun _ q => by cases q), fun _ => ⟨g, cap, rfl⟩, h.s51, fun q q' => ?_, h.s53⟩
  obtain ⟨g5, h1, h2⟩ := h.s52 q q'
  exact ⟨g5, h1, ty h2 (by decide)⟩
theorem k53 {g cap : Nat} (h : R10 L p x r V1 V2 ss hs rs V w0 a b true d false t48 t49 t51 t52 t53 w)
    (ho : w'.ownsRow L 32 6 (.slice (some ⟨g, 0, none⟩) (hs.length + 1) cap) (hs.length + 1) (hs.flatMap hdL ++ hdL x)) (hg : w.grownBy w' V2.ownBlock) (ha : V2.ownBlock = some g ∨ g = w.heap.size) :
    R10 L p x r V1 V2 ss hs rs V w0 a b true d true t48 t49 t51 t52 (.slice (some ⟨g, 0, none⟩) (hs.length + 1) cap) w' := by
  have hr := h.rows
  have hn := h.new
  simp only [Bool.false_eq_true, if_false] at hr hn
  obtain ⟨m1, m2⟩ := hr.more2 h.len hn ho hg ha
  have ty : ∀ {i : Nat} {t : TypeId} {cs : Array Value}, Blk w i t cs → t ≠ 32 → Blk w' i t cs := fun hb hne => (hg.block _ hb.lt (fun e => by obtain ⟨cur, hc⟩ := own_obj hr.own2 e.symm; exact blk_ne hb hc hne rfl)).trans hb
  refine ⟨by simpa using m1, by simpa using m2, h.below.trans (below_grown hg (fun i hi => (hr.own2.lt i hi).1) hr.base), h.len, (fun q => by cases q), fun q q' => ?_, h.s49, h.s51, (fun _ q => by cases q), fun _ => ⟨g, cap, rfl⟩⟩
  obtain ⟨g5, h1, h2⟩ := h.s48 q q'
  exact ⟨g5, h1, ty h2 (by decide)⟩
end R10
end Go.Proofs.YtgidoieppplhpaaDoor
