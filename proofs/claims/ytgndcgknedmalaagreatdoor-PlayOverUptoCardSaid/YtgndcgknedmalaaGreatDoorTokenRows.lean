/-
  Rows of tokens of a call's own; a token as a value.
-/
import Derived.Test.YtgndcgknedmalaaGreatDoorProg
import Derived.Test.YtgndcgknedmalaaGreatDoorTokenPlain
import Derived.WalkKit
import Derived.ProofKit
import Derived.OwnWalk
import Derived.WalkLawsBesides
import Derived.Deep.AppendLies
namespace Go.Proofs.YtgndcgknedmalaaGreatDoor
open Go.RowKit
set_option linter.unusedVariables false

def tkL (t : Tk) : List Value := [.int .i64 (t.kind : Int), .string (strB t.text), .int .i64 (t.val : Int), .int .i64 (t.pos : Int)]
def tkA (k : Int) (s : ByteArray) (v p : Int) : Array Value := #[.int .i64 k, .string s, .int .i64 v, .int .i64 p]
def tkV (t : Tk) : Value := .agg (tkA t.kind (strB t.text) t.val t.pos)
theorem tkL_get : ∀ (zs : List Tk) (j : Nat) (z : Tk) (r : Nat), zs[j]? = some z → r < 4 → (zs.flatMap tkL)[j * 4 + r]? = (tkL z)[r]?
  | [], j, z, r, h, _ => by simp at h
  | y :: zs, 0, z, r, h, hr => by
    obtain rfl : y = z := by simpa using h
    rw [List.flatMap_cons, List.getElem?_append_left (by simp [tkL]; omega)]
    simp
  | y :: zs, j + 1, z, r, h, hr => by
    have h' : zs[j]? = some z := by simpa using h
    have hl : (tkL y).length = 4 := rfl
    rw [List.flatMap_cons, List.getElem?_append_right (by rw [hl]; omega), hl, show (j + 1) * 4 + r - 4 = j * 4 + r by omega]
    exact tkL_get zs j z r h' hr
theorem tkL_len : ∀ (zs : List Tk), (zs.flatMap tkL).length = zs.length * 4
  | [] => rfl
  | y :: zs => by
    have hl : (tkL y).length = 4 := rfl
    rw [List.flatMap_cons, List.length_append, tkL_len zs, hl, List.length_cons]; omega
/-- A row of tokens of the call's own. -/
def OwnT (w : World) (base : Nat) (v : Value) (n : Nat) (zs : List Tk) : Prop := w.ownsRow base 87 4 v n (zs.flatMap tkL)
theorem OwnT.nil (w : World) (base : Nat) : OwnT w base (.slice none 0 0) 0 [] := World.ownsRow_nil _ _ _ _
theorem OwnT.len {w : World} {base n : Nat} {v : Value} {zs : List Tk} (h : OwnT w base v n zs) : zs.length = n := by
  have := h.1
  rw [tkL_len] at this
  omega
theorem OwnT.alloc {w : World} {base n : Nat} {v : Value} {zs : List Tk} (h : OwnT w base v n zs) (o : Obj) : OwnT (w.alloc o) base v n zs := World.ownsRow.alloc h o
theorem OwnT.form {w : World} {base n : Nat} {v : Value} {zs : List Tk} (h : OwnT w base v n zs) : ∃ A c, v = .slice A n c ∧ n ≤ c ∧ c ≤ 9223372036854775807 ∧ (A = none ∧ n = 0 ∨ ∃ g, A = some ⟨g, 0, none⟩ ∧ base ≤ g ∧ g < w.heap.size) := by
  rcases h.2 with ⟨e, e2⟩ | ⟨g, cap, cur, e, h1, h2, h3, h4, _⟩
  · exact ⟨none, 0, by rw [e, e2], by omega, by omega, .inl ⟨rfl, e2⟩⟩
  · exact ⟨_, cap, e, h3, by unfold maxLen at h4; exact h4, .inr ⟨g, rfl, h1, by
      rcases Nat.lt_or_ge g w.heap.size with hlt | hge
      · exact hlt
      · rw [Array.getElem?_eq_none hge] at h2; cases h2⟩⟩
/-- Tokens that are read: at a block's beginning. -/
structure TkS (w : World) (g : Nat) (zs : List Tk) : Prop where
  lt : g < w.heap.size
  at_ : ∀ (j : Nat) (z : Tk), zs[j]? = some z → w.cell? ⟨g, j * 4, none⟩ = some (.int .i64 (z.kind : Int)) ∧ w.cell? ⟨g, j * 4 + 1, none⟩ = some (.string (strB z.text)) ∧ w.cell? ⟨g, j * 4 + 2, none⟩ = some (.int .i64 (z.val : Int)) ∧ w.cell? ⟨g, j * 4 + 3, none⟩ = some (.int .i64 (z.pos : Int))
theorem OwnT.tks {w : World} {base n c g : Nat} {zs : List Tk} (h : OwnT w base (.slice (some ⟨g, 0, none⟩) n c) n zs) : TkS w g zs := by
  refine ⟨?_, fun j z hz => ?_⟩
  · rcases h.2 with ⟨e, e2⟩ | ⟨g', cap, cur, e, h1, h2, h3, h4, h5, h6⟩
    · cases e
    · obtain rfl : g = g' := by injection e with e1 e2 e3; injection e1 with e1; injection e1
      rcases Nat.lt_or_ge g w.heap.size with hlt | hge
      · exact hlt
      · rw [Array.getElem?_eq_none hge] at h2; cases h2
  · have hj : j < n := by have := (List.getElem?_eq_some_iff.1 hz).1; have := h.len; omega
    have hc : ∀ r, r < 4 → w.cell? ⟨g, j * 4 + r, none⟩ = (tkL z)[r]? := fun r hr => by
      rw [World.ownsRow.cellAt h (j * 4 + r) (by omega), tkL_get zs j z r hz hr]
    exact ⟨hc 0 (by omega), hc 1 (by omega), hc 2 (by omega), hc 3 (by omega)⟩
theorem TkS.below {w w' : World} {B g : Nat} {zs : List Tk} (h : TkS w g zs) (hb : Below B w w') (hB : g < B) : TkS w' g zs :=
  ⟨Nat.lt_of_lt_of_le h.lt hb.size, fun j z hz => by
    obtain ⟨h0, h1, h2, h3⟩ := h.at_ j z hz
    exact ⟨(hb.cell hB).trans h0, (hb.cell hB).trans h1, (hb.cell hB).trans h2, (hb.cell hB).trans h3⟩⟩
theorem OwnT.below {w w' : World} {base n : Nat} {v : Value} {zs : List Tk} (h : OwnT w base v n zs) (hb : Below w.heap.size w w') : OwnT w' base v n zs := by
  refine ⟨h.1, ?_⟩
  rcases h.2 with e | ⟨g, cap, cur, e, h1, h2, h3⟩
  · exact .inl e
  · have hg : g < w.heap.size := by
      rcases Nat.lt_or_ge g w.heap.size with hlt | hge
      · exact hlt
      · rw [Array.getElem?_eq_none hge] at h2; cases h2
    exact .inr ⟨g, cap, cur, e, h1, (hb.block g hg).trans h2, h3⟩
/-- A store into another block. -/
theorem OwnT.far {w : World} {base n : Nat} {v : Value} {zs : List Tk} (h : OwnT w base v n zs) {p : Addr} (hp : ∀ i, v.ownBlock = some i → i ≠ p.block) (u : Value) : OwnT (w.setCell p u) base v n zs := by
  refine ⟨h.1, ?_⟩
  rcases h.2 with e | ⟨g, cap, cur, e, h1, h2, h3⟩
  · exact .inl e
  · exact .inr ⟨g, cap, cur, e, h1, (Below.heap_setCell w p u g (hp g (by rw [e]; rfl))).trans h2, h3⟩
theorem OwnT.low {w : World} {base base' n : Nat} {v : Value} {zs : List Tk} (h : OwnT w base v n zs) (hl : base' ≤ base) : OwnT w base' v n zs := by
  refine ⟨h.1, ?_⟩
  rcases h.2 with h0 | ⟨g, cap, cur, hv, hg, r⟩
  · exact .inl h0
  · exact .inr ⟨g, cap, cur, hv, Nat.le_trans hl hg, r⟩
theorem OwnT.lt {w : World} {base n : Nat} {v : Value} {zs : List Tk} (h : OwnT w base v n zs) {i : Nat} (hi : v.ownBlock = some i) : base ≤ i ∧ i < w.heap.size := World.ownsRow.lt h i hi
theorem infoT : (Tryz.prog.info? 87).map (fun i => (i.zero, i.size, i.bytes)) = some (some (.agg #[.int .i64 0, .string ⟨#[]⟩, .int .i64 0, .int .i64 0]), 4, 40) := by kernel_rfl
theorem wpList_append_tok {w : World} {ops : Array Oper} {rest : List Oper} {o : Oper} {a : Act} {Q : Exit → Act → World → Prop} (hgd : o.guard = none) (s x : Operand)
    (ho : o.op = .call { callee := .builtin .append, args := #[s, x], argTypes := #[79, 79] })
    (base : Nat) (v : Value) (n : Nat) (zs : List Tk) (hs : a.eval s = v) (hown : OwnT w base v n zs) (g : Nat) (hx : a.eval x = .slice (some ⟨g, 0, none⟩) 1 1) (z : Tk) (hk : Blk w g 87 (tkA z.kind (strB z.text) z.val z.pos)) (hn : (n + 1) * 40 ≤ 140737488355328) (hbase : base ≤ w.heap.size)
    (h : ∀ G cap w', OwnT w' base (.slice (some ⟨G, 0, none⟩) (n + 1) cap) (n + 1) (zs ++ [z]) → Below base w w' → wpList Tryz.prog ops Q rest (a.put o.dst (.slice (some ⟨G, 0, none⟩) (n + 1) cap)) w') : wpList Tryz.prog ops Q (o :: rest) a w := by
  obtain ⟨i, hi⟩ := Option.isSome_iff_exists.1 (show (Tryz.prog.info? 87).isSome = true by kernel_rfl)
  have h0 := infoT
  rw [hi] at h0
  simp only [Option.map_some, Option.some.injEq, Prod.mk.injEq] at h0
  obtain ⟨hz, hsz, hby⟩ := h0
  have hcells : ∀ j y, (tkL z)[j]? = some y → w.cell? ((⟨g, 0, none⟩ : Addr).add j) = some y := by
    intro j y hy
    have e : (⟨g, 0, none⟩ : Addr).add j = ⟨g, j, none⟩ := by unfold Addr.add; split <;> simp_all
    rw [e, hk.cell]
    simpa [tkL, tkA] using hy
  have h1 : ∀ y ∈ tkL z, y.oneCell' = true := by
    intro y hy
    simp [tkL] at hy
    rcases hy with rfl | rfl | rfl | rfl <;> rfl
  refine wpList_append_lies w hgd s x 79 ho base 87 i _ 4 40 Tryz.underlying79 hi hz hsz hby rfl (by omega) v n _ hs hown ⟨g, 0, none⟩ 1 1 (tkL z) hx rfl hcells h1 (by omega) (by unfold maxLen; omega) hn hbase _ rfl ?_
  intro G cap w' h2 h3 _ _
  refine h G cap w' ?_ ?_
  · have e : (zs ++ [z]).flatMap tkL = zs.flatMap tkL ++ tkL z := by simp
    unfold OwnT
    rw [e]
    exact h2
  · exact ⟨h3.os, h3.tape, h3.output, World.grownBy.size h3, fun b hb => h3.block b (Nat.lt_of_lt_of_le hb hbase) (fun e => by have := (World.ownsRow.lt hown b e.symm).1; omega)⟩
end Go.Proofs.YtgndcgknedmalaaGreatDoor
