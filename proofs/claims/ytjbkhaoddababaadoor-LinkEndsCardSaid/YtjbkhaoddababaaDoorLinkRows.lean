/-
  Rows of noise of a call's own; the law's own helper 'Tame'.
-/
import Derived.Test.YtjbkhaoddababaaDoorLinkTame
import Derived.Test.YtjbkhaoddababaaDoorLinkPass
import Derived.Deep.AppendLies
namespace Go.Proofs.YtjbkhaoddababaaDoor
open Go.RowKit
set_option linter.unusedVariables false

def nzL (z : Nz) : List Value := [.bool z.lost, .int .i64 z.at_, .int .u8 (z.by_.toNat : Int)]
theorem nzL_get : ∀ (zs : List Nz) (j : Nat) (z : Nz) (r : Nat), zs[j]? = some z → r < 3 → (zs.flatMap nzL)[j * 3 + r]? = (nzL z)[r]?
  | [], j, z, r, h, _ => by simp at h
  | y :: zs, 0, z, r, h, hr => by
    obtain rfl : y = z := by simpa using h
    rw [List.flatMap_cons, List.getElem?_append_left (by simp [nzL]; omega)]
    simp
  | y :: zs, j + 1, z, r, h, hr => by
    have h' : zs[j]? = some z := by simpa using h
    have hl : (nzL y).length = 3 := rfl
    rw [List.flatMap_cons, List.getElem?_append_right (by rw [hl]; omega), hl, show (j + 1) * 3 + r - 3 = j * 3 + r by omega]
    exact nzL_get zs j z r h' hr
theorem nzL_len : ∀ (zs : List Nz), (zs.flatMap nzL).length = zs.length * 3
  | [] => rfl
  | y :: zs => by
    have hl : (nzL y).length = 3 := rfl
    rw [List.flatMap_cons, List.length_append, nzL_len zs, hl, List.length_cons]; omega
/-- A row of noise of the call's own. -/
def OwnZ (w : World) (base : Nat) (v : Value) (n : Nat) (zs : List Nz) : Prop := w.ownsRow base 30 3 v n (zs.flatMap nzL)
theorem OwnZ.nil (w : World) (base : Nat) : OwnZ w base (.slice none 0 0) 0 [] := World.ownsRow_nil _ _ _ _
theorem OwnZ.len {w : World} {base n : Nat} {v : Value} {zs : List Nz} (h : OwnZ w base v n zs) : zs.length = n := by
  have := h.1
  rw [nzL_len] at this
  omega
theorem OwnZ.alloc {w : World} {base n : Nat} {v : Value} {zs : List Nz} (h : OwnZ w base v n zs) (o : Obj) : OwnZ (w.alloc o) base v n zs := World.ownsRow.alloc h o
theorem OwnZ.form {w : World} {base n : Nat} {v : Value} {zs : List Nz} (h : OwnZ w base v n zs) : ∃ A c, v = .slice A n c ∧ n ≤ c ∧ c ≤ 9223372036854775807 ∧ ∀ ad, A = some ad → base ≤ ad.block := by
  rcases h.2 with ⟨e, e2⟩ | ⟨g, cap, cur, e, h1, h2, h3, h4, _⟩
  · exact ⟨none, 0, by rw [e, e2], by omega, by omega, fun ad e => by cases e⟩
  · exact ⟨_, cap, e, h3, by unfold maxLen at h4; exact h4, fun ad e => by obtain rfl := Option.some.inj e; exact h1⟩
theorem OwnZ.nzs {w : World} {base n c : Nat} {A : Option Addr} {zs : List Nz} (h : OwnZ w base (.slice A n c) n zs) (hb : ∀ (j : Nat) (z : Nz), zs[j]? = some z → -9223372036854775808 ≤ z.at_ ∧ z.at_ ≤ 9223372036854775807) (hn : n ≤ 9223372036854775807) : NzS w A n zs := by
  refine ⟨h.len, hn, fun j z hz => ?_⟩
  have hj : j < n := by have := (List.getElem?_eq_some_iff.1 hz).1; have := h.len; omega
  rcases h.2 with ⟨e, e2⟩ | ⟨g, cap, cur, e, h1, h2, h3, h4, h5, h6⟩
  · omega
  · obtain ⟨rfl, _, rfl⟩ : A = some ⟨g, 0, none⟩ ∧ n = n ∧ c = cap := by injection e with e1 e2 e3; exact ⟨e1, e2, e3⟩
    have hg : g < w.heap.size := by
      rcases Nat.lt_or_ge g w.heap.size with hlt | hge
      · exact hlt
      · rw [Array.getElem?_eq_none hge] at h2; cases h2
    have hc : ∀ r, r < 3 → w.cell? ((⟨g, 0, none⟩ : Addr).add (j * 3 + r)) = (nzL z)[r]? := fun r hr => by
      have e : (⟨g, 0, none⟩ : Addr).add (j * 3 + r) = ⟨g, j * 3 + r, none⟩ := by unfold Addr.add; split <;> simp_all
      rw [e, World.ownsRow.cellAt h (j * 3 + r) (by omega), nzL_get zs j z r hz hr]
    exact ⟨_, rfl, hg, hc 0 (by omega), hc 1 (by omega), hc 2 (by omega), hb j z hz⟩
theorem OwnZ.below {w w' : World} {base n : Nat} {v : Value} {zs : List Nz} (h : OwnZ w base v n zs) (hb : Below w.heap.size w w') : OwnZ w' base v n zs := by
  refine ⟨h.1, ?_⟩
  rcases h.2 with e | ⟨g, cap, cur, e, h1, h2, h3⟩
  · exact .inl e
  · have hg : g < w.heap.size := by
      rcases Nat.lt_or_ge g w.heap.size with hlt | hge
      · exact hlt
      · rw [Array.getElem?_eq_none hge] at h2; cases h2
    exact .inr ⟨g, cap, cur, e, h1, (hb.block g hg).trans h2, h3⟩
theorem infoZ : (Tryd.prog.info? 30).map (fun i => (i.zero, i.size, i.bytes)) = some (some (.agg #[.bool false, .int .i64 0, .int .u8 0]), 3, 24) := by kernel_rfl
theorem wpList_append_noise {w : World} {ops : Array Oper} {rest : List Oper} {o : Oper} {a : Act} {Q : Exit → Act → World → Prop} (hgd : o.guard = none) (s x : Operand)
    (ho : o.op = .call { callee := .builtin .append, args := #[s, x], argTypes := #[28, 28] })
    (base : Nat) (v : Value) (n : Nat) (zs : List Nz) (hs : a.eval s = v) (hown : OwnZ w base v n zs) (g : Nat) (hx : a.eval x = .slice (some ⟨g, 0, none⟩) 1 1) (z : Nz) (hk : Blk w g 30 #[.bool z.lost, .int .i64 z.at_, .int .u8 (z.by_.toNat : Int)]) (hn : (n + 1) * 24 ≤ 140737488355328) (hbase : base ≤ w.heap.size)
    (h : ∀ G cap w', OwnZ w' base (.slice (some ⟨G, 0, none⟩) (n + 1) cap) (n + 1) (zs ++ [z]) → Below base w w' → wpList Tryd.prog ops Q rest (a.put o.dst (.slice (some ⟨G, 0, none⟩) (n + 1) cap)) w') : wpList Tryd.prog ops Q (o :: rest) a w := by
  obtain ⟨i, hi⟩ := Option.isSome_iff_exists.1 (show (Tryd.prog.info? 30).isSome = true by kernel_rfl)
  have h0 := infoZ
  rw [hi] at h0
  simp only [Option.map_some, Option.some.injEq, Prod.mk.injEq] at h0
  obtain ⟨hz, hsz, hby⟩ := h0
  have hcells : ∀ j y, (nzL z)[j]? = some y → w.cell? ((⟨g, 0, none⟩ : Addr).add j) = some y := by
    intro j y hy
    have e : (⟨g, 0, none⟩ : Addr).add j = ⟨g, j, none⟩ := by unfold Addr.add; split <;> simp_all
    rw [e, hk.cell]
    simpa [nzL] using hy
  have h1 : ∀ y ∈ nzL z, y.oneCell' = true := by
    intro y hy
    simp [nzL] at hy
    rcases hy with rfl | rfl | rfl <;> rfl
  refine wpList_append_lies w hgd s x 28 ho base 30 i _ 3 24 Tryd.underlying28 hi hz hsz hby rfl (by omega) v n _ hs hown ⟨g, 0, none⟩ 1 1 (nzL z) hx rfl hcells h1 (by omega) (by unfold maxLen; omega) hn hbase _ rfl ?_
  intro G cap w' h2 h3 _ _
  refine h G cap w' ?_ ?_
  · have e : (zs ++ [z]).flatMap nzL = zs.flatMap nzL ++ nzL z := by simp
    unfold OwnZ
    rw [e]
    exact h2
  · exact ⟨h3.os, h3.tape, h3.output, World.grownBy.size h3, fun b hb => h3.block b (Nat.lt_of_lt_of_le hb hbase) (fun e => by have := (World.ownsRow.lt hown b e.symm).1; omega)⟩

/-- So far tame, with so many bad ones at the end. -/
structure TPart (zs : List Nz) (T b : Nat) : Prop where
  at_ : ∀ (j : Nat) (z : Nz), zs[j]? = some z → 0 ≤ z.at_ ∧ z.at_ ≤ 100 ∧ (z.by_ ≠ 0 → 1 ≤ z.at_)
  run : ∀ a, ¬ BadRun zs a T
  last : ∀ a i, a + i = zs.length → BadRun zs a i → i ≤ b
  lt : b < T
theorem TPart.nil {T : Nat} (hT : 1 ≤ T) : TPart [] T 0 :=
  ⟨fun j z h => by simp at h, fun a h => by obtain ⟨z, hz, _⟩ := h 0 (by omega); simp at hz, fun a i h _ => by simp at h; omega, by omega⟩
theorem run_old {zs : List Nz} {z : Nz} {a i : Nat} (h : BadRun (zs ++ [z]) a i) (hi : a + i ≤ zs.length) : BadRun zs a i := fun q hq => by
  obtain ⟨y, hy, hb⟩ := h q hq
  rw [List.getElem?_append_left (by omega)] at hy
  exact ⟨y, hy, hb⟩
theorem TPart.good {zs : List Nz} {T b : Nat} (h : TPart zs T b) {z : Nz} (hz : ¬ BadN z) (ha : 0 ≤ z.at_ ∧ z.at_ ≤ 100 ∧ (z.by_ ≠ 0 → 1 ≤ z.at_)) : TPart (zs ++ [z]) T 0 := by
  have hno : ∀ a i, BadRun (zs ++ [z]) a i → 0 < i → a + i ≤ zs.length := fun a i hr hi => by
    rcases Nat.lt_or_ge zs.length (a + i) with k | k
    · exfalso
      obtain ⟨y, hy, hb⟩ := hr (i - 1) (by omega)
      have hl := (List.getElem?_eq_some_iff.1 hy).1
      rw [List.length_append] at hl
      simp at hl
      have e : a + (i - 1) = zs.length := by omega
      rw [e, List.getElem?_append_right (Nat.le_refl _)] at hy
      simp at hy
      exact hz (hy ▸ hb)
    · exact k
  refine ⟨fun j y hy => ?_, fun a hr => ?_, fun a i e hr => ?_, by have := h.lt; omega⟩
  · rcases Nat.lt_or_ge j zs.length with k | k
    · rw [List.getElem?_append_left k] at hy; exact h.at_ j y hy
    · rw [List.getElem?_append_right k] at hy
      obtain rfl : z = y := by
        have : j - zs.length = 0 := by
          have := (List.getElem?_eq_some_iff.1 hy).1
          simp at this; omega
        rw [this] at hy; simpa using hy
      exact ha
  · exact h.run a (run_old hr (hno a T hr (by have := h.lt; omega)))
  · rcases Nat.eq_zero_or_pos i with rfl | hi
    · exact Nat.le_refl _
    · have := hno a i hr hi
      rw [List.length_append] at e
      simp at e
      omega
theorem TPart.bad {zs : List Nz} {T b : Nat} (h : TPart zs T b) {z : Nz} (ha : 0 ≤ z.at_ ∧ z.at_ ≤ 100 ∧ (z.by_ ≠ 0 → 1 ≤ z.at_)) (hb : b + 1 < T) : TPart (zs ++ [z]) T (b + 1) := by
  have hno : ∀ a i, BadRun (zs ++ [z]) a i → 0 < i → a + i ≤ zs.length + 1 := fun a i hr hi => by
    obtain ⟨y, hy, _⟩ := hr (i - 1) (by omega)
    have hl := (List.getElem?_eq_some_iff.1 hy).1
    rw [List.length_append] at hl
    simp at hl
    omega
  have hend : ∀ a i, BadRun (zs ++ [z]) a i → a + i = zs.length + 1 → i ≤ b + 1 := fun a i hr e => by
    rcases Nat.eq_zero_or_pos i with rfl | hi
    · omega
    · have := h.last a (i - 1) (by omega) (run_old (fun q hq => hr q (by omega)) (by omega))
      omega
  refine ⟨fun j y hy => ?_, fun a hr => ?_, fun a i e hr => ?_, hb⟩
  · rcases Nat.lt_or_ge j zs.length with k | k
    · rw [List.getElem?_append_left k] at hy; exact h.at_ j y hy
    · rw [List.getElem?_append_right k] at hy
      obtain rfl : z = y := by
        have : j - zs.length = 0 := by
          have := (List.getElem?_eq_some_iff.1 hy).1
          simp at this; omega
        rw [this] at hy; simpa using hy
      exact ha
  · have h1 := hno a T hr (by omega)
    rcases Nat.lt_or_ge zs.length (a + T) with k | k
    · have := hend a T hr (by omega); omega
    · exact h.run a (run_old hr k)
  · rw [List.length_append] at e
    simp at e
    exact hend a i hr e
theorem TPart.tame {zs : List Nz} {T b : Nat} (h : TPart zs T b) : TameN zs T := ⟨fun j z hz hb => by have := h.at_ j z hz; exact ⟨this.2.2 hb, this.2.1⟩, h.run⟩
end Go.Proofs.YtjbkhaoddababaaDoor
