/-
  Entries in memory: as values, in slices, in rows of the call's own.
-/
import Derived.Test.YtkhhcclomjfliaaGreatDoorTokenRows
import Derived.Test.YtkhhcclomjfliaaGreatDoorStr
import Derived.Test.YtkhhcclomjfliaaGreatDoorManifestPlain
import Derived.WalkKit
import Derived.ProofKit
import Derived.OwnWalk
import Derived.WalkLawsBesides
import Derived.Deep.AppendLies
namespace Go.Proofs.YtkhhcclomjfliaaGreatDoor
open Go.RowKit
set_option linter.unusedVariables false

def enL (e : En) : List Value := [.string (strB e.name), .int .i64 e.addr, .int .i64 e.size, .int .u32 e.print, .int .i64 e.way]
def enA (e : En) : Array Value := #[.string (strB e.name), .int .i64 e.addr, .int .i64 e.size, .int .u32 e.print, .int .i64 e.way]
def enV (e : En) : Value := .agg (enA e)
/-- What holds of each entry that a machine holds. -/
structure EnF (e : En) : Prop where
  name : e.name.length ≤ 9223372036854775807
  addr : -9223372036854775808 ≤ e.addr ∧ e.addr ≤ 9223372036854775807
  size : -9223372036854775808 ≤ e.size ∧ e.size ≤ 9223372036854775807
  print : 0 ≤ e.print ∧ e.print ≤ 4294967295
  way : -9223372036854775808 ≤ e.way ∧ e.way ≤ 9223372036854775807
/-- The slice value '.slice A n _' holds these entries. -/
def EnS (w : World) (A : Option Addr) (n : Nat) (es : List En) : Prop :=
  es.length = n ∧ ∀ k e, es[k]? = some e → ∃ ad, A = some ad ∧ ad.block < w.heap.size ∧ ∀ j z, (enL e)[j]? = some z → w.cell? (ad.add (k * 5 + j)) = some z
theorem EnS.len {w : World} {A : Option Addr} {n : Nat} {es : List En} (h : EnS w A n es) : es.length = n := h.1
theorem EnS.below {w w' : World} {B : Nat} {A : Option Addr} {n : Nat} {es : List En} (h : EnS w A n es) (hb : Below B w w') (hB : w.heap.size ≤ B) : EnS w' A n es :=
  ⟨h.1, fun k e hk => by
    obtain ⟨ad, e1, hl, hc⟩ := h.2 k e hk
    exact ⟨ad, e1, Nat.lt_of_lt_of_le hl hb.size, fun j z hz => (hb.cell (by rw [ad_block]; omega)).trans (hc j z hz)⟩⟩
theorem EnS.nil (w : World) : EnS w none 0 [] := ⟨rfl, fun k e h => by simp at h⟩
theorem EnS.take {w : World} {A : Option Addr} {n : Nat} {es : List En} (h : EnS w A n es) {m : Nat} (hm : m ≤ n) : EnS w A m (es.take m) := by
  refine ⟨by rw [List.length_take, h.1]; omega, fun k e hk => ?_⟩
  rw [List.getElem?_take] at hk
  split at hk
  · exact h.2 k e hk
  · cases hk
/-- An entry of a slice: its cells, as the walk spells them. -/
theorem EnS.at_ {w : World} {A : Option Addr} {n k : Nat} {es : List En} {e : En} (h : EnS w A n es) (hk : es[k]? = some e) : ∃ ad, A = some ad ∧ ad.block < w.heap.size ∧
    w.cell? (ad.add (k * 5)) = some (.string (strB e.name)) ∧ w.cell? ⟨(ad.add (k * 5)).block, (ad.add (k * 5)).off + 1, none⟩ = some (.int .i64 e.addr) ∧ w.cell? ⟨(ad.add (k * 5)).block, (ad.add (k * 5)).off + 2, none⟩ = some (.int .i64 e.size) ∧
    w.cell? ⟨(ad.add (k * 5)).block, (ad.add (k * 5)).off + 3, none⟩ = some (.int .u32 e.print) ∧ w.cell? ⟨(ad.add (k * 5)).block, (ad.add (k * 5)).off + 4, none⟩ = some (.int .i64 e.way) := by
  obtain ⟨ad, e1, hl, hc⟩ := h.2 k e hk
  have hs : ∀ j, (⟨(ad.add (k * 5)).block, (ad.add (k * 5)).off + (j + 1), none⟩ : Addr) = ad.add (k * 5 + (j + 1)) := fun j => by rw [← ad_add, Addr.add_succ' (ad.add (k * 5)) j]
  refine ⟨ad, e1, hl, hc 0 _ rfl, ?_, ?_, ?_, ?_⟩
  · rw [hs 0]; exact hc 1 _ rfl
  · rw [hs 1]; exact hc 2 _ rfl
  · rw [hs 2]; exact hc 3 _ rfl
  · rw [hs 3]; exact hc 4 _ rfl
theorem enL_get : ∀ (zs : List En) (j : Nat) (z : En) (r : Nat), zs[j]? = some z → r < 5 → (zs.flatMap enL)[j * 5 + r]? = (enL z)[r]?
  | [], j, z, r, h, _ => by simp at h
  | y :: zs, 0, z, r, h, hr => by
    obtain rfl : y = z := by simpa using h
    rw [List.flatMap_cons, List.getElem?_append_left (by simp [enL]; omega)]
    simp
  | y :: zs, j + 1, z, r, h, hr => by
    have h' : zs[j]? = some z := by simpa using h
    have hl : (enL y).length = 5 := rfl
    rw [List.flatMap_cons, List.getElem?_append_right (by rw [hl]; omega), hl, show (j + 1) * 5 + r - 5 = j * 5 + r by omega]
    exact enL_get zs j z r h' hr
theorem enL_len : ∀ (zs : List En), (zs.flatMap enL).length = zs.length * 5
  | [] => rfl
  | y :: zs => by
    have hl : (enL y).length = 5 := rfl
    rw [List.flatMap_cons, List.length_append, enL_len zs, hl, List.length_cons]; omega
/-- A row of entries of the call's own. -/
def OwnE (w : World) (base : Nat) (v : Value) (n : Nat) (zs : List En) : Prop := w.ownsRow base 40 5 v n (zs.flatMap enL)
theorem OwnE.nil (w : World) (base : Nat) : OwnE w base (.slice none 0 0) 0 [] := World.ownsRow_nil _ _ _ _
theorem OwnE.len {w : World} {base n : Nat} {v : Value} {zs : List En} (h : OwnE w base v n zs) : zs.length = n := by
  have := h.1
  rw [enL_len] at this
  omega
theorem OwnE.alloc {w : World} {base n : Nat} {v : Value} {zs : List En} (h : OwnE w base v n zs) (o : Obj) : OwnE (w.alloc o) base v n zs := World.ownsRow.alloc h o
theorem OwnE.form {w : World} {base n : Nat} {v : Value} {zs : List En} (h : OwnE w base v n zs) : ∃ A c, v = .slice A n c ∧ n ≤ c ∧ c ≤ 9223372036854775807 ∧ (A = none ∧ n = 0 ∨ ∃ g, A = some ⟨g, 0, none⟩ ∧ base ≤ g ∧ g < w.heap.size) := by
  rcases h.2 with ⟨e, e2⟩ | ⟨g, cap, cur, e, h1, h2, h3, h4, _⟩
  · exact ⟨none, 0, by rw [e, e2], by omega, by omega, .inl ⟨rfl, e2⟩⟩
  · exact ⟨_, cap, e, h3, by unfold maxLen at h4; exact h4, .inr ⟨g, rfl, h1, by
      rcases Nat.lt_or_ge g w.heap.size with hlt | hge
      · exact hlt
      · rw [Array.getElem?_eq_none hge] at h2; cases h2⟩⟩
theorem OwnE.ens {w : World} {base n c : Nat} {A : Option Addr} {zs : List En} (h : OwnE w base (.slice A n c) n zs) : EnS w A n zs := by
  refine ⟨h.len, fun k y hk => ?_⟩
  obtain ⟨A', c', e0, _, _, hA⟩ := h.form
  obtain ⟨rfl, rfl⟩ : A = A' ∧ c = c' := by injection e0 with e1 e2 e3; exact ⟨e1, e3⟩
  have hkn : k < n := by have := (List.getElem?_eq_some_iff.1 hk).1; have := h.len; omega
  rcases hA with ⟨_, h0⟩ | ⟨g, rfl, _, hg⟩
  · omega
  · refine ⟨_, rfl, hg, fun j z hz => ?_⟩
    have hj : j < 5 := (List.getElem?_eq_some_iff.1 hz).1
    have e : (⟨g, 0, none⟩ : Addr).add (k * 5 + j) = ⟨g, k * 5 + j, none⟩ := by unfold Addr.add; split <;> simp_all
    rw [e, World.ownsRow.cellAt h (k * 5 + j) (by omega), enL_get zs k y j hk hj]
    exact hz
theorem OwnE.below {w w' : World} {base n : Nat} {v : Value} {zs : List En} (h : OwnE w base v n zs) (hb : Below w.heap.size w w') : OwnE w' base v n zs := by
  refine ⟨h.1, ?_⟩
  rcases h.2 with e | ⟨g, cap, cur, e, h1, h2, h3⟩
  · exact .inl e
  · have hg : g < w.heap.size := by
      rcases Nat.lt_or_ge g w.heap.size with hlt | hge
      · exact hlt
      · rw [Array.getElem?_eq_none hge] at h2; cases h2
    exact .inr ⟨g, cap, cur, e, h1, (hb.block g hg).trans h2, h3⟩
theorem OwnE.low {w : World} {base base' n : Nat} {v : Value} {zs : List En} (h : OwnE w base v n zs) (hl : base' ≤ base) : OwnE w base' v n zs := by
  refine ⟨h.1, ?_⟩
  rcases h.2 with h0 | ⟨g, cap, cur, hv, hg, r⟩
  · exact .inl h0
  · exact .inr ⟨g, cap, cur, hv, Nat.le_trans hl hg, r⟩
theorem infoE : (Tryz.prog.info? 40).map (fun i => (i.zero, i.size, i.bytes)) = some (some (.agg #[.string ⟨#[]⟩, .int .i64 0, .int .i64 0, .int .u32 0, .int .i64 0]), 5, 48) := by kernel_rfl
theorem wpList_append_en {w : World} {ops : Array Oper} {rest : List Oper} {o : Oper} {a : Act} {Q : Exit → Act → World → Prop} (hgd : o.guard = none) (s x : Operand)
    (ho : o.op = .call { callee := .builtin .append, args := #[s, x], argTypes := #[23, 23] })
    (base : Nat) (v : Value) (n : Nat) (zs : List En) (hs : a.eval s = v) (hown : OwnE w base v n zs) (g : Nat) (hx : a.eval x = .slice (some ⟨g, 0, none⟩) 1 1) (z : En) (hk : Blk w g 40 (enA z)) (hn : (n + 1) * 48 ≤ 140737488355328) (hbase : base ≤ w.heap.size)
    (h : ∀ G cap w', OwnE w' base (.slice (some ⟨G, 0, none⟩) (n + 1) cap) (n + 1) (zs ++ [z]) → Below base w w' → wpList Tryz.prog ops Q rest (a.put o.dst (.slice (some ⟨G, 0, none⟩) (n + 1) cap)) w') : wpList Tryz.prog ops Q (o :: rest) a w := by
  obtain ⟨i, hi⟩ := Option.isSome_iff_exists.1 (show (Tryz.prog.info? 40).isSome = true by kernel_rfl)
  have h0 := infoE
  rw [hi] at h0
  simp only [Option.map_some, Option.some.injEq, Prod.mk.injEq] at h0
  obtain ⟨hz, hsz, hby⟩ := h0
  have hcells : ∀ j y, (enL z)[j]? = some y → w.cell? ((⟨g, 0, none⟩ : Addr).add j) = some y := by
    intro j y hy
    have e : (⟨g, 0, none⟩ : Addr).add j = ⟨g, j, none⟩ := by unfold Addr.add; split <;> simp_all
    rw [e, hk.cell]
    simpa [enL, enA] using hy
  have h1 : ∀ y ∈ enL z, y.oneCell' = true := by
    intro y hy
    simp [enL] at hy
    rcases hy with rfl | rfl | rfl | rfl | rfl <;> rfl
  refine wpList_append_lies w hgd s x 23 ho base 40 i _ 5 48 Tryz.underlying23 hi hz hsz hby rfl (by omega) v n _ hs hown ⟨g, 0, none⟩ 1 1 (enL z) hx rfl hcells h1 (by omega) (by unfold maxLen; omega) hn hbase _ rfl ?_
  intro G cap w' h2 h3 _ _
  refine h G cap w' ?_ ?_
  · have e : (zs ++ [z]).flatMap enL = zs.flatMap enL ++ enL z := by simp
    unfold OwnE
    rw [e]
    exact h2
  · exact ⟨h3.os, h3.tape, h3.output, World.grownBy.size h3, fun b hb => h3.block b (Nat.lt_of_lt_of_le hb hbase) (fun e => by have := (World.ownsRow.lt hown b e.symm).1; omega)⟩
end Go.Proofs.YtkhhcclomjfliaaGreatDoor
