/-
  Slices of slices of bytes of the call's own; what 'Split' answers.
-/
import Derived.Test.YtgdjopiejmdbnaaGreatDoorMake
import Derived.Test.YtgdjopiejmdbnaaGreatDoorFrameRows
namespace Go.Proofs.YtgdjopiejmdbnaaGreatDoor
open Go.RowKit
set_option linter.unusedVariables false

/-- The slice value v holds slices of bytes that read as 'rows' (none empty), in a row of the call's own, from block 'base' on; their bytes lie elsewhere. -/
def Rows' (w : World) (base : Nat) (v : Value) (rows : List (List UInt8)) : Prop :=
  ∃ vals, w.ownsRow base 24 1 v rows.length vals ∧ ∀ (k : Nat) (bs : List UInt8), rows[k]? = some bs → ∃ A c, vals[k]? = some (.slice A bs.length c) ∧ 0 < bs.length ∧ bs.length ≤ c ∧ c ≤ 9223372036854775807 ∧ Bys w w.heap.size A bs.length bs ∧
    ∀ ad, A = some ad → v.ownBlock ≠ some ad.block
namespace Rows'
variable {w w' : World} {base : Nat} {v : Value} {rows : List (List UInt8)}
theorem nil (w : World) (base : Nat) : Rows' w base (.slice none 0 0) [] := ⟨[], World.ownsRow_nil _ _ _ _, fun k bs h => by simp at h⟩
theorem form (h : Rows' w base v rows) : ∃ P cap, v = .slice P rows.length cap ∧ rows.length ≤ cap ∧ cap ≤ 9223372036854775807 := by
  obtain ⟨vals, h1, _⟩ := h
  rcases h1.2 with ⟨rfl, h0⟩ | ⟨g, cap, cur, rfl, hb, hg, hnc, hcm, _⟩
  · exact ⟨none, 0, by rw [h0], by omega, by omega⟩
  · exact ⟨_, cap, rfl, hnc, by unfold maxLen at hcm; omega⟩
theorem block (h : Rows' w base v rows) {i : Nat} (hi : v.ownBlock = some i) : base ≤ i ∧ i < w.heap.size := by
  obtain ⟨vals, h1, _⟩ := h
  exact h1.lt i hi
theorem below (h : Rows' w base v rows) (hb : Below w.heap.size w w') : Rows' w' base v rows := by
  have hblk := fun i (hi : v.ownBlock = some i) => h.block hi
  obtain ⟨vals, h1, h2⟩ := h
  refine ⟨vals, ⟨h1.1, ?_⟩, fun k bs hk => ?_⟩
  · rcases h1.2 with h0 | ⟨g, cap, cur, hv, hb', hg, r⟩
    · exact .inl h0
    · exact .inr ⟨g, cap, cur, hv, hb', by rw [hb.block g (Array.getElem?_eq_some_iff.1 hg).1]; exact hg, r⟩
  · obtain ⟨A, c, e1, e0, e2, e3, e4, e5⟩ := h2 k bs hk
    exact ⟨A, c, e1, e0, e2, e3, (e4.below hb).more hb.size, e5⟩
theorem rowsB {P : Option Addr} {cap : Nat} (h : Rows' w base (.slice P rows.length cap) rows) : RowsB w P rows.length rows := by
  obtain ⟨vals, h1, h2⟩ := h
  refine ⟨rfl, fun k bs hk => ?_⟩
  obtain ⟨A, c, e1, e0, e2, e3, e4, e5⟩ := h2 k bs hk
  rcases h1.2 with ⟨hv, h0⟩ | ⟨g, cap', cur, hv, hb', hg, r⟩
  · have : rows = [] := List.eq_nil_of_length_eq_zero h0
    subst this; simp at hk
  · have e : P = some ⟨g, 0, none⟩ := by injection hv
    subst e
    exact ⟨_, A, c, rfl, (Array.getElem?_eq_some_iff.1 hg).1, h1.cells rfl k _ e1, e2, e3, e4⟩
/-- One row more: the row of slices grew, by a slice whose bytes lie elsewhere. -/
theorem push {A : Option Addr} {c : Nat} {bs : List UInt8} {v' : Value} (h : Rows' w base v rows) (hp : 0 < bs.length) (hc : bs.length ≤ c) (hc2 : c ≤ 9223372036854775807) (hb : Bys w w.heap.size A bs.length bs) (hne : ∀ ad, A = some ad → v.ownBlock ≠ some ad.block)
    (hw : ∀ vals, w.ownsRow base 24 1 v rows.length vals → w'.ownsRow base 24 1 v' (rows.length + 1) (vals ++ [.slice A bs.length c])) (hg : w.grownBy w' v.ownBlock) (hv : v'.ownBlock = v.ownBlock ∨ v'.ownBlock = some w.heap.size) :
    Rows' w' base v' (rows ++ [bs]) := by
  obtain ⟨vals, h1, h2⟩ := h
  have hlen : vals.length = rows.length := by have := h1.1; omega
  have turn : Turn (fun i => v.ownBlock = some i) w w' := turn_grown hg
  have one : ∀ (A : Option Addr) (bs : List UInt8), 0 < bs.length → Bys w w.heap.size A bs.length bs → (∀ ad, A = some ad → v.ownBlock ≠ some ad.block) → Bys w' w'.heap.size A bs.length bs ∧ ∀ ad, A = some ad → v'.ownBlock ≠ some ad.block := by
    intro A bs hp hb hne
    refine ⟨(hb.turn turn (Nat.le_refl _) (fun _ ad e => hne ad e)).more turn.size, fun ad e => ?_⟩
    rcases hv with hv | hv
    · rw [hv]; exact hne ad e
    · rw [hv]
      obtain ⟨ad', _, e', hlt, _⟩ := hb.at_ hp
      rw [e] at e'
      obtain rfl := Option.some.inj e'
      intro hh
      have := Option.some.inj hh
      omega
  refine ⟨vals ++ [.slice A bs.length c], by rw [List.length_append]; exact hw vals h1, fun k b hk => ?_⟩
  rcases Nat.lt_or_ge k rows.length with hk' | hk'
  · rw [List.getElem?_append_left hk'] at hk
    obtain ⟨A', c', e1, e0, e2, e3, e4, e5⟩ := h2 k b hk
    obtain ⟨e6, e7⟩ := one A' b e0 e4 e5
    exact ⟨A', c', by rw [List.getElem?_append_left (by omega)]; exact e1, e0, e2, e3, e6, e7⟩
  · rw [List.getElem?_append_right hk'] at hk
    have hk0 : k = rows.length := by
      rcases Nat.eq_or_lt_of_le hk' with h | h
      · exact h.symm
      · rw [show k - rows.length = (k - rows.length - 1) + 1 by omega] at hk; simp at hk
    subst hk0
    simp at hk
    subst hk
    obtain ⟨e6, e7⟩ := one A bs hp hb hne
    exact ⟨A, c, by rw [List.getElem?_append_right (by omega), hlen]; simp, hp, hc, hc2, e6, e7⟩
end Rows'

theorem infoS : (Tryz.prog.info? 24).map (fun i => (i.zero, i.size, i.bytes)) = some (some (.slice none 0 0), 1, 24) := by kernel_rfl

section
variable (w : World)
set_option maxRecDepth 100000 in
/-- 'append(parts, p)'. -/
theorem wpList_append_part {ops : Array Oper} {rest : List Oper} {o : Oper} {a : Act} {Q : Exit → Act → World → Prop} (hgd : o.guard = none) (s x : Operand)
    (ho : o.op = .call { callee := .builtin .append, args := #[s, x], argTypes := #[53, 53] })
    (base : Nat) (v : Value) (rows : List (List UInt8)) (hs : a.eval s = v) (hown : Rows' w base v rows)
    (g : Nat) (hx : a.eval x = .slice (some ⟨g, 0, none⟩) 1 1) (A : Option Addr) (c : Nat) (bs : List UInt8) (hcell : w.cell? ⟨g, 0, none⟩ = some (.slice A bs.length c))
    (hp : 0 < bs.length) (hc : bs.length ≤ c) (hc2 : c ≤ 9223372036854775807) (hb : Bys w w.heap.size A bs.length bs) (hne : ∀ ad, A = some ad → v.ownBlock ≠ some ad.block)
    (hbytes : (rows.length + 1) * 24 ≤ 140737488355328) (hbase : base ≤ w.heap.size)
    (h : ∀ P cap w', Rows' w' base (.slice P (rows.length + 1) cap) (rows ++ [bs]) → Turn (fun i => v.ownBlock = some i) w w' → wpList Tryz.prog ops Q rest (a.put o.dst (.slice P (rows.length + 1) cap)) w') : wpList Tryz.prog ops Q (o :: rest) a w := by
  obtain ⟨i, hi⟩ := Option.isSome_iff_exists.1 (show (Tryz.prog.info? 24).isSome = true by kernel_rfl)
  have h0 := infoS
  rw [hi] at h0
  simp only [Option.map_some, Option.some.injEq, Prod.mk.injEq] at h0
  obtain ⟨hz, hsz, hby⟩ := h0
  obtain ⟨vals, h1, h2⟩ := id hown
  refine wpList_append_own_at w hgd s x 53 ho base 24 i (.slice none 0 0) 1 24 Tryz.underlying53 hi hz hsz hby rfl (by omega) v rows.length vals hs h1 ⟨g, 0, none⟩ 1 1 [.slice A bs.length c] hx rfl ?_ ?_ (by unfold maxLen; omega) hbytes hbase ?_
  · intro j u hj
    match j with
    | 0 => simp at hj; subst hj; exact hcell
    | j + 1 => simp at hj
  · intro u hu; simp at hu; subst hu; rfl
  · intro v' w' ho' hg' _ hv'
    have hr : Rows' w' base v' (rows ++ [bs]) := by
      refine Rows'.push (w := w) (v := v) (c := c) hown hp hc hc2 hb hne (fun vals2 h3 => ?_) hg' hv'
      have : vals2 = vals := by
        rcases h1.2 with ⟨rfl, e0⟩ | ⟨g1, cap1, cur1, rfl, _, hg1, _, _, _, t1⟩
        · have a1 := h1.1; have a2 := h3.1
          rw [e0] at a1 a2
          rw [List.eq_nil_of_length_eq_zero (by omega : vals.length = 0), List.eq_nil_of_length_eq_zero (by omega : vals2.length = 0)]
        · rcases h3.2 with ⟨hv, _⟩ | ⟨g2, cap2, cur2, hv, _, hg2, _, _, _, t2⟩
          · cases hv
          · have e2 : g2 = g1 := by injection hv with h1; injection h1 with h1; injection h1 with h1; exact h1.symm
            subst e2
            rw [hg1] at hg2
            have e3 := Option.some.inj hg2
            injection e3 with e4
            rw [← t2, ← t1, e4]
      rw [this]; exact ho'
    obtain ⟨P, cap, hvf, _, _⟩ := hr.form
    rw [List.length_append] at hvf
    subst hvf
    exact h P cap w' hr (turn_grown hg')
end
end Go.Proofs.YtgdjopiejmdbnaaGreatDoor
