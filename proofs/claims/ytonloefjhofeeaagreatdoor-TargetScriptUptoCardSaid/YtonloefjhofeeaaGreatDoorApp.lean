/-
  'append' onto bytes of the call's own, from any slice of bytes (nil, empty or not); rows of bytes of the call's own.
-/
import Derived.Test.YtonloefjhofeeaaGreatDoorTurn
import Derived.Maps.AppendAt
import Derived.Deep.AppendLies
import Derived.RegionTactic
import Derived.OwnWalk
namespace Go.Proofs.YtonloefjhofeeaaGreatDoor
open Go.RowKit
set_option linter.unusedVariables false

/-- t is a slice of bytes, e their type. -/
structure ByteT (P : Program) (t e : TypeId) : Prop where
  ht : P.underlying t = some (.slice e)
  he : P.underlying e = some (.int .u8)
  hi : (P.info? e).map (fun i => (i.zero, i.size, i.bytes)) = some (some (.int .u8 0), 1, 1)

/-- The slice value v holds the bytes bs in a row of the call's own, from block 'base' on. -/
def OwnB (w : World) (base : Nat) (e : TypeId) (v : Value) (n : Nat) (bs : List UInt8) : Prop := w.ownsRow base e 1 v n (bs.map byteV)
namespace OwnB
variable {w w' : World} {base n : Nat} {e : TypeId} {v : Value} {bs : List UInt8}
theorem nil (w : World) (base : Nat) (e : TypeId) : OwnB w base e (.slice none 0 0) 0 [] := World.ownsRow_nil _ _ _ _
theorem len (h : OwnB w base e v n bs) : bs.length = n := by have := h.1; simpa using this
theorem form (h : OwnB w base e v n bs) : ∃ A cap, v = .slice A n cap ∧ n ≤ cap ∧ cap ≤ 9223372036854775807 ∧ (A = none ∨ ∃ g, A = some ⟨g, 0, none⟩ ∧ base ≤ g ∧ g < w.heap.size) := by
  rcases h.2 with ⟨rfl, rfl⟩ | ⟨g, cap, cur, rfl, hb, hg, hnc, hcm, _⟩
  · exact ⟨none, 0, rfl, Nat.le_refl _, Nat.zero_le _, .inl rfl⟩
  · exact ⟨_, cap, rfl, hnc, by unfold maxLen at hcm; omega, .inr ⟨g, rfl, hb, (Array.getElem?_eq_some_iff.1 hg).1⟩⟩
theorem some_form (h : OwnB w base e v n bs) (hn : 0 < n) : ∃ g cap, v = .slice (some ⟨g, 0, none⟩) n cap ∧ base ≤ g ∧ g < w.heap.size ∧ n ≤ cap ∧ cap ≤ 9223372036854775807 := by
  obtain ⟨g, cap, hv, h1, h2, h3, h4⟩ := own_form h hn
  exact ⟨g, cap, hv, h1, h2, h3, by unfold maxLen at h4; omega⟩
theorem bys {A : Option Addr} {cap : Nat} (h : OwnB w base e (.slice A n cap) n bs) (hm : n ≤ 9223372036854775807) : Bys w w.heap.size A n bs := by
  rcases h.form with ⟨A', cap', hv, _, _, rfl | ⟨g, rfl, _, _⟩⟩
  · obtain rfl : A = none := by injection hv
    rcases h.2 with ⟨_, h0⟩ | ⟨g, cap, cur, hv, _⟩
    · have hl := h.len
      subst h0
      have : bs = [] := List.eq_nil_of_length_eq_zero hl
      subst this
      exact Bys.none_
    · injection hv with h1; cases h1
  · obtain rfl : A = some ⟨g, 0, none⟩ := by injection hv
    exact bys_of_own h (by unfold maxLen; omega)
theorem turn {S : Nat → Prop} {g cap : Nat} (h : OwnB w base e (.slice (some ⟨g, 0, none⟩) n cap) n bs) (ht : Turn S w w') (hg : ¬ S g) : OwnB w' base e (.slice (some ⟨g, 0, none⟩) n cap) n bs := by
  refine ⟨h.1, ?_⟩
  rcases h.2 with ⟨hv, _⟩ | ⟨g', cap', cur, hv, hb, hgg, r⟩
  · injection hv with h1; cases h1
  · have e1 : g' = g := by injection hv with h1; injection h1 with h1; injection h1 with h1; exact h1.symm
    subst e1
    exact .inr ⟨g', cap', cur, hv, hb, by rw [ht.block g' (Array.getElem?_eq_some_iff.1 hgg).1 hg]; exact hgg, r⟩
theorem keep (h : OwnB w base e v n bs) (hk : ∀ i, v.ownBlock = some i → i < w.heap.size → w'.heap[i]? = w.heap[i]?) : OwnB w' base e v n bs := by
  refine ⟨h.1, ?_⟩
  rcases h.2 with h0 | ⟨g, cap, cur, hv, hb, hgg, r⟩
  · exact .inl h0
  · exact .inr ⟨g, cap, cur, hv, hb, by rw [hk g (by rw [hv]; rfl) (Array.getElem?_eq_some_iff.1 hgg).1]; exact hgg, r⟩
theorem alloc (h : OwnB w base e v n bs) (o : Obj) : OwnB (w.alloc o) base e v n bs := h.keep fun i _ hi => Below.heap_alloc w o i hi
theorem drew (h : OwnB w base e v n bs) : OwnB w.drew base e v n bs := h
theorem drewN (h : OwnB w base e v n bs) (k : Nat) : OwnB (w.drewN k) base e v n bs := h
theorem cell {g cap : Nat} (h : OwnB w base e (.slice (some ⟨g, 0, none⟩) n cap) n bs) {j : Nat} {c : UInt8} (hc : bs[j]? = some c) : w.cell? ⟨g, j, none⟩ = some (.int .u8 (c.toNat : Int)) := by
  have h1 := World.ownsRow.cells h rfl j (byteV c) (by rw [List.getElem?_map, hc]; rfl)
  have e : (⟨g, 0, none⟩ : Addr).add j = ⟨g, j, none⟩ := by unfold Addr.add; split <;> simp_all
  rwa [e] at h1
theorem frozen {g cap : Nat} (h : OwnB w base e (.slice (some ⟨g, 0, none⟩) n cap) n bs) (j : Nat) : w.frozen? ⟨g, j, none⟩ = false := World.ownsRow.frozenAt h j
theorem stored {g cap : Nat} (h : OwnB w base e (.slice (some ⟨g, 0, none⟩) n cap) n bs) (j : Nat) (c : UInt8) : OwnB (w.setCell ⟨g, j, none⟩ (.int .u8 (c.toNat : Int))) base e (.slice (some ⟨g, 0, none⟩) n cap) n (bs.set j c) := by
  have := (World.ownsRow.stored h j (byteV c)).1
  unfold OwnB
  rwa [List.map_set]
end OwnB

theorem turn_grown {w w' : World} {v : Value} (h : w.grownBy w' v.ownBlock) : Turn (fun i => v.ownBlock = some i) w w' :=
  ⟨h.os, h.tape, h.output, World.grownBy.size h, fun i hi hne => h.block i hi (fun e => hne e.symm)⟩
theorem own_base {w : World} {base n : Nat} {e : TypeId} {v : Value} {bs : List UInt8} (h : OwnB w base e v n bs) : ∀ i, v.ownBlock = some i → base ≤ i := by
  intro i hi
  rcases h.form with ⟨A, cap, rfl, _, _, rfl | ⟨g, rfl, hb, _⟩⟩
  · simp [Value.ownBlock] at hi
  · simp [Value.ownBlock] at hi; omega

section
variable {P : Program} (w : World)
theorem run_append_bytes (base : Nat) (t ty e : TypeId) (hT : ByteT P t e) (v : Value) (n : Nat) (xs : List UInt8) (hown : OwnB w base e v n xs) (B : Nat) (A : Option Addr) (m c : Nat) (bs : List UInt8) (hb : Bys w B A m bs)
    (hnm : n + m ≤ 140737488355328) (hbase : base ≤ w.heap.size) :
    ∃ v' w', (Builtin.append_ #[t, t] ty #[v, .slice A m c]).run P w = .ok v' w' ∧ OwnB w' base e v' (n + m) (xs ++ bs) ∧ Turn (fun i => v.ownBlock = some i) w w' ∧ (v'.ownBlock = v.ownBlock ∨ v'.ownBlock = some w.heap.size) := by
  obtain ⟨i, hi⟩ : ∃ i, P.info? e = some i := by
    have := hT.hi
    cases h : P.info? e with
    | none => rw [h] at this; cases this
    | some i => exact ⟨i, rfl⟩
  have h0 := hT.hi
  rw [hi] at h0
  simp only [Option.map_some, Option.some.injEq, Prod.mk.injEq] at h0
  obtain ⟨hz, hs, hby⟩ := h0
  rcases A with _ | ad
  · have hm : m = 0 := by
      rcases Nat.eq_zero_or_pos m with h0 | h0
      · exact h0
      · obtain ⟨ad, _, e, _⟩ := hb.at_ h0
        cases e
    subst hm
    have hn : bs = [] := List.eq_nil_of_length_eq_zero hb.1
    subst hn
    refine ⟨v, w, ?_, by simpa using hown, Turn.refl _ _, .inl rfl⟩
    rcases hown.2 with ⟨rfl, rfl⟩ | ⟨g, cap, cur, rfl, _, _, hnc, _⟩
    · simp [Builtin.append_, run_underlying hT.ht, sizeOf, typeInfo, hi, Builtin.lenOf, Builtin.firstCells]
    · simp [Builtin.append_, run_underlying hT.ht, sizeOf, typeInfo, hi, Builtin.lenOf, Builtin.firstCells, hnc, storeCells]
  · have hcells : ∀ j u, (bs.map byteV)[j]? = some u → w.cell? (ad.add j) = some u := by
      intro j u hu
      rw [List.getElem?_map] at hu
      obtain ⟨z, hz, rfl⟩ := Option.map_eq_some_iff.1 hu
      obtain ⟨ad', e, _, hcell⟩ := hb.2.2 j z hz
      obtain rfl := Option.some.inj e
      exact hcell
    obtain ⟨v', w', hrun, h2, h3, _, h5⟩ := run_append_own_at (P := P) w base t ty e i (.int .u8 0) 1 1 hT.ht hi hz hs hby rfl (by omega) v n (xs.map byteV) hown ad m c (bs.map byteV) (by rw [List.length_map, hb.1]; omega) hcells (byteV_one _)
      (by unfold maxLen; omega) (by omega) hbase
    refine ⟨v', w', hrun, ?_, turn_grown h3, h5⟩
    unfold OwnB
    rw [List.map_append]
    exact h2

theorem wp_append_bytes {o : Oper} {a : Act} {K : Act → World → Prop} {Q : Exit → Act → World → Prop} (s x : Operand) (t : TypeId)
    (ho : o.op = .call { callee := .builtin .append, args := #[s, x], argTypes := #[t, t] })
    (base : Nat) (e : TypeId) (hT : ByteT P t e) (v : Value) (n : Nat) (xs : List UInt8) (hs : a.eval s = v) (hown : OwnB w base e v n xs)
    (B : Nat) (A : Option Addr) (m c : Nat) (bs : List UInt8) (hx : a.eval x = .slice A m c) (hb : Bys w B A m bs)
    (k : Nat) (hk : n + m = k) (hnm : k ≤ 140737488355328) (hbase : base ≤ w.heap.size)
    (h : ∀ A' cap' w', OwnB w' base e (.slice A' k cap') k (xs ++ bs) → Turn (fun i => v.ownBlock = some i) w w' → ((Value.slice A' k cap').ownBlock = v.ownBlock ∨ (Value.slice A' k cap').ownBlock = some w.heap.size) →
      k ≤ cap' → cap' ≤ 9223372036854775807 → K (a.put o.dst (.slice A' k cap')) w') : o.wp P a w K Q := by
  subst hk
  obtain ⟨v', w', hrun, h2, h3, h4⟩ := run_append_bytes (P := P) w base t o.type e hT v n xs hown B A m c bs hb hnm hbase
  obtain ⟨A', cap', rfl, h5, h6, _⟩ := h2.form
  unfold Oper.wp execOp
  simp only [ho, resolve, invoke, builtin, Sem.run_bind, Sem.run_pure, Result.andThen_ok, List.map_toArray, List.map_cons, List.map_nil, hs, hx, hrun]
  exact h _ _ w' h2 h3 h4 h5 h6

theorem wpList_append_bytes {ops : Array Oper} {rest : List Oper} {o : Oper} {a : Act} {Q : Exit → Act → World → Prop} (hgd : o.guard = none) (s x : Operand) (t : TypeId)
    (ho : o.op = .call { callee := .builtin .append, args := #[s, x], argTypes := #[t, t] })
    (base : Nat) (e : TypeId) (hT : ByteT P t e) (v : Value) (n : Nat) (xs : List UInt8) (hs : a.eval s = v) (hown : OwnB w base e v n xs)
    (B : Nat) (A : Option Addr) (m c : Nat) (bs : List UInt8) (hx : a.eval x = .slice A m c) (hb : Bys w B A m bs)
    (k : Nat) (hk : n + m = k) (hnm : k ≤ 140737488355328) (hbase : base ≤ w.heap.size)
    (h : ∀ A' cap' w', OwnB w' base e (.slice A' k cap') k (xs ++ bs) → Turn (fun i => v.ownBlock = some i) w w' → ((Value.slice A' k cap').ownBlock = v.ownBlock ∨ (Value.slice A' k cap').ownBlock = some w.heap.size) →
      k ≤ cap' → cap' ≤ 9223372036854775807 → wpList P ops Q rest (a.put o.dst (.slice A' k cap')) w') : wpList P ops Q (o :: rest) a w :=
  wpList_plain hgd fun _ hK => wp_append_bytes w s x t ho base e hT v n xs hs hown B A m c bs hx hb k hk hnm hbase fun A' cap' w' h2 h3 h4 h5 h6 => hK _ _ (h A' cap' w' h2 h3 h4 h5 h6)
end
end Go.Proofs.YtonloefjhofeeaaGreatDoor
