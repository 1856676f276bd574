/-
  Slices that read as lists; nfa.anyOf and nfa.mark, by contracts.
-/
import Derived.Test.YtgndcgknedmalaaGreatDoorNfaPlain
import Derived.Test.YtgndcgknedmalaaGreatDoorSl
import Derived.WalkKit
import Derived.OwnWalk
import Derived.ProofKit
import Derived.WalkLawsBesides
import Derived.IntWalk
import Derived.RegionTactic
import Derived.BigRegion
import Derived.ChangeAlike
import Derived.Deep.QuietTactic
import Derived.BigQuiet
import Derived.Deep.RegionHeld3
import Derived.Deep.DrawnRows
import Derived.Outline
import Derived.Test.YtgndcgknedmalaaGreatDoorOwn
import Derived.Maps.AppendAt
namespace Go.Proofs.YtgndcgknedmalaaGreatDoor
open Go.RowKit
set_option linter.unusedVariables false



/-! ### Marks -/
def markB (xs : List Bool) (q : List Nat) : List Bool := q.foldl (fun xs p => xs.set p true) xs
theorem mark_len (q : List Nat) : ∀ xs : List Bool, (markB xs q).length = xs.length := by
  induction q with
  | nil => intro xs; rfl
  | cons p q ih => intro xs; show (markB (xs.set p true) q).length = _; rw [ih, List.length_set]
theorem mark_get (q : List Nat) : ∀ (xs : List Bool) (y : Nat), (∀ p ∈ q, p < xs.length) → (markB xs q).getD y false = (xs.getD y false || q.contains y) := by
  induction q with
  | nil => intro xs y _; simp [markB]
  | cons p q ih =>
    intro xs y hp
    show (markB (xs.set p true) q).getD y false = _
    rw [ih _ y (fun z hz => by rw [List.length_set]; exact hp z (by simp [hz]))]
    have h0 := hp p (by simp)
    by_cases e : p = y
    · subst e
      simp [List.getD, List.getElem?_set_self h0]
    · have e' : ¬ y = p := fun h => e h.symm
      simp [List.getD, List.getElem?_set_ne e, e']
theorem mark_take {xs : List Bool} {q : List Nat} {k p : Nat} (hp : q[k]? = some p) : markB xs (q.take (k + 1)) = (markB xs (q.take k)).set p true := by
  rw [List.take_succ_of hp]; simp [markB, List.foldl_append]
/-- The block of a call's own slice of bools. -/
def boolVals (xs : List Bool) : Array Value := (xs.map Value.bool).toArray
theorem bool_set (xs : List Bool) (p : Nat) : (boolVals xs).setIfInBounds p (.bool true) = boolVals (xs.set p true) := by simp [boolVals, List.map_set]


def OwnI (w : World) (base : Nat) (v : Value) (n : Nat) (xs : List Nat) : Prop := w.ownsRow base 3 1 v n (xs.map natV)
theorem natV_one (xs : List Nat) : ∀ u ∈ xs.map natV, u.oneCell' = true := by
  intro u hu
  obtain ⟨c, _, rfl⟩ := List.mem_map.1 hu
  rfl
theorem infoInt : (Tryz.prog.info? 3).map (fun i => (i.zero, i.size, i.bytes)) = some (some (.int .i64 0), 1, 8) := by kernel_rfl
theorem run_append_ints (w : World) (base : Nat) (ty : TypeId) (v : Value) (n : Nat) (xs : List Nat) (hown : OwnI w base v n xs) (A : Option Addr) (m c : Nat) (ys : List Nat) (hb : Sl natV w A m ys)
    (hnm : n + m ≤ 4000000) (hbase : base ≤ w.heap.size) :
    ∃ v' w', (Builtin.append_ #[39, 39] ty #[v, .slice A m c]).run Tryz.prog w = .ok v' w' ∧ OwnI w' base v' (n + m) (xs ++ ys) ∧ w.grownBy w' v.ownBlock ∧ (v'.ownBlock = v.ownBlock ∨ v'.ownBlock = some w.heap.size) := by
  obtain ⟨i, hi⟩ := Option.isSome_iff_exists.1 (show (Tryz.prog.info? 3).isSome = true by kernel_rfl)
  have h0 := infoInt
  rw [hi] at h0
  simp only [Option.map_some, Option.some.injEq, Prod.mk.injEq] at h0
  obtain ⟨hz, hs, hby⟩ := h0
  have hT := Tryz.underlying39
  rcases A with _ | ad
  · have hm : m = 0 := by
      rcases Nat.eq_zero_or_pos m with h0 | h0
      · exact h0
      · obtain ⟨ad, e, _⟩ := hb.2.2 0 _ (List.getElem?_eq_getElem (by rw [hb.1]; exact h0))
        cases e
    subst hm
    have hn : ys = [] := List.eq_nil_of_length_eq_zero hb.1
    subst hn
    refine ⟨v, w, ?_, by simpa using hown, ⟨rfl, rfl, rfl, Nat.le_refl _, fun _ _ _ => rfl⟩, .inl rfl⟩
    rcases hown.2 with ⟨rfl, rfl⟩ | ⟨g, cap, cur, rfl, _, _, hnc, _⟩
    · simp [Builtin.append_, run_underlying hT, sizeOf, typeInfo, hi, Builtin.lenOf, Builtin.firstCells]
    · simp [Builtin.append_, run_underlying hT, sizeOf, typeInfo, hi, Builtin.lenOf, Builtin.firstCells, hnc, storeCells]
  · have hcells : ∀ j u, (ys.map natV)[j]? = some u → w.cell? (ad.add j) = some u := by
      intro j u hu
      rw [List.getElem?_map] at hu
      obtain ⟨z, hz, rfl⟩ := Option.map_eq_some_iff.1 hu
      obtain ⟨ad', e, _, hcell⟩ := hb.2.2 j z hz
      obtain rfl := Option.some.inj e
      exact hcell
    obtain ⟨v', w', hrun, h2, h3, _, h5⟩ := run_append_own_at (P := Tryz.prog) w base 39 ty 3 i (.int .i64 0) 1 8 hT hi hz hs hby rfl (by omega) v n (xs.map natV) hown ad m c (ys.map natV) (by rw [List.length_map, hb.1]; omega) hcells (natV_one _)
      (by unfold maxLen; omega) (by omega) hbase
    refine ⟨v', w', hrun, ?_, h3, h5⟩
    unfold OwnI
    rw [List.map_append]
    exact h2
section
variable (w : World)
theorem wpList_append_ints {ops : Array Oper} {rest : List Oper} {o : Oper} {a : Act} {Q : Exit → Act → World → Prop} (hgd : o.guard = none) (s x : Operand)
    (ho : o.op = .call { callee := .builtin .append, args := #[s, x], argTypes := #[39, 39] })
    (base : Nat) (v : Value) (n : Nat) (xs : List Nat) (hs : a.eval s = v) (hown : OwnI w base v n xs)
    (A : Option Addr) (m c : Nat) (ys : List Nat) (hx : a.eval x = .slice A m c) (hb : Sl natV w A m ys) (hnm : n + m ≤ 4000000) (hbase : base ≤ w.heap.size)
    (h : ∀ v' w', OwnI w' base v' (n + m) (xs ++ ys) → w.grownBy w' v.ownBlock → (v'.ownBlock = v.ownBlock ∨ v'.ownBlock = some w.heap.size) → wpList Tryz.prog ops Q rest (a.put o.dst v') w') : wpList Tryz.prog ops Q (o :: rest) a w := by
  refine wpList_plain hgd fun K hK => ?_
  obtain ⟨v', w', hr, h2, h3, h4⟩ := run_append_ints w base o.type v n xs hown A m c ys hb hnm hbase
  unfold Oper.wp execOp
  simp only [ho, resolve, invoke, builtin, Sem.run_bind, Sem.run_pure, Result.andThen_ok, List.map_toArray, List.map_cons, List.map_nil, hs, hx, hr]
  exact hK _ _ (h v' w' h2 h3 h4)
end


def strV (s : List UInt8) : Value := .string (strB s)
end Go.Proofs.YtgndcgknedmalaaGreatDoor
