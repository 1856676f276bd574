/-
  A node variable, whole.
-/
import Derived.Test.YtgndcgknedmalaaGreatDoorRegexAtom
import Derived.LoopTactic
import Derived.Test.YtgndcgknedmalaaGreatDoorNfaKey
import Derived.Test.YtgndcgknedmalaaGreatDoorRegexBuild
namespace Go.Proofs.YtgndcgknedmalaaGreatDoor
open Go.RowKit
set_option linter.unusedVariables false

/-- A pattern that lies above a block lies below the heap's size. -/
theorem re_all {w : World} {S : Nat → Prop} {h : Hd} {r : Re} (i : IsS w S h r) : IsS w (fun i => i < w.heap.size) h r := i.mono fun _ _ hg => hg
/-- A node of the call's own, as it lies. -/
theorem node_var {w w' : World} {S : Nat → Prop} {h : Hd} {r : Re} (hi : IsS w S h r) (hw : w.alloc (.cells (hdC h) 76) = w') :
    IsS w' (fun i => i < w'.heap.size) h r ∧ Below w.heap.size w w' ∧ Blk w' w.heap.size 76 (hdC h) := by
  subst hw
  have hb : Below w.heap.size w (w.alloc (.cells (hdC h) 76)) := (Below.refl _ _).alloc (Nat.le_refl _) _
  exact ⟨re_all (hi.below hb), hb, Blk.new _ _ _⟩
theorem min_i (ts : Array TypeId) (t : TypeId) (a : Nat) (b : Int) (k : Nat) (h : min (a : Int) b = (k : Int)) (w : World) :
    (Builtin.min_ ts t #[.int .i64 (a : Int), .int .i64 b]).run Tryz.prog w = .ok (.int .i64 (k : Int)) w := by
  rw [← h]
  by_cases hc : b < (a : Int)
  · simp [Builtin.min_, Builtin.min2, Int.min_def]
    split <;> first | rfl | omega
  · simp [Builtin.min_, Builtin.min2, Int.min_def]
    split <;> first | rfl | omega


/-- A table that a pattern has. -/
structure AuWf (A : Au) : Prop where
  small : Sm A.T
  first : ∀ q ∈ A.first, q < A.T.sets.length
  ends : ∀ p ∈ A.T.leads, p.1 < A.T.groups.length ∧ p.2 < A.T.groups.length
  leads : ∀ p ∈ A.T.leads, ∀ x ∈ A.T.grp p.1, ∀ y ∈ A.T.grp p.2, y < A.T.sets.length
theorem auOf_wf {r : Re} (hs : Sm (addF r tb0).2) : AuWf (auOf r) := by
  have ok := auOf_ok r
  have h := add_grown r tb0
  obtain ⟨ls, e1, _, e2, _⟩ := h.up.leads
  have e3 : (auOf r).T.sets.length = sz r := by rw [ok.sets, ones_len]
  refine ⟨hs, fun q hq => ?_, fun p hp => ?_, fun p hp x hx y hy => ?_⟩
  · rw [ok.first] at hq
    have := fst_in r 0 q hq
    omega
  · have : (auOf r).T.leads = ls := by simpa [auOf, tb0] using e1
    rw [this] at hp
    exact e2 p hp
  · have := fol_in r 0 x y ((ok.fol x y).1 ⟨p, hp, hx, hy⟩)
    omega
theorem run_mkbool (N : Nat) (hN : N ≤ 1000000) (W : World) :
    (Instr.makeSlice 98 (.int .i64 (N : Int)) (.int .i64 (N : Int))).run Tryz.prog W = .ok (.slice (some ⟨W.heap.size, 0, none⟩) N N) (W.alloc (.cells (boolVals (List.replicate N false)) 4)) := by
  obtain ⟨i, hi⟩ := Option.isSome_iff_exists.1 (show (Tryz.prog.info? 4).isSome = true by kernel_rfl)
  have h0 : (Tryz.prog.info? 4).map (fun i => (i.zero, i.bytes, i.size)) = some (some (.bool false), 1, 1) := by kernel_rfl
  rw [hi] at h0
  simp only [Option.map_some, Option.some.injEq, Prod.mk.injEq] at h0
  obtain ⟨hz, hb, hs⟩ := h0
  have h := run_make (P := Tryz.prog) W 98 4 i (.bool false) Tryz.underlying98 hi hz .i64 .i64 (N : Int) (N : Int) (by omega) (by omega) (by rw [hb]; omega) (by omega)
  rw [hs] at h
  simp only [Int.toNat_natCast] at h
  have e : madeCells (Value.bool false).cells (N * 1) = boolVals (List.replicate N false) := by
    apply Array.ext'
    apply List.ext_getElem?
    intro i
    rcases Nat.lt_or_ge i N with hi | hi
    · simp [madeCells, boolVals, Value.cells, hi, Nat.mod_one]
    · simp [madeCells, boolVals, Value.cells, hi]
  rw [e] at h
  exact h
theorem sm_small {r : Re} (h : nds r ≤ 200000) : Sm (addF r tb0).2 := by
  have hg := (add_grown r tb0).up
  have hz := sz_nds r
  obtain ⟨gs, e1, e2, e3⟩ := hg.groups
  obtain ⟨ls, e4, e5, _⟩ := hg.leads
  refine ⟨?_, ?_, ?_, fun q hq => ?_⟩
  · rw [hg.sets]; simp [tb0, ones_len]; omega
  · rw [e1]; simp [tb0]; omega
  · rw [e4]; simp [tb0]; omega
  · rw [e1] at hq
    have := e3 q (by simpa [tb0] using hq)
    omega
def bldS : Nat → Nat
  | 0 => 1
  | d + 1 => 2 * bldS d + 3
theorem bldS_ge (d : Nat) : 1 ≤ bldS d := by cases d <;> simp [bldS]
theorem bld_nds : ∀ (d : Nat) (ns : List UInt8), nds (bldL d ns).2.1 ≤ bldS d
  | d, [] => by unfold bldL; exact bldS_ge d
  | 0, n :: ns => by simp [bldL, nds, bldS]
  | d + 1, n :: ns => by
    have h1 := bld_nds d ns
    have h2 := bld_nds d (bldL d ns).2.2
    unfold bldL
    simp only [bldS]
    split
    · simp only [nds]; omega
    · split
      · simp only [nds]; omega
      · split
        · simp only [nds]; omega
        · split
          · simp only [nds]; omega
          · split
            · simp only [nds]; omega
            · split
              · simp only [nds]; omega
              · simp only [nds]; omega
theorem sm_bld {d : Nat} (hd : d ≤ 3) (ns : List UInt8) : Sm (addF (bldL d ns).2.1 tb0).2 := sm_small (by
  have h := bld_nds d ns
  have : bldS d ≤ 100 := by
    match d, hd with
    | 0, _ => decide
    | 1, _ => decide
    | 2, _ => decide
    | 3, _ => decide
  omega)
theorem au_len {r : Re} : (auOf r).T.sets.length = sz r := by rw [(auOf_ok r).sets, ones_len]
theorem tabA_len {lo g : Nat} {A : Au} {w : World} (h : TabA w lo g A) : Calls Tryz.prog 51 #[.pointer (some ⟨g, 0, none⟩)] w fun e w' => e = .returned (natV A.T.sets.length) ∧ w = w' := by
  obtain ⟨F, c, L, k, ht, _⟩ := h
  exact tlen_any ht
end Go.Proofs.YtgndcgknedmalaaGreatDoor
