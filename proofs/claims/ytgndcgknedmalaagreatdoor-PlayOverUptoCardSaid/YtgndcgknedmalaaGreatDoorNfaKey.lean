/-
  A map whose keys are pairs of numbers: a set of pairs.
-/
import Derived.Test.YtgndcgknedmalaaGreatDoorNfaSl
import Derived.DeepKeys4
import Derived.MapViews
import Derived.Maps.RangeWalk
import Derived.Maps.Ext
import Derived.Test.YtgndcgknedmalaaGreatDoorRegexSets
import Derived.Deep.DeepCutAuto
import Derived.WalkKit
import Derived.OwnWalk
import Derived.ProofKit
import Derived.WalkLawsBesides
import Derived.IntWalk
import Derived.RegionTactic
import Derived.BigRegion
import Derived.ChangeAlike
import Derived.Deep.QuietTactic
import Derived.BigQuiet
import Derived.Deep.RegionHeld3
import Derived.Deep.DrawnRows
import Derived.Outline
import Derived.Lib.AppendZerosOnto
import Derived.Deep.RegionWith
import Derived.Test.YtgndcgknedmalaaGreatDoorRegexAtom
import Derived.Deep.RegionLaw
namespace Go.Proofs.YtgndcgknedmalaaGreatDoor
open Go.RowKit
set_option linter.unusedVariables false

theorem rowK : (130 : TypeId) < Tryz.prog.types.size := of_decide_eq_true (by kernel_rfl)
theorem wideK : (match Tryz.prog.underlying 130 with | some (.array _ _) | some (.struct _) => true | _ => false) = true := by rw [Tryz.underlying130]
theorem laidK : laidOutB Tryz.prog = true := by kernel_rfl
set_option maxRecDepth 100000 in
theorem lawK : Maps.Keyed Tryz.prog 130 := Maps.Keyed.of_law (deep_law_laid laidK (m := 2) (by omega) rowK (by kernel_rfl) wideK)
def pairV (p : Nat × Nat) : Value := .agg #[.int .i64 (p.1 : Int), .int .i64 (p.2 : Int)]
def klf (p : Nat × Nat) : Lit := .string (keyBytes [.int .i64 (p.1 : Int), .int .i64 (p.2 : Int)])
theorem wf_of (n : Nat) (h : n ≤ 9223372036854775807) : (Lit.int .i64 (n : Int)).wf = true := WalkArith.wf_i64 (by omega)
set_option maxRecDepth 100000 in
theorem key_mk (p : Nat × Nat) (h1 : p.1 ≤ 9223372036854775807) (h2 : p.2 ≤ 9223372036854775807) : keyOf Tryz.prog 130 (pairV p) = some (klf p) := by
  unfold keyOf pairV klf
  have hu := Tryz.underlying130
  have w1 := wf_of p.1 h1
  have w2 := wf_of p.2 h2
  have hk : Tryz.prog.keyType 130 = true := by kernel_rfl
  have c1 : Tryz.prog.cellsOf 3 = 1 := by kernel_rfl
  have c2 : Tryz.prog.cellsOf 130 = 2 := by kernel_rfl
  simp only [hu]
  rw [if_pos (by simp [hk, Value.formed, hu, c2])]
  obtain ⟨m, hm⟩ : ∃ m, Tryz.prog.types.size = m + 1 := ⟨Tryz.prog.types.size - 1, (Nat.succ_pred_eq_of_pos (Nat.lt_of_le_of_lt (Nat.zero_le _) rowK)).symm⟩
  rw [hm]
  unfold Program.keyLits
  simp only [hu, Value.cells]
  simp [c1, c2, Program.keyLits, Tryz.underlying3, w1, w2]

set_option maxRecDepth 100000 in
theorem key_inv {key : Value} {kl : Lit} (h : keyOf Tryz.prog 130 key = some kl) : ∃ p : Int × Int, key = .agg #[.int .i64 p.1, .int .i64 p.2] := by
  obtain ⟨xs, L, rfl, hl, _⟩ := keyOf_top wideK h
  have hu := Tryz.underlying130
  have c1 : Tryz.prog.cellsOf 3 = 1 := by kernel_rfl
  have c2 : Tryz.prog.cellsOf 130 = 2 := by kernel_rfl
  unfold Program.keyLits at hl
  simp only [hu] at hl
  split at hl
  · rename_i hx
    rw [c2] at hx
    obtain ⟨l⟩ := xs
    match l, hx.1 with
    | [a, b], _ =>
      obtain ⟨m, hm⟩ : ∃ m, Tryz.prog.types.size = m + 1 := ⟨Tryz.prog.types.size - 1, (Nat.succ_pred_eq_of_pos (Nat.lt_of_le_of_lt (Nat.zero_le _) rowK)).symm⟩
      rw [hm] at hl
      simp only [List.mapM_cons, List.mapM_nil, c1, Program.keyLits, Tryz.underlying3, List.drop_zero, List.take_succ_cons, List.take_zero, List.drop_succ_cons] at hl
      have ha : ∃ x, a = .int .i64 x := by
        cases a <;> simp at hl
        rename_i q n _
        by_cases hq : q = .i64 ∧ (Lit.int .i64 n).wf = true
        · exact ⟨n, by rw [hq.1]⟩
        · rw [if_neg hq] at hl; simp at hl
      obtain ⟨x, rfl⟩ := ha
      have hb : ∃ y, b = .int .i64 y := by
        cases b <;> simp at hl
        rename_i q n _
        by_cases hq : q = .i64 ∧ (Lit.int .i64 n).wf = true
        · exact ⟨n, by rw [hq.1]⟩
        · rw [if_neg hq] at hl
          split at hl <;> simp at hl
      obtain ⟨y, rfl⟩ := hb
      exact ⟨(x, y), rfl⟩
  · cases hl

/-- Block M is a map whose keys are just the pairs of S. -/
def MapS (w : World) (M : Nat) (S : List (Nat × Nat)) : Prop :=
  ∃ (D : DataW Unit) (n : Nat), w.ownsMap Tryz.prog 130 unitElem M n D ∧ n ≤ S.length ∧ ∀ kl, Maps.has D kl = true ↔ ∃ p ∈ S, kl = klf p
theorem MapS.made (w : World) (g : Nat) (hg : g = w.heap.size) : MapS (w.alloc (.map #[] 0)) g [] := by
  subst hg
  exact ⟨_, 0, World.ownsMap_made w _ _ _, Nat.le_refl _, fun kl => by simp [Maps.has]⟩
theorem MapS.lt {w : World} {M : Nat} {S : List (Nat × Nat)} (h : MapS w M S) : M < w.heap.size := by obtain ⟨D, n, h1, _⟩ := h; exact h1.lt
theorem MapS.obj {w : World} {M : Nat} {S : List (Nat × Nat)} (h : MapS w M S) : ∃ es c, w.heap[M]? = some (.map es c) := by obtain ⟨D, n, ⟨es, c, h1, _⟩, _⟩ := h; exact ⟨es, c, h1⟩
theorem MapS.keep {w w' : World} {M : Nat} {S : List (Nat × Nat)} (h : MapS w M S) (hk : w'.heap[M]? = w.heap[M]?) : MapS w' M S := by
  obtain ⟨D, n, ⟨es, c, h1, h2⟩, h3⟩ := h
  exact ⟨D, n, ⟨es, c, hk.trans h1, h2⟩, h3⟩
theorem klf_inj {p q : Nat × Nat} (hp : p.1 ≤ 9223372036854775807 ∧ p.2 ≤ 9223372036854775807) (hq : q.1 ≤ 9223372036854775807 ∧ q.2 ≤ 9223372036854775807) (h : klf p = klf q) : p = q := by
  have h1 := key_mk p hp.1 hp.2
  have h2 := key_mk q hq.1 hq.2
  rw [← h] at h2
  have h3 := lawK.inj h1 h2
  unfold pairV at h3
  simp at h3
  exact Prod.ext (Int.ofNat.inj h3.1) (Int.ofNat.inj h3.2)
/-- One pair more. -/
theorem MapS.put {w : World} {M : Nat} {S : List (Nat × Nat)} (h : MapS w M S) (p : Nat × Nat) (hp : p.1 ≤ 9223372036854775807 ∧ p.2 ≤ 9223372036854775807) (hn : S.length < maxLen) :
    ∃ w', (Instr.mapUpdate 126 (.map (some M)) (pairV p) (.agg #[])).run Tryz.prog w = .ok () w' ∧ MapS w' M (S ++ [p]) ∧ w.grownBy w' (some M) := by
  obtain ⟨D, n, h1, h2, h3⟩ := h
  have hk := key_mk p hp.1 hp.2
  obtain ⟨w', hrun, r1, r2⟩ := h1.update lawK Tryz.underlying126 (Nat.lt_of_le_of_lt h2 hn) hk unitElem_mk
  refine ⟨w', hrun, ⟨_, _, r1, by rw [List.length_append]; simp; omega, fun kl => ?_⟩, r2⟩
  have hm : Maps.IsMap D := h1.isMap
  by_cases e : kl = klf p
  · subst e
    rw [Maps.has_put_same hm (lawK.key hk)]
    simp
  · rw [Maps.has_put_other e, h3]
    constructor
    · rintro ⟨q, hq, he⟩; exact ⟨q, List.mem_append_left _ hq, he⟩
    · rintro ⟨q, hq, he⟩
      rcases List.mem_append.1 hq with hq | hq
      · exact ⟨q, hq, he⟩
      · simp at hq; subst hq; exact absurd he e


def setL (s : St) : List Value := [.int .u64 (s.a.toNat : Int), .int .u64 (s.b.toNat : Int), .int .u64 (s.c.toNat : Int), .int .u64 (s.d.toNat : Int)]
/-- Block g is a table; what it leads to lies at or above block lo, each row in a block of its own. -/
structure TabIn (w : World) (lo g : Nat) (v3 v4 v5 : Value) (T : TbD) (vs vg : Value) (M : Nat) (vals : List Value) : Prop where
  blk : Blk w g 128 #[vs, vg, .map (some M), v3, v4, v5]
  log : lo ≤ g
  lom : lo ≤ M
  sets : w.ownsRow lo 73 4 vs T.sets.length (T.sets.flatMap setL)
  groups : w.ownsRow lo 39 1 vg T.groups.length vals
  rows : ∀ (i : Nat) (q : List Nat), T.groups[i]? = some q → ∃ v, vals[i]? = some v ∧ w.ownsRow lo 3 1 v q.length (q.map natV)
  leads : MapS w M T.leads
def Tab (w : World) (lo g : Nat) (v3 v4 v5 : Value) (T : TbD) : Prop := ∃ vs vg M vals, TabIn w lo g v3 v4 v5 T vs vg M vals
structure Small (T : TbD) : Prop where
  sets : T.sets.length ≤ 1000000
  groups : T.groups.length ≤ 1000000
  leads : T.leads.length ≤ 1000000
  rows : ∀ q ∈ T.groups, q.length ≤ 1000000

/-! ### What a table's functions may turn -/
def mov : Obj → Prop
  | .cells _ t _ => t = 128 ∨ t = 73 ∨ t = 39
  | .map _ _ => True
  | _ => False
def Mv (lo : Nat) (w : World) (i : Nat) : Prop := lo ≤ i ∧ ∃ o, w.heap[i]? = some o ∧ mov o
/-- Only a table's own blocks, from block lo on, and what is new, have turned. -/
def Tn (lo : Nat) (a w : World) : Prop := Turn (Mv lo a) a w
namespace Tn
variable {lo : Nat} {a b w : World}
theorem refl (lo : Nat) (w : World) : Tn lo w w := Turn.refl _ _
theorem trans (h : Tn lo a b) (k : Tn lo b w) : Tn lo a w := by
  refine ⟨k.os.trans h.os, k.tape.trans h.tape, k.output.trans h.output, Nat.le_trans h.size k.size, fun i hi hn => ?_⟩
  have h1 := h.block i hi hn
  refine (k.block i (Nat.lt_of_lt_of_le hi h.size) (fun hm => hn ?_)).trans h1
  obtain ⟨h2, o, h3, h4⟩ := hm
  exact ⟨h2, o, h1.symm.trans h3, h4⟩
theorem of_below (h : Below a.heap.size a w) : Tn lo a w := Turn.of_below h
theorem below (h : Tn lo a w) (hs : lo ≤ a.heap.size) : Below lo a w := Turn.below h (fun i hi => hi.1) hs
theorem blk {g : Nat} {t : TypeId} {cs : Array Value} (h : Tn lo a w) (hb : Blk a g t cs) (ht : ¬ (t = 128 ∨ t = 73 ∨ t = 39)) : Blk w g t cs :=
  Turn.blk h hb fun hm => by
    obtain ⟨_, o, h3, h4⟩ := hm
    unfold Blk at hb
    rw [hb] at h3
    obtain rfl := Option.some.inj h3
    exact ht h4
theorem low {g : Nat} {t : TypeId} {cs : Array Value} (h : Tn lo a w) (hb : Blk a g t cs) (hg : g < lo) : Blk w g t cs := Turn.blk h hb fun hm => by have := hm.1; omega
theorem alloc (h : Tn lo a w) (o : Obj) : Tn lo a (w.alloc o) := Turn.alloc h o
theorem drew (h : Tn lo a w) : Tn lo a w.drew := Turn.drew h
theorem drewN (h : Tn lo a w) (n : Nat) : Tn lo a (w.drewN n) := Turn.drewN h n
theorem setCell (h : Tn lo a w) {p : Addr} (hp : Mv lo a p.block ∨ a.heap.size ≤ p.block) (u : Value) : Tn lo a (w.setCell p u) := Turn.setCell h hp u
theorem grown {row : Option Nat} (h : a.grownBy w row) (hr : ∀ i, row = some i → Mv lo a i ∨ a.heap.size ≤ i) : Tn lo a w :=
  ⟨h.os, h.tape, h.output, h.size, fun i hi hn => h.block i hi (fun e => by
    rcases hr i e.symm with h1 | h1
    · exact hn h1
    · omega)⟩
theorem size (h : Tn lo a w) : a.heap.size ≤ w.heap.size := Turn.size h
/-- A row of numbers of the call's own stays. -/
theorem row {base : Nat} {v : Value} {n : Nat} {xs : List Value} (h : Tn lo a w) (hr : a.ownsRow base 3 1 v n xs) : w.ownsRow base 3 1 v n xs := by
  refine ⟨hr.1, ?_⟩
  rcases hr.2 with h0 | ⟨g, cap, cur, hv, hb, hg, r⟩
  · exact .inl h0
  · exact .inr ⟨g, cap, cur, hv, hb, h.blk (t := 3) hg (by decide), r⟩
end Tn
theorem IsRe.tn {lo : Nat} {a w : World} {S : Nat → Prop} {h : Hd} {r : Re} (i : IsS a S h r) (t : Tn lo a w) (hS : ∀ g, S g → g < lo) : IsS w S h r :=
  i.keep fun g hg hl => t.block g hl fun hm => by have := hm.1; have := hS g hg; omega
theorem blk_ne {w : World} {g g' : Nat} {t t' : TypeId} {cs cs' : Array Value} (h : Blk w g t cs) (h' : Blk w g' t' cs') (hne : t ≠ t') : g ≠ g' := by
  rintro rfl
  unfold Blk at h h'
  rw [h] at h'
  injection h' with h'
  injection h' with _ h'
  exact hne h'
namespace TabIn
variable {w w' : World} {lo g : Nat} {v3 v4 v5 : Value} {T : TbD} {vs vg : Value} {M : Nat} {vals : List Value}
theorem mvg (h : TabIn w lo g v3 v4 v5 T vs vg M vals) : Mv lo w g := ⟨h.log, _, h.blk, .inl rfl⟩
theorem mvm (h : TabIn w lo g v3 v4 v5 T vs vg M vals) : Mv lo w M := by
  obtain ⟨es, c, ho⟩ := h.leads.obj
  exact ⟨h.lom, _, ho, trivial⟩
theorem mvs (h : TabIn w lo g v3 v4 v5 T vs vg M vals) {i : Nat} (hi : vs.ownBlock = some i) : Mv lo w i := by
  obtain ⟨cur, hb⟩ := own_obj h.sets hi
  exact ⟨(h.sets.lt i hi).1, _, hb, .inr (.inl rfl)⟩
theorem mvv (h : TabIn w lo g v3 v4 v5 T vs vg M vals) {i : Nat} (hi : vg.ownBlock = some i) : Mv lo w i := by
  obtain ⟨cur, hb⟩ := own_obj h.groups hi
  exact ⟨(h.groups.lt i hi).1, _, hb, .inr (.inr rfl)⟩
theorem ne_gm (h : TabIn w lo g v3 v4 v5 T vs vg M vals) : g ≠ M := by
  rintro rfl
  obtain ⟨es, c, ho⟩ := h.leads.obj
  have := h.blk
  unfold Blk at this
  rw [this] at ho
  cases ho
theorem ne_mv (h : TabIn w lo g v3 v4 v5 T vs vg M vals) : vg.ownBlock ≠ some M := fun e => by
  obtain ⟨cur, hb⟩ := own_obj h.groups e
  obtain ⟨es, c, ho⟩ := h.leads.obj
  unfold Blk at hb
  rw [hb] at ho
  cases ho
theorem ne_ms (h : TabIn w lo g v3 v4 v5 T vs vg M vals) : vs.ownBlock ≠ some M := fun e => by
  obtain ⟨cur, hb⟩ := own_obj h.sets e
  obtain ⟨es, c, ho⟩ := h.leads.obj
  unfold Blk at hb
  rw [hb] at ho
  cases ho
theorem ne_gv (h : TabIn w lo g v3 v4 v5 T vs vg M vals) : vg.ownBlock ≠ some g := fun e => by
  obtain ⟨cur, hb⟩ := own_obj h.groups e
  exact blk_ne hb h.blk (by decide) rfl
theorem ne_gs (h : TabIn w lo g v3 v4 v5 T vs vg M vals) : vs.ownBlock ≠ some g := fun e => by
  obtain ⟨cur, hb⟩ := own_obj h.sets e
  exact blk_ne hb h.blk (by decide) rfl
theorem ne_vs (h : TabIn w lo g v3 v4 v5 T vs vg M vals) {i j : Nat} (hi : vs.ownBlock = some i) (hj : vg.ownBlock = some j) : i ≠ j := by
  obtain ⟨cur, hb⟩ := own_obj h.sets hi
  obtain ⟨cur', hb'⟩ := own_obj h.groups hj
  exact blk_ne hb hb' (by decide)
/-- Nothing of the table has turned. -/
theorem keep (h : TabIn w lo g v3 v4 v5 T vs vg M vals) (hb : Below w.heap.size w w') : TabIn w' lo g v3 v4 v5 T vs vg M vals :=
  ⟨h.blk.below hb h.blk.lt, h.log, h.lom, own_keep h.sets fun i hi hl => hb.block i hl, own_keep h.groups fun i hi hl => hb.block i hl,
    fun i q hq => by obtain ⟨v, e, hr⟩ := h.rows i q hq; exact ⟨v, e, own_keep hr fun i _ hl => hb.block i hl⟩, h.leads.keep (hb.block M h.leads.lt)⟩
end TabIn
theorem Tab.keep {w w' : World} {lo g : Nat} {v3 v4 v5 : Value} {T : TbD} (h : Tab w lo g v3 v4 v5 T) (hb : Below w.heap.size w w') : Tab w' lo g v3 v4 v5 T := by
  obtain ⟨vs, vg, M, vals, h⟩ := h
  exact ⟨vs, vg, M, vals, h.keep hb⟩


theorem infoI : (Tryz.prog.info? 39).map (fun i => (i.zero, i.size, i.bytes)) = some (some (.slice none 0 0), 1, 24) := by kernel_rfl
section
variable (w : World)
/-- 'append(t.groups, places)'. -/
theorem wpList_append_grp {ops : Array Oper} {rest : List Oper} {o : Oper} {a : Act} {Q : Exit → Act → World → Prop} (hgd : o.guard = none) (s x : Operand)
    (ho : o.op = .call { callee := .builtin .append, args := #[s, x], argTypes := #[125, 125] })
    (base : Nat) (v : Value) (n : Nat) (vals : List Value) (hs : a.eval s = v) (hown : w.ownsRow base 39 1 v n vals)
    (g : Nat) (hx : a.eval x = .slice (some ⟨g, 0, none⟩) 1 1) (A : Option Addr) (m c : Nat) (hcell : w.cell? ⟨g, 0, none⟩ = some (.slice A m c))
    (hn : n < 1000000) (hbase : base ≤ w.heap.size)
    (h : ∀ P cap w', w'.ownsRow base 39 1 (.slice P (n + 1) cap) (n + 1) (vals ++ [.slice A m c]) → w.grownBy w' v.ownBlock → ((Value.slice P (n + 1) cap).ownBlock = v.ownBlock ∨ (Value.slice P (n + 1) cap).ownBlock = some w.heap.size) →
      wpList Tryz.prog ops Q rest (a.put o.dst (.slice P (n + 1) cap)) w') : wpList Tryz.prog ops Q (o :: rest) a w := by
  obtain ⟨i, hi⟩ := Option.isSome_iff_exists.1 (show (Tryz.prog.info? 39).isSome = true by kernel_rfl)
  have h0 := infoI
  rw [hi] at h0
  simp only [Option.map_some, Option.some.injEq, Prod.mk.injEq] at h0
  obtain ⟨hz, hsz, hby⟩ := h0
  refine wpList_append_own_at w hgd s x 125 ho base 39 i (.slice none 0 0) 1 24 Tryz.underlying125 hi hz hsz hby rfl (by omega) v n vals hs hown ⟨g, 0, none⟩ 1 1 [.slice A m c] hx rfl ?_ ?_ (by unfold maxLen; omega) (by omega) hbase ?_
  · intro j u hj
    match j with
    | 0 => simp at hj; subst hj; exact hcell
    | j + 1 => simp at hj
  · intro u hu; simp at hu; subst hu; rfl
  · intro v' w' ho' hg' _ hv'
    obtain ⟨P, cap, rfl, _, _⟩ := own_val ho'
    exact h P cap w' ho' hg' hv'
end

theorem get_push {α : Type} {l : List α} {x y : α} {i : Nat} (h : (l ++ [x])[i]? = some y) : l[i]? = some y ∨ (i = l.length ∧ y = x) := by
  rcases Nat.lt_or_ge i l.length with h1 | h1
  · rw [List.getElem?_append_left h1] at h; exact .inl h
  · rw [List.getElem?_append_right h1] at h
    rcases Nat.eq_or_lt_of_le h1 with h2 | h2
    · subst h2
      simp at h
      exact .inr ⟨rfl, h.symm⟩
    · rw [show i - l.length = (i - l.length - 1) + 1 by omega] at h; simp at h
theorem push_tab {lo g : Nat} {v3 v4 v5 : Value} {T : TbD} {vs vg vg' : Value} {M : Nat} {vals : List Value} {w1 w2 : World} {v : Value} {q : List Nat} (h : TabIn w1 lo g v3 v4 v5 T vs vg M vals)
    (hv : w1.ownsRow lo 3 1 v q.length (q.map natV)) (ho : w2.ownsRow lo 39 1 vg' (T.groups.length + 1) (vals ++ [v])) (hg : w1.grownBy w2 vg.ownBlock) (hv2 : vg'.ownBlock = vg.ownBlock ∨ vg'.ownBlock = some w1.heap.size) :
    Tab (w2.setCell ⟨g, 1, none⟩ vg') lo g v3 v4 v5 (T.push q) ∧ Tn lo w1 (w2.setCell ⟨g, 1, none⟩ vg') ∧ ∀ i cs, Blk w1 i 73 cs → Blk (w2.setCell ⟨g, 1, none⟩ vg') i 73 cs := by
  have t1 : Tn lo w1 w2 := Tn.grown hg fun i hi => .inl (h.mvv hi)
  have t2 : Tn lo w1 (w2.setCell ⟨g, 1, none⟩ vg') := t1.setCell (.inl h.mvg) _
  have k2 : Blk w2 g _ _ := (hg.block g h.blk.lt (fun e => h.ne_gv e.symm)).trans h.blk
  have far : ∀ i, i ≠ g → (w2.setCell ⟨g, 1, none⟩ vg').heap[i]? = w2.heap[i]? := fun i hi => Below.heap_setCell w2 ⟨g, 1, none⟩ vg' i hi
  have hlen : vals.length = T.groups.length := by have := h.groups.1; omega
  have hset : ∀ i cs, Blk w1 i 73 cs → Blk (w2.setCell ⟨g, 1, none⟩ vg') i 73 cs := fun i cs hb => by
    refine ((far i (blk_ne hb h.blk (by decide))).trans (hg.block i hb.lt (fun e => ?_))).trans hb
    obtain ⟨cur, hc⟩ := own_obj h.groups e.symm
    exact blk_ne hb hc (by decide) rfl
  refine ⟨⟨vs, vg', M, vals ++ [v], ?_⟩, t2, hset⟩
  refine ⟨by simpa using k2.put 1 vg', h.log, h.lom, ?_, ?_, ?_, ?_⟩
  · refine own_keep h.sets fun i hi hl => (far i (fun e => h.ne_gs (e ▸ hi))).trans (hg.block i hl (fun e => h.ne_vs hi e.symm rfl))
  · rw [show (T.push q).groups.length = T.groups.length + 1 by simp [TbD.push]]
    refine own_keep ho fun i hi hl => far i (fun e => ?_)
    subst e
    rcases hv2 with e | e
    · exact h.ne_gv (e ▸ hi)
    · rw [hi] at e
      have := Option.some.inj e
      have := h.blk.lt
      omega
  · intro i p hp
    rcases get_push hp with hp | ⟨rfl, rfl⟩
    · obtain ⟨u, hu, hr⟩ := h.rows i p hp
      exact ⟨u, by rw [List.getElem?_append_left (lt_of_get hu)]; exact hu, t2.row hr⟩
    · exact ⟨v, by rw [← hlen]; simp, t2.row hv⟩
  · exact h.leads.keep ((far M (fun e => h.ne_gm e.symm)).trans (hg.block M h.leads.lt (fun e => h.ne_mv e.symm)))
set_option maxHeartbeats 1000000 in
theorem group_set {lo g : Nat} {v3 v4 v5 : Value} {T : TbD} (q : List Nat) (A : Option Addr) (c : Nat) {w : World} (ht : Tab w lo g v3 v4 v5 T) (hv : w.ownsRow lo 3 1 (.slice A q.length c) q.length (q.map natV)) (hlo : lo ≤ w.heap.size) (hn : T.groups.length < 1000000) :
    Calls Tryz.prog 121 #[.pointer (some ⟨g, 0, none⟩), .slice A q.length c] w fun e w' => e = .returned (natV T.groups.length) ∧ Tab w' lo g v3 v4 v5 (T.push q) ∧ Tn lo w w' ∧ ∀ i cs, Blk w i 73 cs → Blk w' i 73 cs := by
  obtain ⟨vs, vg, M, vals, h⟩ := ht
  obtain ⟨w1, hw1⟩ : ∃ w1, w.alloc (.cells #[.slice A q.length c] 39) = w1 := ⟨_, rfl⟩
  have hs1 : w1.heap.size = w.heap.size + 1 := by rw [← hw1]; simp
  have hbl1 : Below w.heap.size w w1 := by rw [← hw1]; exact (Below.refl _ _).alloc (Nat.le_refl _) _
  have H1 := keepHid (h.keep hbl1)
  have HV1 : Hid (w1.ownsRow lo 3 1 (.slice A q.length c) q.length (q.map natV)) := keepHid (own_keep hv fun i _ hl => hbl1.block i hl)
  have HC1 : Hid (w1.cell? ⟨w.heap.size, 0, none⟩ = some (.slice A q.length c)) := keepHid (by rw [← hw1]; simp)
  have HB1 := keepHid hbl1
  have HLO : Hid (lo ≤ w1.heap.size) := keepHid (by omega)
  have HN := keepHid hn
  have HL := keepHid hlo
  obtain ⟨c0, c1⟩ : w.cell? ⟨g, 0, none⟩ = some vs ∧ w.cell? ⟨g, 1, none⟩ = some vg := ⟨h.blk.cell 0, h.blk.cell 1⟩
  have H := keepHid h
  have HS1 := keepHid hs1
  clear h hv hbl1 hs1 hlo
  go_enter Tryz.func121, Tryz.ntmps121
  have HBK1 := keepHid H1.out.blk
  have hne : vg.ownBlock ≠ some g := H1.out.ne_gv
  have HNE := keepHid hne
  have hn' : (T.groups.length : Int) ≤ 9223372036854775806 := by omega
  clear hne hn
  generalize hgl : T.groups.length = N at *
  have HGL := keepHid hgl
  clear hgl
  go_wp2_with (first | (at_builtin; refine wpList_append_grp _ rfl _ _ rfl lo vg N vals rfl (by rw [← HGL.out]; exact H1.out.groups) w.heap.size rfl A q.length c HC1.out HN.out HLO.out ?_; intro P cap w2 ho2 hg2 hv2; have HK2 : Hid (Blk w2 g _ _) := keepHid ((hg2.block g HBK1.out.lt (fun e => HNE.out e.symm)).trans HBK1.out); have d1 : w2.cell? ⟨g, 1, none⟩ = some vg := HK2.out.cell 1; have df := HK2.out.frozen 1; have HO2 := keepHid ho2; have HG2 := keepHid hg2; have HV2 := keepHid hv2; clear ho2 hg2 hv2))
  go_ret
  have hgl := HGL.out
  subst hgl
  obtain ⟨r1, r2, r3⟩ := push_tab H1.out HV1.out HO2.out HG2.out HV2.out
  exact ⟨by rfl, r1, (Tn.of_below HB1.out).trans r2, fun i cs hb => r3 i cs (hb.below HB1.out hb.lt)⟩
theorem group_any {lo g : Nat} {v3 v4 v5 : Value} {T : TbD} (q : List Nat) (A : Option Addr) (c : Nat) {w : World} (ht : Tab w lo g v3 v4 v5 T) (hv : w.ownsRow lo 3 1 (.slice A q.length c) q.length (q.map natV)) (hlo : lo ≤ w.heap.size) (hn : T.groups.length < 1000000) :
    Calls Tryz.prog 121 #[.pointer (some ⟨g, 0, none⟩), .slice A q.length c] w fun e w' => e = .returned (natV T.groups.length) ∧ Tab w' lo g v3 v4 v5 (T.push q) ∧ Tn lo w w' :=
  (group_set q A c ht hv hlo hn).mono fun _ _ ⟨h1, h2, h3, _⟩ => ⟨h1, h2, h3⟩


theorem tlen_any {lo g : Nat} {v3 v4 v5 : Value} {T : TbD} {w : World} (ht : Tab w lo g v3 v4 v5 T) :
    Calls Tryz.prog 51 #[.pointer (some ⟨g, 0, none⟩)] w fun e w' => e = .returned (natV T.sets.length) ∧ w = w' := by
  obtain ⟨vs, vg, M, vals, h⟩ := ht
  obtain ⟨A, c, rfl, _, _⟩ := own_val h.sets
  have c0 : w.cell? ⟨g, 0, none⟩ = some (.slice A T.sets.length c) := h.blk.cell 0
  clear h
  go_enter Tryz.func51, Tryz.ntmps51
  go_wp2
  go_ret
  exact ⟨rfl, rfl⟩
def partV (p : Prt) : Value := .agg #[.bool p.e, .int .i64 (p.f : Int), .int .i64 (p.l : Int)]
def partC (p : Prt) : Array Value := #[.bool p.e, .int .i64 (p.f : Int), .int .i64 (p.l : Int)]
theorem blk3 {w : World} {g : Nat} {t : TypeId} {a0 a1 a2 : Value} (h : Blk w g t #[a0, a1, a2]) : w.cell? ⟨g, 0, none⟩ = some a0 ∧ w.cell? ⟨g, 1, none⟩ = some a1 ∧ w.cell? ⟨g, 2, none⟩ = some a2 ∧ ∀ i, w.frozen? ⟨g, i, none⟩ = false :=
  ⟨h.cell 0, h.cell 1, h.cell 2, h.frozen⟩
theorem lead_tab {lo g : Nat} {v3 v4 v5 : Value} {T : TbD} {vs vg : Value} {M : Nat} {vals : List Value} {w w' : World} {a b : Prt} (h : TabIn w lo g v3 v4 v5 T vs vg M vals) (hm : MapS w' M (T.leads ++ [(a.l, b.f)])) (hg : w.grownBy w' (some M)) :
    Tab w' lo g v3 v4 v5 (leadF a b T) ∧ Tn lo w w' := by
  have t1 : Tn lo w w' := Tn.grown hg fun i hi => .inl (by injection hi with hi; subst hi; exact h.mvm)
  refine ⟨⟨vs, vg, M, vals, ?_⟩, t1⟩
  refine ⟨(hg.block g h.blk.lt (fun e => h.ne_gm (by injection e))).trans h.blk, h.log, h.lom, ?_, ?_, fun i q hq => ?_, hm⟩
  · exact own_keep h.sets fun i hi hl => hg.block i hl (fun e => h.ne_ms (e ▸ hi))
  · exact own_keep h.groups fun i hi hl => hg.block i hl (fun e => h.ne_mv (e ▸ hi))
  · obtain ⟨v, hv, hr⟩ := h.rows i q hq
    exact ⟨v, hv, t1.row hr⟩
set_option maxHeartbeats 1000000 in
theorem lead_any {lo g : Nat} {v3 v4 v5 : Value} {T : TbD} (a b : Prt) {w : World} (ht : Tab w lo g v3 v4 v5 T) (hn : T.leads.length < 1000000) (ha : a.l < 1000000) (hb : b.f < 1000000) :
    Calls Tryz.prog 122 #[.pointer (some ⟨g, 0, none⟩), partV a, partV b] w fun e w' => e = .returned (.tuple #[]) ∧ Tab w' lo g v3 v4 v5 (leadF a b T) ∧ Tn lo w w' := by
  obtain ⟨w2, hw2⟩ : ∃ w2, (w.alloc (.cells (partC a) 183)).alloc (.cells (partC b) 183) = w2 := ⟨_, rfl⟩
  have hbl : Below w.heap.size w w2 := by rw [← hw2]; exact ((Below.refl _ _).alloc (Nat.le_refl _) _).alloc (by simp) _
  have ka : Blk w2 w.heap.size 183 (partC a) := by rw [← hw2]; exact (Blk.new _ _ _).alloc _
  have kb : Blk w2 (w.heap.size + 1) 183 (partC b) := by rw [← hw2]; exact Blk.new_at _ _ _ _ (by simp)
  obtain ⟨vs, vg, M, vals, h0⟩ := Tab.keep ht hbl
  obtain ⟨w3, hrun, hm3, hg3⟩ := MapS.put (w := w2.drew) h0.leads (a.l, b.f) ⟨by simp; omega, by simp; omega⟩ (by unfold maxLen; omega)
  have HF : Hid (Tab w3 lo g v3 v4 v5 (leadF a b T) ∧ Tn lo w w3) := keepHid (by
    obtain ⟨r1, r2⟩ := lead_tab (a := a) (b := b) (w := w2.drew) (h0.keep (Below.drew (Below.refl _ _))) hm3 hg3
    exact ⟨r1, (Tn.of_below (w := w2.drew) hbl.drew).trans r2⟩)
  have c2 : w2.cell? ⟨g, 2, none⟩ = some (.map (some M)) := h0.blk.cell 2
  have c2' : w3.cell? ⟨g, 2, none⟩ = some (.map (some M)) := (World.cell?_of_block (hg3.block g h0.blk.lt (fun e => h0.ne_gm (by injection e)))).trans c2
  have hMa : ∀ {i : Nat} {cs : Array Value}, Blk w2 i 183 cs → Blk w3 i 183 cs := fun {i cs} hk => by
    refine (hg3.block i hk.lt (fun e => ?_)).trans hk
    injection e with e
    subst e
    obtain ⟨es, c, ho⟩ := h0.leads.obj
    unfold Blk at hk
    rw [hk] at ho
    cases ho
  have ka3 := hMa ka
  have kb3 := hMa kb
  unfold partC at ka kb ka3 kb3 hw2
  obtain ⟨a0, a1, a2, _⟩ := blk3 ka
  obtain ⟨b0, b1, b2, _⟩ := blk3 kb
  obtain ⟨a0', a1', a2', _⟩ := blk3 ka3
  obtain ⟨b0', b1', b2', _⟩ := blk3 kb3
  unfold partV pairV at *
  simp only at hrun
  clear ka kb ka3 kb3 h0 hm3 hg3 hMa hbl ht hn ha hb
  go_enter Tryz.func122, Tryz.ntmps122
  go_wp2
  first | (go_region_held3 (fun w' => w'.cell? ⟨g, 2, none⟩ = some (.map (some M)) ∧ w'.cell? ⟨w.heap.size, 2, none⟩ = some (.int .i64 (a.l : Int)) ∧ w'.cell? ⟨w.heap.size + 1, 1, none⟩ = some (.int .i64 (b.f : Int))) (first | exact ⟨c2, a2, b1⟩ | exact ⟨c2', a2', b1'⟩) (fail)) | fail
  all_goals
    go_wp2
    go_end0
    exact ⟨rfl, HF.out⟩


section
variable (w : World)
/-- 'append(nil, make([]int, n)...)', cut to nothing. -/
theorem wpList_append_room {ops : Array Oper} {rest : List Oper} {o : Oper} {a : Act} {Q : Exit → Act → World → Prop} (hgd : o.guard = none) (s x : Operand)
    (ho : o.op = .call { callee := .builtin .append, args := #[s, x], argTypes := #[39, 3] })
    (n : Nat) (hs : a.eval s = .slice none 0 0) (hx : a.eval x = .int .i64 (n : Int)) (h0 : 0 < n) (hn : n ≤ 4000000)
    (h : ∀ g cap w', n ≤ cap → cap ≤ 9223372036854775807 → OwnI w' w.heap.size (.slice (some ⟨g, 0, none⟩) 0 cap) 0 [] → w.heap.size ≤ g → Below w.heap.size w w' → wpList Tryz.prog ops Q rest (a.put o.dst (.slice (some ⟨g, 0, none⟩) n cap)) w') : wpList Tryz.prog ops Q (o :: rest) a w := by
  refine wpList_plain hgd fun K hK => ?_
  obtain ⟨i, hi⟩ := Option.isSome_iff_exists.1 (show (Tryz.prog.info? 3).isSome = true by kernel_rfl)
  have h1 := infoInt
  rw [hi] at h1
  simp only [Option.map_some, Option.some.injEq, Prod.mk.injEq] at h1
  obtain ⟨hz, hsz, hby⟩ := h1
  have hr := Lib.run_append_grow_zeros (P := Tryz.prog) w 39 3 o.type 3 i (.int .i64 0) .i64 .i64 Tryz.underlying39 Tryz.underlying3 hi hz none 0 0 [] (by simp [Builtin.firstCells]) n h0 (by omega) (by omega) (by omega) (by rw [hby]; omega) (growslice_fits (by omega) (by rw [hby]; omega))
  simp only [Nat.zero_add] at hr
  have hge := grownCap_ge w n 0 3
  have hle := grownCap_le_maxLen w n 0 3 (by unfold maxLen; omega)
  unfold Oper.wp execOp
  simp only [ho, resolve, invoke, builtin, Sem.run_bind, Sem.run_pure, Result.andThen_ok, List.map_toArray, List.map_cons, List.map_nil, hs, hx, hr]
  refine hK _ _ (h _ _ _ hge (by unfold maxLen at hle; exact hle) ?_ (Nat.le_refl _) ?_)
  · refine ⟨rfl, .inr ⟨_, _, _, rfl, Nat.le_refl _, heap_alloc_new w.drew _, Nat.zero_le _, hle, ?_, by simp⟩⟩
    simp only [Array.size_append, List.size_toArray, size_zeroCells, List.length_nil, show (Value.int IntKind.i64 0).cells.size = 1 from rfl]
    omega
  · exact (Below.drew (Below.refl _ _)).alloc (Nat.le_refl _) _
end

def GrowPost (w : World) (e : Ending) (w' : World) : Prop := ∃ P cap, e = .returned (.slice P 0 cap) ∧ cap ≤ 9223372036854775807 ∧ OwnI w' w.heap.size (.slice P 0 cap) 0 [] ∧ Below w.heap.size w w'
set_option maxHeartbeats 1000000 in
theorem grow_any (n : Nat) (hn : n ≤ 4000000) (w : World) : Calls Tryz.prog 138 #[.slice none 0 0, .int .i64 (n : Int)] w (GrowPost w) := by
  have HN := keepHid hn
  have hi : (n : Int) ≤ 9223372036854775806 := by omega
  clear hn
  rcases Nat.eq_zero_or_pos n with h0 | h0
  · subst h0
    go_enter Tryz.func138, Tryz.ntmps138
    go_wp2
    go_ret
    exact ⟨none, 0, rfl, by omega, World.ownsRow_nil _ _ _ _, Below.refl _ _⟩
  · have hpos : (0 : Int) < (n : Int) := by omega
    have HP := keepHid h0
    clear h0
    go_enter Tryz.func138, Tryz.ntmps138
    go_wp2_with (first | (at_builtin; refine wpList_append_room _ rfl _ _ rfl n rfl rfl HP.out HN.out ?_; intro g cap w1 hc1 hc2 ho1 hg1 hb1; have hc3 : (n : Int) ≤ (cap : Int) := by omega))
    go_ret
    exact ⟨some ⟨g, 0, none⟩, cap, rfl, hc2, ho1, hb1⟩

def CatPost (zs : List Nat) (w : World) (e : Ending) (w' : World) : Prop := ∃ A c, e = .returned (.slice A zs.length c) ∧ OwnI w' w.heap.size (.slice A zs.length c) zs.length zs ∧ Below w.heap.size w w'
set_option maxHeartbeats 2000000 in
theorem concat_any {b n1 c1 n2 c2 : Nat} {A1 A2 : Option Addr} {xs ys : List Nat} {w : World} (h1 : w.cell? ⟨b, 0, none⟩ = some (.slice A1 n1 c1)) (h2 : w.cell? ⟨b, 1, none⟩ = some (.slice A2 n2 c2))
    (hx : Sl natV w A1 n1 xs) (hy : Sl natV w A2 n2 ys) (hn1 : n1 ≤ 1000000) (hn2 : n2 ≤ 1000000) :
    Calls Tryz.prog 131 #[.slice (some ⟨b, 0, none⟩) 2 2] w (CatPost (xs ++ ys) w) := by
  have hbl : b < w.heap.size := World.block_lt_of_cell? _ _ h1
  have HX := keepHid hx
  have HY := keepHid hy
  have HG := keepHid (grow_any (n1 + n2) (by omega) w)
  have i1 : (n1 : Int) ≤ 1000000 := by omega
  have i2 : (n2 : Int) ≤ 1000000 := by omega
  have HN : Hid (n1 ≤ 1000000 ∧ n2 ≤ 1000000) := keepHid ⟨hn1, hn2⟩
  have HBL := keepHid hbl
  have HE : Hid ((n1 : Int) + (n2 : Int) = ((n1 + n2 : Nat) : Int)) := keepHid (by omega)
  clear hx hy hn1 hn2 hbl
  go_enter Tryz.func131, Tryz.ntmps131
  go_wp2_with fail
  refine wp_loop_rounds 3 ?_
  rw [rounds_succ]
  go_wp2_with fail
  rw [rounds_succ]
  go_wp2_with fail
  rw [rounds_succ]
  go_wp2_with fail
  rw [HE.out]
  with_reducible refine HG.out.mono ?_
  rintro e w1 ⟨P, cap, rfl, hcap, ho1, hb1⟩
  have g1 : w1.cell? ⟨b, 0, none⟩ = some (.slice A1 n1 c1) := (hb1.cell (p := ⟨b, 0, none⟩) HBL.out).trans h1
  have HC1 : Hid (w1.cell? ⟨b, 1, none⟩ = some (.slice A2 n2 c2)) := keepHid ((hb1.cell (p := ⟨b, 1, none⟩) HBL.out).trans h2)
  have HX1 := keepHid (HX.out.below hb1)
  have HY1 := keepHid (HY.out.below hb1)
  have HO1 := keepHid ho1
  have HB1 := keepHid hb1
  have HSZ : Hid (w.heap.size ≤ w1.heap.size) := keepHid hb1.size
  clear h1 h2 ho1 hb1
  go_wp2_with fail
  refine wp_loop_rounds 3 ?_
  rw [rounds_succ]
  go_wp2_with (first | (at_builtin; refine wpList_append_ints _ rfl _ _ rfl w.heap.size (.slice P 0 cap) 0 [] rfl HO1.out A1 n1 c1 xs rfl HX1.out (by have := HN.out; omega) HSZ.out ?_; intro v2 w2 ho2 hg2 hv2; have HB12 : Hid (Below w.heap.size w1 w2) := keepHid (below_grown hg2 (fun i hi => (HO1.out.lt i hi).1) HSZ.out); have g2 : w2.cell? ⟨b, 1, none⟩ = some (.slice A2 n2 c2) := (HB12.out.cell (p := ⟨b, 1, none⟩) HBL.out).trans HC1.out; have HO2 := keepHid ho2; clear ho2 hg2 hv2))
  have HB2 := keepHid (HB1.out.trans HB12.out)
  have HY2 := keepHid (HY.out.below HB2.out)
  rw [rounds_succ]
  go_wp2_with (first | (at_builtin; refine wpList_append_ints _ rfl _ _ rfl w.heap.size v2 (0 + n1) ([] ++ xs) rfl HO2.out A2 n2 c2 ys rfl HY2.out (by have := HN.out; omega) HB2.out.size ?_; intro v3 w3 ho3 hg3 hv3; have HB23 : Hid (Below w.heap.size w2 w3) := keepHid (below_grown hg3 (fun i hi => (HO2.out.lt i hi).1) HB2.out.size); have HO3 := keepHid ho3; clear ho3 hg3 hv3))
  rw [rounds_succ]
  go_wp2_with fail
  have ho3 := HO3.out
  obtain ⟨A, c, rfl, _, _⟩ := own_val ho3
  go_ret
  have e : (0 + n1) + n2 = (xs ++ ys).length := by rw [List.length_append, HX.out.len, HY.out.len]; omega
  rw [e, List.nil_append] at ho3 
  exact ⟨A, c, by rw [← e]; rfl, ho3, HB2.out.trans HB23.out⟩


theorem own_lower' {w : World} {base base' n size : Nat} {e : TypeId} {v : Value} {xs : List Value} (h : w.ownsRow base e size v n xs) (hb : base' ≤ base) : w.ownsRow base' e size v n xs := by
  refine ⟨h.1, ?_⟩
  rcases h.2 with h0 | ⟨g, cap, cur, hv, hg, r⟩
  · exact .inl h0
  · exact .inr ⟨g, cap, cur, hv, Nat.le_trans hb hg, r⟩
/-- Group i of a table, as it lies. -/
theorem TabIn.grp {w : World} {lo g : Nat} {v3 v4 v5 : Value} {T : TbD} {vs vg : Value} {M : Nat} {vals : List Value} (h : TabIn w lo g v3 v4 v5 T vs vg M vals) {i : Nat} {q : List Nat} (hi : T.groups[i]? = some q) :
    ∃ G cap A c, vg = .slice (some ⟨G, 0, none⟩) T.groups.length cap ∧ w.cell? ⟨G, i, none⟩ = some (.slice A q.length c) ∧ OwnI w lo (.slice A q.length c) q.length q := by
  obtain ⟨v, hv, hr⟩ := h.rows i q hi
  obtain ⟨A, c, rfl, _, _⟩ := own_val hr
  rcases h.groups.2 with ⟨_, h0⟩ | ⟨G, cap, cur, rfl, _⟩
  · have := lt_of_get hi; omega
  · have hc := h.groups.cells rfl i _ hv
    have e : (⟨G, 0, none⟩ : Addr).add i = ⟨G, i, none⟩ := by unfold Addr.add; split <;> simp_all
    rw [e] at hc
    exact ⟨G, cap, A, c, rfl, hc, hr⟩
set_option maxRecDepth 100000 in
set_option maxHeartbeats 2000000 in
theorem union_any {lo g : Nat} {v3 v4 v5 : Value} {T : TbD} {a b : Nat} {P Q : List Nat} (ha : T.groups[a]? = some P) (hb : T.groups[b]? = some Q) {w : World} (ht : Tab w lo g v3 v4 v5 T) (hlo : lo ≤ w.heap.size) (hn : T.groups.length < 1000000)
    (hP : P.length ≤ 1000000) (hQ : Q.length ≤ 1000000) :
    Calls Tryz.prog 123 #[.pointer (some ⟨g, 0, none⟩), .int .i64 (a : Int), .int .i64 (b : Int)] w fun e w' => e = .returned (natV T.groups.length) ∧ Tab w' lo g v3 v4 v5 (T.push (P ++ Q)) ∧ Tn lo w w' := by
  obtain ⟨vs, vg, M, vals, h⟩ := id ht
  obtain ⟨G, cap, A1, c1, rfl, ca, hra⟩ := h.grp ha
  obtain ⟨G', cap', A2, c2, hv', cb, hrb⟩ := h.grp hb
  obtain ⟨rfl, rfl⟩ : G = G' ∧ cap = cap' := by injection hv' with h1 h2 h3; injection h1 with h1; injection h1 with h1; exact ⟨h1, h3⟩
  have cg : w.cell? ⟨g, 1, none⟩ = some (.slice (some ⟨G, 0, none⟩) T.groups.length cap) := h.blk.cell 1
  have la : (a : Int) < (T.groups.length : Int) := by have := lt_of_get ha; omega
  have lb : (b : Int) < (T.groups.length : Int) := by have := lt_of_get hb; omega
  have a0 : (0 : Int) ≤ (a : Int) := by omega
  have b0 : (0 : Int) ≤ (b : Int) := by omega
  have HT := keepHid ht
  have HRA := keepHid hra
  have HRB := keepHid hrb
  have HLO := keepHid hlo
  have HN := keepHid hn
  have HP := keepHid hP
  have HQ := keepHid hQ
  have hl : (T.groups.length : Int) ≤ 1000000 := by omega
  clear h ht hra hrb hv' hlo hn hP hQ ha hb
  generalize hZ : P ++ Q = Z at *
  obtain ⟨N, hN⟩ : ∃ N, T.groups.length = N := ⟨_, rfl⟩
  obtain ⟨w3, hw3⟩ : ∃ w3, (w.alloc (.cells #[.slice A1 P.length c1, .slice A2 Q.length c2] 39)).drew = w3 := ⟨_, rfl⟩
  have hb3 : Below w.heap.size w w3 := by rw [← hw3]; exact ((Below.refl _ _).alloc (Nat.le_refl _) _).drew
  have hk3 : Blk w3 w.heap.size 39 #[.slice A1 P.length c1, .slice A2 Q.length c2] := by rw [← hw3]; exact (Blk.new w _ _).drew
  have HC : Hid (Calls Tryz.prog 131 #[.slice (some ⟨w.heap.size, 0, none⟩) 2 2] w3 (CatPost Z w3)) := keepHid (by rw [← hZ]; exact concat_any (hk3.cell 0) (hk3.cell 1) (Sl.of_own (own_keep HRA.out fun i _ hl => hb3.block i hl) (by have := HP.out; unfold maxLen; omega)) (Sl.of_own (own_keep HRB.out fun i _ hl => hb3.block i hl) (by have := HQ.out; unfold maxLen; omega)) HP.out HQ.out)
  have HG : Hid (∀ A c w4, OwnI w4 w3.heap.size (.slice A Z.length c) Z.length Z → Below w3.heap.size w3 w4 → Calls Tryz.prog 121 #[.pointer (some ⟨g, 0, none⟩), .slice A Z.length c] w4
      fun e w' => e = .returned (.int .i64 (N : Int)) ∧ Tab w' lo g v3 v4 v5 (T.push Z) ∧ Tn lo w w') := keepHid (fun A c w4 ho hb => by
    have hb4 := hb3.trans (hb.mono hb3.size)
    refine (group_any Z A c (HT.out.keep hb4) (own_lower' ho (Nat.le_trans HLO.out hb3.size)) (Nat.le_trans HLO.out hb4.size) HN.out).mono ?_
    rintro e w' ⟨h1, h2, h3⟩
    exact ⟨by rw [h1, hN]; rfl, h2, (Tn.of_below hb4).trans h3⟩)
  have HW3 := keepHid hw3
  have HNN := keepHid hN
  rw [hN] at cg la lb hl
  clear hN hb3 hk3 hw3 hZ
  go_enter Tryz.func123, Tryz.ntmps123
  go_wp2
  go_region_with (first | (go_at_call 131; rw [HW3.out]; (with_reducible refine HC.out.mono ?_); rintro e w4 ⟨A, c, rfl, ho4, hb4⟩; have HGG := keepHid (HG.out A c w4 ho4 hb4); clear ho4 hb4) | (go_at_call 121; (with_reducible refine HGG.out.mono ?_); rintro e w5 ⟨rfl, ht5, hn5⟩; have HT5 := keepHid ht5; have HN5 := keepHid hn5; clear ht5 hn5))
  all_goals
    go_wp2
    go_ret
    exact ⟨by rw [HNN.out]; rfl, HT5.out, HN5.out⟩


set_option maxHeartbeats 1000000 in
theorem kid0_any (k : Int) (s : St) (g n c : Nat) (x : Hd) (w : World) (hn : 1 ≤ n) (hx : AtHd w g 0 x) :
    Calls Tryz.prog 109 #[hdV ⟨k, s, some ⟨g, 0, none⟩, n, c⟩, .int .i64 0] w fun e w' => e = .returned (hdV x) ∧ Below w.heap.size w w' := by
  obtain ⟨x0, x1, x2, x3, x4, x5⟩ := at0 hx
  have hl := hx.lt
  have hn' : (0 : Int) < (n : Int) := by omega
  obtain ⟨w2, hw2⟩ : ∃ w2, (w.alloc (.cells #[.int .i64 k, .int .u64 (s.a.toNat : Int), .int .u64 (s.b.toNat : Int), .int .u64 (s.c.toNat : Int), .int .u64 (s.d.toNat : Int), .slice (some ⟨g, 0, none⟩) n c] 76)).alloc (.cells #[.int .i64 0, .int .u64 0, .int .u64 0, .int .u64 0, .int .u64 0, .slice none 0 0] 76) = w2 := ⟨_, rfl⟩
  have hb : Below w.heap.size w w2 := by rw [← hw2]; exact ((Below.refl _ _).alloc (Nat.le_refl _) _).alloc (by simp) _
  have HB := keepHid hb
  have k1 : Blk w2 w.heap.size 76 #[.int .i64 k, .int .u64 (s.a.toNat : Int), .int .u64 (s.b.toNat : Int), .int .u64 (s.c.toNat : Int), .int .u64 (s.d.toNat : Int), .slice (some ⟨g, 0, none⟩) n c] := by rw [← hw2]; exact (Blk.new _ _ _).alloc _
  have k2 : Blk w2 (w.heap.size + 1) 76 #[.int .i64 0, .int .u64 0, .int .u64 0, .int .u64 0, .int .u64 0, .slice none 0 0] := by rw [← hw2]; exact Blk.new_at _ _ _ _ (by simp)
  obtain ⟨a0, a1, a2, a3, a4, a5, af⟩ := blk6 k1
  obtain ⟨z0, z1, z2, z3, z4, z5, zf⟩ := blk6 k2
  obtain ⟨y0, y1, y2, y3, y4, y5⟩ := at0 (hx.keep (hb.block g hl))
  have HW := keepHid hw2
  clear hb k1 k2 x0 x1 x2 x3 x4 x5 hx hl
  unfold hdV
  go_enter Tryz.func109, Tryz.ntmps109
  go_wp2
  refine bodyPost_ret (v := hdV x) ?_ rfl ⟨rfl, below_six (b := w.heap.size + 1) HB.out (by omega) _ _ _ _ _ _⟩
  rw [results_cell_one rfl]
  go_simp
  rfl
set_option maxHeartbeats 1000000 in
theorem kid1_any (k : Int) (s : St) (g n c : Nat) (x : Hd) (w : World) (hn : 2 ≤ n) (hx : AtHd w g 6 x) :
    Calls Tryz.prog 109 #[hdV ⟨k, s, some ⟨g, 0, none⟩, n, c⟩, .int .i64 1] w fun e w' => e = .returned (hdV x) ∧ Below w.heap.size w w' := by
  obtain ⟨x0, x1, x2, x3, x4, x5⟩ := at6 hx
  have hl := hx.lt
  have hn' : (1 : Int) < (n : Int) := by omega
  obtain ⟨w2, hw2⟩ : ∃ w2, (w.alloc (.cells #[.int .i64 k, .int .u64 (s.a.toNat : Int), .int .u64 (s.b.toNat : Int), .int .u64 (s.c.toNat : Int), .int .u64 (s.d.toNat : Int), .slice (some ⟨g, 0, none⟩) n c] 76)).alloc (.cells #[.int .i64 0, .int .u64 0, .int .u64 0, .int .u64 0, .int .u64 0, .slice none 0 0] 76) = w2 := ⟨_, rfl⟩
  have hb : Below w.heap.size w w2 := by rw [← hw2]; exact ((Below.refl _ _).alloc (Nat.le_refl _) _).alloc (by simp) _
  have HB := keepHid hb
  have k1 : Blk w2 w.heap.size 76 #[.int .i64 k, .int .u64 (s.a.toNat : Int), .int .u64 (s.b.toNat : Int), .int .u64 (s.c.toNat : Int), .int .u64 (s.d.toNat : Int), .slice (some ⟨g, 0, none⟩) n c] := by rw [← hw2]; exact (Blk.new _ _ _).alloc _
  have k2 : Blk w2 (w.heap.size + 1) 76 #[.int .i64 0, .int .u64 0, .int .u64 0, .int .u64 0, .int .u64 0, .slice none 0 0] := by rw [← hw2]; exact Blk.new_at _ _ _ _ (by simp)
  obtain ⟨a0, a1, a2, a3, a4, a5, af⟩ := blk6 k1
  obtain ⟨z0, z1, z2, z3, z4, z5, zf⟩ := blk6 k2
  obtain ⟨y0, y1, y2, y3, y4, y5⟩ := at6 (hx.keep (hb.block g hl))
  have HW := keepHid hw2
  clear hb k1 k2 x0 x1 x2 x3 x4 x5 hx hl
  unfold hdV
  go_enter Tryz.func109, Tryz.ntmps109
  go_wp2
  refine bodyPost_ret (v := hdV x) ?_ rfl ⟨rfl, below_six (b := w.heap.size + 1) HB.out (by omega) _ _ _ _ _ _⟩
  rw [results_cell_one rfl]
  go_simp
  rfl

theorem Tab.small {w : World} {lo g : Nat} {v3 v4 v5 : Value} {T : TbD} (h : Tab w lo g v3 v4 v5 T) : g < w.heap.size := by obtain ⟨vs, vg, M, vals, h⟩ := h; exact h.blk.lt
theorem below_three {B b : Nat} {a w : World} (h : Below B a w) (hb : B ≤ b) (u0 u1 u2 : Value) : Below B a (((w.setCell ⟨b, 0, none⟩ u0).setCell ⟨b, 1, none⟩ u1).setCell ⟨b, 2, none⟩ u2) := ((h.setCell hb _).setCell hb _).setCell hb _
/-- Stores into a variable of the call's own leave a table. -/
theorem tab_three {w : World} {lo g b : Nat} {v3 v4 v5 : Value} {T : TbD} (h : Tab w lo g v3 v4 v5 T) {cs : Array Value} (hb : Blk w b 183 cs) (u0 u1 u2 : Value) :
    Tab (((w.setCell ⟨b, 0, none⟩ u0).setCell ⟨b, 1, none⟩ u1).setCell ⟨b, 2, none⟩ u2) lo g v3 v4 v5 T := by
  obtain ⟨vs, vg, M, vals, h⟩ := h
  have far : ∀ i, i ≠ b → (((w.setCell ⟨b, 0, none⟩ u0).setCell ⟨b, 1, none⟩ u1).setCell ⟨b, 2, none⟩ u2).heap[i]? = w.heap[i]? := fun i hi => by
    rw [Below.heap_setCell _ ⟨b, 2, none⟩ u2 i hi, Below.heap_setCell _ ⟨b, 1, none⟩ u1 i hi, Below.heap_setCell _ ⟨b, 0, none⟩ u0 i hi]
  have hM : M ≠ b := fun e => by
    obtain ⟨es, c, ho⟩ := h.leads.obj
    subst e
    unfold Blk at hb
    rw [hb] at ho
    cases ho
  refine ⟨vs, vg, M, vals, (far g (blk_ne h.blk hb (by decide))).trans h.blk, h.log, h.lom, ?_, ?_, fun i q hq => ?_, h.leads.keep (far M hM)⟩
  · exact own_keep h.sets fun i hi _ => by obtain ⟨cur, hc⟩ := own_obj h.sets hi; exact far i (blk_ne hc hb (by decide))
  · exact own_keep h.groups fun i hi _ => by obtain ⟨cur, hc⟩ := own_obj h.groups hi; exact far i (blk_ne hc hb (by decide))
  · obtain ⟨v, hv, hr⟩ := h.rows i q hq
    exact ⟨v, hv, own_keep hr fun i hi _ => by obtain ⟨cur, hc⟩ := own_obj hr hi; exact far i (blk_ne hc hb (by decide))⟩
/-- What a function of a table that answers a part leaves. -/
def PartPost (lo g : Nat) (v3 v4 v5 : Value) (R : Prt × TbD) (w : World) (e : Ending) (w' : World) : Prop := e = .returned (partV R.1) ∧ Tab w' lo g v3 v4 v5 R.2 ∧ Tn lo w w'
theorem part_fin {lo g b : Nat} {v3 v4 v5 : Value} {T : TbD} {w w' : World} (ht : Tab w' lo g v3 v4 v5 T) (hn : Tn lo w w') {cs : Array Value} (hb : Blk w' b 183 cs) (hlb : w.heap.size ≤ b) (u0 u1 u2 : Value) :
    Tab (((w'.setCell ⟨b, 0, none⟩ u0).setCell ⟨b, 1, none⟩ u1).setCell ⟨b, 2, none⟩ u2) lo g v3 v4 v5 T ∧ Tn lo w (((w'.setCell ⟨b, 0, none⟩ u0).setCell ⟨b, 1, none⟩ u1).setCell ⟨b, 2, none⟩ u2) :=
  ⟨tab_three ht hb u0 u1 u2, ((hn.setCell (.inr hlb) _).setCell (.inr hlb) _).setCell (.inr hlb) _⟩
set_option maxHeartbeats 1000000 in
theorem nothing_any {lo g : Nat} {v3 v4 v5 : Value} {T : TbD} {w : World} (ht : Tab w lo g v3 v4 v5 T) (hlo : lo ≤ w.heap.size) (hn : T.groups.length < 1000000) :
    Calls Tryz.prog 113 #[.pointer (some ⟨g, 0, none⟩)] w (PartPost lo g v3 v4 v5 (nothingF T) w) := by
  obtain ⟨w1, hw1⟩ : ∃ w1, w.alloc (.cells #[.bool false, .int .i64 0, .int .i64 0] 183) = w1 := ⟨_, rfl⟩
  have hb1 : Below w.heap.size w w1 := by rw [← hw1]; exact (Below.refl _ _).alloc (Nat.le_refl _) _
  have HK1 : Hid (Blk w1 w.heap.size 183 #[.bool false, .int .i64 0, .int .i64 0]) := keepHid (by rw [← hw1]; exact Blk.new _ _ _)
  have HG := group_any (w := w1) [] none 0 (ht.keep hb1) (World.ownsRow_nil _ _ _ _) (Nat.le_trans hlo hb1.size) hn
  rw [List.length_nil] at HG
  have HB1 := keepHid hb1
  have hl : (T.groups.length : Int) ≤ 1000000 := by omega
  unfold PartPost nothingF partV
  generalize hT : T.push [] = T1 at *
  simp only
  obtain ⟨N, hN⟩ : ∃ N, T.groups.length = N := ⟨_, rfl⟩
  rw [hN] at HG hl ⊢
  unfold natV at HG
  have HW := keepHid hw1
  have HG' := keepHid HG
  clear ht hlo hn hb1 hN hT hw1 HG
  go_enter Tryz.func113, Tryz.ntmps113
  go_wp2_with fail
  rw [HW.out]
  with_reducible refine HG'.out.mono ?_
  rintro e w2 ⟨rfl, ht2, hn2⟩
  have hk2 := hn2.blk HK1.out (by decide)
  have HF := keepHid (part_fin ht2 ((Tn.of_below HB1.out).trans hn2) hk2 (Nat.le_refl _) (.bool true) (.int .i64 (N : Int)) (.int .i64 (N : Int)))
  obtain ⟨z0, z1, z2, zf⟩ := blk3 hk2
  clear ht2 hn2 hk2
  go_wp2
  refine bodyPost_ret (v := .agg #[.bool true, .int .i64 (N : Int), .int .i64 (N : Int)]) ?_ rfl ⟨rfl, HF.out⟩
  rw [results_cell_one rfl]
  go_simp


theorem infoSet : (Tryz.prog.info? 73).map (fun i => (i.zero, i.size, i.bytes)) = some (some (.agg #[.int .u64 0, .int .u64 0, .int .u64 0, .int .u64 0]), 4, 32) := by kernel_rfl
/-- 'append(t.sets, s)', as one step of a region that draws. -/
theorem step_append_set {ops : Array Oper} {o : Oper} {a : Act} {w : World} {K : Act → World → Prop} {Q : Exit → Act → World → Prop} {E : Prop} (hg : o.guard = none) (s x : Operand)
    (ho : o.op = .call { callee := .builtin .append, args := #[s, x], argTypes := #[124, 124] })
    (base : Nat) (v : Value) (n : Nat) (xs : List Value) (hs : a.eval s = v) (hown : w.ownsRow base 73 4 v n xs)
    (g : Nat) (hx : a.eval x = .slice (some ⟨g, 0, none⟩) 1 1) (st : St) (hk : Blk w g 73 (setL st).toArray) (hn : n < 1000000) (hbase : base ≤ w.heap.size)
    (hK : ∀ P cap w', w'.ownsRow base 73 4 (.slice P (n + 1) cap) (n + 1) (xs ++ setL st) → w.grownBy w' v.ownBlock → ((Value.slice P (n + 1) cap).ownBlock = v.ownBlock ∨ (Value.slice P (n + 1) cap).ownBlock = some w.heap.size) → K (a.put o.dst (.slice P (n + 1) cap)) w') :
    if Region.wanted o (yielded ops a.tmps) = true then Oper.wp Tryz.prog o a w K Q else E := by
  have hw : Region.wanted o (yielded ops a.tmps) = true := by simp [Region.wanted, hg]
  rw [if_pos hw]
  obtain ⟨i, hi⟩ := Option.isSome_iff_exists.1 (show (Tryz.prog.info? 73).isSome = true by kernel_rfl)
  have h0 := infoSet
  rw [hi] at h0
  simp only [Option.map_some, Option.some.injEq, Prod.mk.injEq] at h0
  obtain ⟨hz, hsz, hby⟩ := h0
  have hcells : ∀ j u, (setL st)[j]? = some u → w.cell? ((⟨g, 0, none⟩ : Addr).add j) = some u := by
    intro j u hu
    rw [zero_add_ad, hk.cell]
    simpa using hu
  have h1 : ∀ u ∈ setL st, u.oneCell' = true := by
    intro u hu
    simp [setL] at hu
    rcases hu with rfl | rfl | rfl | rfl <;> rfl
  obtain ⟨v', w', hr, h2, h3, _, h5⟩ := run_append_own_at (P := Tryz.prog) w base 124 o.type 73 i _ 4 32 Tryz.underlying124 hi hz hsz hby rfl (by omega) v n xs hown ⟨g, 0, none⟩ 1 1 (setL st) rfl hcells h1 (by unfold maxLen; omega) (by omega) hbase
  obtain ⟨P, cap, rfl, _, _⟩ := own_val h2
  unfold Oper.wp execOp
  simp only [ho, resolve, invoke, builtin, Sem.run_bind, Sem.run_pure, Result.andThen_ok, List.map_toArray, List.map_cons, List.map_nil, hs, hx, hr]
  exact hK _ _ _ h2 h3 h5

def oneT (s : St) (T : TbD) : TbD := { T with sets := T.sets ++ [s] }
theorem set_tab {lo g : Nat} {v3 v4 v5 : Value} {T : TbD} {vs vs' vg : Value} {M : Nat} {vals : List Value} {w1 w2 : World} {s : St} (h : TabIn w1 lo g v3 v4 v5 T vs vg M vals)
    (ho : w2.ownsRow lo 73 4 vs' (T.sets.length + 1) (T.sets.flatMap setL ++ setL s)) (hg : w1.grownBy w2 vs.ownBlock) (hv2 : vs'.ownBlock = vs.ownBlock ∨ vs'.ownBlock = some w1.heap.size) :
    Tab (w2.setCell ⟨g, 0, none⟩ vs') lo g v3 v4 v5 (oneT s T) ∧ Tn lo w1 (w2.setCell ⟨g, 0, none⟩ vs') := by
  have t1 : Tn lo w1 w2 := Tn.grown hg fun i hi => .inl (h.mvs hi)
  have t2 : Tn lo w1 (w2.setCell ⟨g, 0, none⟩ vs') := t1.setCell (.inl h.mvg) _
  have k2 : Blk w2 g _ _ := (hg.block g h.blk.lt (fun e => h.ne_gs e.symm)).trans h.blk
  have far : ∀ i, i ≠ g → (w2.setCell ⟨g, 0, none⟩ vs').heap[i]? = w2.heap[i]? := fun i hi => Below.heap_setCell w2 ⟨g, 0, none⟩ vs' i hi
  refine ⟨⟨vs', vg, M, vals, ?_⟩, t2⟩
  refine ⟨by simpa using k2.put 0 vs', h.log, h.lom, ?_, ?_, ?_, ?_⟩
  · rw [show (oneT s T).sets.length = T.sets.length + 1 by simp [oneT], show (oneT s T).sets.flatMap setL = T.sets.flatMap setL ++ setL s by simp [oneT]]
    refine own_keep ho fun i hi hl => far i (fun e => ?_)
    subst e
    rcases hv2 with e | e
    · exact h.ne_gs (e ▸ hi)
    · rw [hi] at e
      have := Option.some.inj e
      have := h.blk.lt
      omega
  · exact own_keep h.groups fun i hi hl => (far i (fun e => h.ne_gv (e ▸ hi))).trans (hg.block i hl (fun e => h.ne_vs e.symm hi rfl))
  · intro i p hp
    obtain ⟨u, hu, hr⟩ := h.rows i p hp
    exact ⟨u, hu, t2.row hr⟩
  · exact h.leads.keep ((far M (fun e => h.ne_gm e.symm)).trans (hg.block M h.leads.lt (fun e => h.ne_ms e.symm)))
set_option maxHeartbeats 2000000 in
theorem one_part {lo g : Nat} {v3 v4 v5 : Value} {T : TbD} (s : St) {w : World} (ht : Tab w lo g v3 v4 v5 T) (hlo : lo ≤ w.heap.size) (hn : T.groups.length < 1000000) (hs : T.sets.length < 1000000) :
    Calls Tryz.prog 108 #[.pointer (some ⟨g, 0, none⟩), stV s] w (PartPost lo g v3 v4 v5 (oneF s T) w) := by
  obtain ⟨w2, hw2⟩ : ∃ w2, (w.alloc (.cells (setL s).toArray 73)).alloc (.cells #[.bool false, .int .i64 0, .int .i64 0] 183) = w2 := ⟨_, rfl⟩
  have hs2 : w2.heap.size = w.heap.size + 2 := by rw [← hw2]; simp
  have hb2 : Below w.heap.size w w2 := by rw [← hw2]; exact ((Below.refl _ _).alloc (Nat.le_refl _) _).alloc (by simp) _
  have ks2 : Blk w2 w.heap.size 73 (setL s).toArray := by rw [← hw2]; exact (Blk.new _ _ _).alloc _
  have kp2 : Blk w2 (w.heap.size + 1) 183 #[.bool false, .int .i64 0, .int .i64 0] := by rw [← hw2]; exact Blk.new_at _ _ _ _ (by simp)
  have HL := keepHid (tlen_any (ht.keep hb2))
  obtain ⟨w3, hw3⟩ : ∃ w3, w2.alloc (.cells #[.int .i64 (T.sets.length : Int)] 3) = w3 := ⟨_, rfl⟩
  have hb3 : Below w2.heap.size w2 w3 := by rw [← hw3]; exact (Below.refl _ _).alloc (Nat.le_refl _) _
  have hrow : w3.ownsRow lo 3 1 (.slice (some ⟨w2.heap.size, 0, none⟩) 1 1) 1 ([T.sets.length].map natV) := by
    have := World.ownsRow_lit (base := lo) (e := 3) (size := 1) w2 #[.int .i64 (T.sets.length : Int)] 1 (Nat.le_trans hlo hb2.size) (by unfold maxLen; omega) rfl
    rw [hw3] at this
    exact this
  have hw23 := hb2.trans (hb3.mono hb2.size)
  have hg := group_set (w := w3) [T.sets.length] (some ⟨w2.heap.size, 0, none⟩) 1 (ht.keep hw23) hrow (Nat.le_trans hlo hw23.size) hn
  rw [show [T.sets.length].length = 1 from rfl] at hg
  have HG := keepHid hg
  have HB23 := keepHid hw23
  have HK3 := keepHid (ks2.below hb3 ks2.lt)
  have HP3 := keepHid (kp2.below hb3 kp2.lt)
  have HW2 := keepHid hw2
  have HW3 := keepHid hw3
  have HLO := keepHid hlo
  have HS := keepHid hs
  have HS2 := keepHid hs2
  clear hg hw23 hrow hb3 hw3 ks2 kp2 hb2 hs2 hw2 ht hlo hs hn
  unfold stV
  unfold setL at HW2
  go_enter Tryz.func108, Tryz.ntmps108
  go_wp2_with fail
  rw [HW2.out]
  with_reducible refine HL.out.mono ?_
  rintro e w' ⟨rfl, rfl⟩
  unfold natV
  go_wp2_with fail
  rw [HW3.out]
  with_reducible refine HG.out.mono ?_
  rintro e w4 ⟨rfl, ht4, hn4, hset4⟩
  obtain ⟨vs, vg, M, vals, h4⟩ := id ht4
  have hlo4 : lo ≤ w4.heap.size := Nat.le_trans HLO.out (Nat.le_trans HB23.out.size hn4.size)
  obtain ⟨w5, hw5⟩ : ∃ w5, (w4.alloc (.cells (setL s).toArray 73)).drew = w5 := ⟨_, rfl⟩
  have hb5 : Below w4.heap.size w4 w5 := by rw [← hw5]; exact ((Below.refl _ _).alloc (Nat.le_refl _) _).drew
  have hk5 : Blk w5 w4.heap.size 73 (setL s).toArray := by rw [← hw5]; exact (Blk.new w4 _ _).drew
  have h5 := h4.keep hb5
  have hk4 := hset4 _ _ HK3.out
  have hp4 := hn4.blk HP3.out (by decide)
  have hne : vs.ownBlock ≠ some g := h4.ne_gs
  have HNE := keepHid hne
  have HOW := keepHid h5.sets
  have HK5 := keepHid hk5
  have HW5 := keepHid hw5
  have H5 := keepHid h5
  have HSZ : Hid (lo ≤ w5.heap.size) := keepHid (Nat.le_trans hlo4 hb5.size)
  have HP5 := keepHid (hp4.below hb5 hp4.lt)
  have HTN5 := keepHid (((Tn.of_below HB23.out).trans hn4).trans (Tn.of_below hb5))
  have c0 : w4.cell? ⟨g, 0, none⟩ = some vs := h4.blk.cell 0
  have c0' : (w4.alloc (.cells #[.int .u64 (s.a.toNat : Int), .int .u64 (s.b.toNat : Int), .int .u64 (s.c.toNat : Int), .int .u64 (s.d.toNat : Int)] 73)).cell? ⟨g, 0, none⟩ = some vs := (World.cell?_alloc_lt _ _ _ h4.blk.lt).trans c0
  obtain ⟨s0, s1, s2, s3, sf⟩ := blk4 (by unfold setL at hk4; exact hk4)
  clear hne ht4 h4 hlo4 hb5 hk5 h5 hk4 hp4 hw5 hset4 hn4
  unfold setL at HW5
  go_wp2
  go_region_law (rw [HW5.out]; refine step_append_set rfl (.tmp 15) (.tmp 17) rfl lo vs T.sets.length _ (by simp [Act.eval]) HOW.out w4.heap.size (by simp [Act.eval]) s HK5.out HS.out HSZ.out ?_; intro P cap w6 ho6 hg6 hv6; have HK6 : Hid (Blk w6 g _ _) := keepHid ((hg6.block g H5.out.blk.lt (fun e => HNE.out e.symm)).trans H5.out.blk); have d0 : w6.cell? ⟨g, 0, none⟩ = some vs := HK6.out.cell 0; have df := HK6.out.frozen 0; have HF6 := keepHid (set_tab H5.out ho6 hg6 hv6); clear ho6 hg6 hv6)
  all_goals
    obtain ⟨w7, hw7⟩ : ∃ w7, w6.setCell ⟨g, 0, none⟩ (.slice P (T.sets.length + 1) cap) = w7 := ⟨_, rfl⟩
    rw [hw7]
    obtain ⟨ht7, hn7⟩ := HF6.out
    have ht7' : Tab w7 lo g v3 v4 v5 (oneT s (T.push [T.sets.length])) := hw7 ▸ ht7
    have hn7' : Tn lo w5 w7 := hw7 ▸ hn7
    have hp7 := hn7'.blk HP5.out (by decide)
    have HF := keepHid (part_fin ht7' (HTN5.out.trans hn7') hp7 (Nat.le_succ _) (.bool false) (.int .i64 (T.groups.length : Int)) (.int .i64 (T.groups.length : Int)))
    obtain ⟨z0, z1, z2, zf⟩ := blk3 hp7
    clear ht7 hn7 ht7' hn7' hp7 hw7 d0 df c0 c0' s0 s1 s2 s3 sf
    unfold natV
    go_wp2
    refine bodyPost_ret (v := .agg #[.bool false, .int .i64 (T.groups.length : Int), .int .i64 (T.groups.length : Int)]) ?_ rfl (by unfold PartPost; exact ⟨rfl, HF.out⟩)
    rw [results_cell_one rfl]
    go_simp


theorem blk_three {w : World} {b : Nat} {t : TypeId} {a0 a1 a2 : Value} (h : Blk w b t #[a0, a1, a2]) (u0 u1 u2 : Value) : Blk (((w.setCell ⟨b, 0, none⟩ u0).setCell ⟨b, 1, none⟩ u1).setCell ⟨b, 2, none⟩ u2) b t #[u0, u1, u2] := by
  simpa using ((h.put 0 u0).put 1 u1).put 2 u2
theorem star_part {lo g : Nat} {v3 v4 v5 : Value} {T : TbD} (a : Prt) {w : World} (ht : Tab w lo g v3 v4 v5 T) (hlo : lo ≤ w.heap.size) (hn : T.leads.length < 1000000) (hf : a.f < 1000000) (hl : a.l < 1000000) :
    Calls Tryz.prog 112 #[.pointer (some ⟨g, 0, none⟩), partV a] w (PartPost lo g v3 v4 v5 (starF a T) w) := by
  obtain ⟨w2, hw2⟩ : ∃ w2, (w.alloc (.cells (partC a) 183)).alloc (.cells #[.bool false, .int .i64 0, .int .i64 0] 183) = w2 := ⟨_, rfl⟩
  have hb : Below w.heap.size w w2 := by rw [← hw2]; exact ((Below.refl _ _).alloc (Nat.le_refl _) _).alloc (by simp) _
  have ka : Blk w2 w.heap.size 183 (partC a) := by rw [← hw2]; exact (Blk.new _ _ _).alloc _
  have kr : Blk w2 (w.heap.size + 1) 183 #[.bool false, .int .i64 0, .int .i64 0] := by rw [← hw2]; exact Blk.new_at _ _ _ _ (by simp)
  have HL := keepHid (lead_any a a (ht.keep hb) hn hl hf)
  have HB := keepHid hb
  have HA := keepHid ka
  have HR := keepHid kr
  have HW := keepHid hw2
  unfold partC at ka
  obtain ⟨a0, a1, a2, _⟩ := blk3 ka
  clear ka kr hb hw2 ht hlo hn hf hl
  unfold partC at HW
  obtain ⟨ae, af, al⟩ := a
  unfold partV at *
  simp only at a0 a1 a2
  go_enter Tryz.func112, Tryz.ntmps112
  go_wp2_with fail
  rw [HW.out]
  go_wp2_with fail
  with_reducible refine HL.out.mono ?_
  rintro e w3 ⟨rfl, ht3, hn3⟩
  have ka3 := hn3.blk HA.out (by decide)
  have kr3 := hn3.blk HR.out (by decide)
  unfold partC at ka3
  obtain ⟨b0, b1, b2, _⟩ := blk3 ka3
  obtain ⟨r0, r1, r2, rf⟩ := blk3 kr3
  simp only at b0 b1 b2
  have HF := keepHid (part_fin ht3 ((Tn.of_below HB.out).trans hn3) kr3 (Nat.le_succ _) (.bool true) (.int .i64 (af : Int)) (.int .i64 (al : Int)))
  clear ka3 kr3 a0 a1 a2 ht3 hn3
  go_wp2
  refine bodyPost_ret (v := .agg #[.bool true, .int .i64 (af : Int), .int .i64 (al : Int)]) ?_ rfl (by unfold PartPost; exact ⟨rfl, HF.out⟩)
  rw [results_cell_one rfl]
  go_simp


def prt0 : Array Value := #[.bool false, .int .i64 0, .int .i64 0]
/-- The variables of a call's own that hold two parts, and its result's place. -/
structure Loc (w : World) (s : Nat) (a b : Prt) : Prop where
  a : Blk w s 183 (partC a)
  b : Blk w (s + 1) 183 (partC b)
  r : Blk w (s + 1 + 1) 183 prt0
theorem Loc.tn {lo : Nat} {w w' : World} {s : Nat} {a b : Prt} (h : Loc w s a b) (t : Tn lo w w') : Loc w' s a b := ⟨t.blk h.a (by decide), t.blk h.b (by decide), t.blk h.r (by decide)⟩
theorem Loc.alloc {w : World} {s : Nat} {a b : Prt} (h : Loc w s a b) (o : Obj) : Loc (w.alloc o) s a b := ⟨h.a.alloc o, h.b.alloc o, h.r.alloc o⟩
theorem Loc.far {w : World} {s : Nat} {a b : Prt} (h : Loc w s a b) {p : Addr} (hp : s + 1 + 1 < p.block) (u : Value) : Loc (w.setCell p u) s a b := ⟨h.a.far (by omega) u, h.b.far (by omega) u, h.r.far (by omega) u⟩
theorem Loc.three {w : World} {s : Nat} {a b : Prt} (h : Loc w s a b) {c : Nat} (hp : s + 1 + 1 < c) (u0 u1 u2 : Value) : Loc (((w.setCell ⟨c, 0, none⟩ u0).setCell ⟨c, 1, none⟩ u1).setCell ⟨c, 2, none⟩ u2) s a b := ((h.far hp u0).far hp u1).far hp u2
theorem tab_one {w : World} {lo g b i : Nat} {v3 v4 v5 : Value} {T : TbD} (h : Tab w lo g v3 v4 v5 T) {cs : Array Value} (hb : Blk w b 183 cs) (u : Value) : Tab (w.setCell ⟨b, i, none⟩ u) lo g v3 v4 v5 T := by
  obtain ⟨vs, vg, M, vals, h⟩ := h
  have far : ∀ j, j ≠ b → (w.setCell ⟨b, i, none⟩ u).heap[j]? = w.heap[j]? := fun j hj => Below.heap_setCell w ⟨b, i, none⟩ u j hj
  have hM : M ≠ b := fun e => by
    obtain ⟨es, c, ho⟩ := h.leads.obj
    subst e
    unfold Blk at hb
    rw [hb] at ho
    cases ho
  refine ⟨vs, vg, M, vals, (far g (blk_ne h.blk hb (by decide))).trans h.blk, h.log, h.lom, ?_, ?_, fun i q hq => ?_, h.leads.keep (far M hM)⟩
  · exact own_keep h.sets fun i hi _ => by obtain ⟨cur, hc⟩ := own_obj h.sets hi; exact far i (blk_ne hc hb (by decide))
  · exact own_keep h.groups fun i hi _ => by obtain ⟨cur, hc⟩ := own_obj h.groups hi; exact far i (blk_ne hc hb (by decide))
  · obtain ⟨v, hv, hr⟩ := h.rows i q hq
    exact ⟨v, hv, own_keep hr fun i hi _ => by obtain ⟨cur, hc⟩ := own_obj hr hi; exact far i (blk_ne hc hb (by decide))⟩
/-- The variable 'both', in a world on the way. -/
structure Both (w0 w : World) (lo g : Nat) (v3 v4 v5 : Value) (T : TbD) (a b : Prt) (c : Nat) (e : Bool) (f l : Nat) : Prop where
  tab : Tab w lo g v3 v4 v5 T
  tn : Tn lo w0 w
  loc : Loc w w0.heap.size a b
  own : Blk w c 183 #[.bool e, .int .i64 (f : Int), .int .i64 (l : Int)]
  far : w0.heap.size + 1 + 1 < c
theorem Both.call {w0 w w' : World} {lo g : Nat} {v3 v4 v5 : Value} {T T' : TbD} {a b : Prt} {c : Nat} {e : Bool} {f l : Nat} (h : Both w0 w lo g v3 v4 v5 T a b c e f l) (ht : Tab w' lo g v3 v4 v5 T') (hn : Tn lo w w') : Both w0 w' lo g v3 v4 v5 T' a b c e f l :=
  ⟨ht, h.tn.trans hn, h.loc.tn hn, hn.blk h.own (by decide), h.far⟩
theorem Both.first {w0 w : World} {lo g : Nat} {v3 v4 v5 : Value} {T : TbD} {a b : Prt} {c : Nat} {e : Bool} {f l : Nat} (h : Both w0 w lo g v3 v4 v5 T a b c e f l) (n : Nat) : Both w0 (w.setCell ⟨c, 1, none⟩ (.int .i64 (n : Int))) lo g v3 v4 v5 T a b c e n l :=
  ⟨tab_one h.tab h.own _, h.tn.setCell (.inr (by have := h.far; simp; omega)) _, h.loc.far h.far _, by simpa using h.own.put 1 (.int .i64 (n : Int)), h.far⟩
theorem Both.last {w0 w : World} {lo g : Nat} {v3 v4 v5 : Value} {T : TbD} {a b : Prt} {c : Nat} {e : Bool} {f l : Nat} (h : Both w0 w lo g v3 v4 v5 T a b c e f l) (n : Nat) : Both w0 (w.setCell ⟨c, 2, none⟩ (.int .i64 (n : Int))) lo g v3 v4 v5 T a b c e f n :=
  ⟨tab_one h.tab h.own _, h.tn.setCell (.inr (by have := h.far; simp; omega)) _, h.loc.far h.far _, by simpa using h.own.put 2 (.int .i64 (n : Int)), h.far⟩
/-- The cells, laid. -/
theorem Both.cells {w0 w : World} {lo g : Nat} {v3 v4 v5 : Value} {T : TbD} {a b : Prt} {c : Nat} {e : Bool} {f l : Nat} (h : Both w0 w lo g v3 v4 v5 T a b c e f l) :
    (w.cell? ⟨w0.heap.size, 0, none⟩ = some (.bool a.e) ∧ w.cell? ⟨w0.heap.size, 1, none⟩ = some (.int .i64 (a.f : Int)) ∧ w.cell? ⟨w0.heap.size, 2, none⟩ = some (.int .i64 (a.l : Int))) ∧
    (w.cell? ⟨w0.heap.size + 1, 0, none⟩ = some (.bool b.e) ∧ w.cell? ⟨w0.heap.size + 1, 1, none⟩ = some (.int .i64 (b.f : Int)) ∧ w.cell? ⟨w0.heap.size + 1, 2, none⟩ = some (.int .i64 (b.l : Int))) ∧
    (w.cell? ⟨w0.heap.size + 1 + 1, 0, none⟩ = some (.bool false) ∧ w.cell? ⟨w0.heap.size + 1 + 1, 1, none⟩ = some (.int .i64 0) ∧ w.cell? ⟨w0.heap.size + 1 + 1, 2, none⟩ = some (.int .i64 0)) ∧
    (w.cell? ⟨c, 0, none⟩ = some (.bool e) ∧ w.cell? ⟨c, 1, none⟩ = some (.int .i64 (f : Int)) ∧ w.cell? ⟨c, 2, none⟩ = some (.int .i64 (l : Int))) ∧ (∀ i, w.frozen? ⟨c, i, none⟩ = false) ∧ ∀ i, w.frozen? ⟨w0.heap.size + 1 + 1, i, none⟩ = false :=
  ⟨⟨h.loc.a.cell 0, h.loc.a.cell 1, h.loc.a.cell 2⟩, ⟨h.loc.b.cell 0, h.loc.b.cell 1, h.loc.b.cell 2⟩, ⟨h.loc.r.cell 0, h.loc.r.cell 1, h.loc.r.cell 2⟩, ⟨h.own.cell 0, h.own.cell 1, h.own.cell 2⟩, h.own.frozen, h.loc.r.frozen⟩
theorem Both.fin {w0 w : World} {lo g : Nat} {v3 v4 v5 : Value} {T : TbD} {a b : Prt} {c : Nat} {e : Bool} {f l : Nat} (h : Both w0 w lo g v3 v4 v5 T a b c e f l) (u0 u1 u2 : Value) :
    Tab (((w.setCell ⟨w0.heap.size + 1 + 1, 0, none⟩ u0).setCell ⟨w0.heap.size + 1 + 1, 1, none⟩ u1).setCell ⟨w0.heap.size + 1 + 1, 2, none⟩ u2) lo g v3 v4 v5 T ∧ Tn lo w0 (((w.setCell ⟨w0.heap.size + 1 + 1, 0, none⟩ u0).setCell ⟨w0.heap.size + 1 + 1, 1, none⟩ u1).setCell ⟨w0.heap.size + 1 + 1, 2, none⟩ u2) :=
  part_fin h.tab h.tn h.loc.r (by omega) u0 u1 u2
def UnionAt (lo g : Nat) (v3 v4 v5 : Value) (T : TbD) (x y : Nat) : Prop := ∀ w, Tab w lo g v3 v4 v5 T → lo ≤ w.heap.size → Calls Tryz.prog 123 #[.pointer (some ⟨g, 0, none⟩), .int .i64 (x : Int), .int .i64 (y : Int)] w
  fun e w' => e = .returned (.int .i64 ((unionF x y T).1 : Int)) ∧ Tab w' lo g v3 v4 v5 (unionF x y T).2 ∧ Tn lo w w'
theorem union_at {lo g : Nat} {v3 v4 v5 : Value} {T : TbD} {x y : Nat} {P Q : List Nat} (hx : T.groups[x]? = some P) (hy : T.groups[y]? = some Q) (hn : T.groups.length < 1000000) (hP : P.length ≤ 1000000) (hQ : Q.length ≤ 1000000) : UnionAt lo g v3 v4 v5 T x y := by
  intro w ht hlo
  unfold unionF
  rw [grp_of hx, grp_of hy]
  exact union_any hx hy ht hlo hn hP hQ
theorem unionIf_false (a b d : Nat) (T : TbD) : unionIf false a b d T = (d, T) := rfl
theorem unionIf_true (a b d : Nat) (T : TbD) : unionIf true a b d T = unionF a b T := rfl
set_option maxHeartbeats 4000000 in
theorem then_part {lo g : Nat} {v3 v4 v5 : Value} {T : TbD} (a b : Prt) {P1 P2 Q1 Q2 : List Nat} (haf : T.groups[a.f]? = some P1) (hal : T.groups[a.l]? = some P2) (hbf : T.groups[b.f]? = some Q1) (hbl : T.groups[b.l]? = some Q2) {w : World} (ht : Tab w lo g v3 v4 v5 T)
    (hlo : lo ≤ w.heap.size) (hn : T.groups.length < 999999) (hl : T.leads.length < 1000000) (l1 : P1.length ≤ 1000000) (l2 : P2.length ≤ 1000000) (l3 : Q1.length ≤ 1000000) (l4 : Q2.length ≤ 1000000) :
    Calls Tryz.prog 110 #[.pointer (some ⟨g, 0, none⟩), partV a, partV b] w (PartPost lo g v3 v4 v5 (thenF a b T) w) := by
  obtain ⟨w2, hw2⟩ : ∃ w2, ((w.alloc (.cells (partC a) 183)).alloc (.cells (partC b) 183)).alloc (.cells prt0 183) = w2 := ⟨_, rfl⟩
  have hb : Below w.heap.size w w2 := by rw [← hw2]; exact (((Below.refl _ _).alloc (Nat.le_refl _) _).alloc (by simp) _).alloc (by simp; omega) _
  have hc : Loc w2 w.heap.size a b := by
    rw [← hw2]
    exact ⟨((Blk.new _ _ _).alloc _).alloc _, (Blk.new_at _ _ _ _ (by simp)).alloc _, Blk.new_at _ _ _ _ (by simp)⟩
  have hs2 : w2.heap.size = w.heap.size + 3 := by rw [← hw2]; simp
  have i1 := lt_of_get haf
  have i2 := lt_of_get hal
  have i3 := lt_of_get hbf
  have HL := keepHid (lead_any a b (ht.keep hb) hl (by omega) (by omega))
  have HU1 : Hid (UnionAt lo g v3 v4 v5 (leadF a b T) a.f b.f) := keepHid (union_at haf hbf (by simp [leadF]; omega) l1 l3)
  have HU2 : Hid (∀ c, UnionAt lo g v3 v4 v5 (unionIf c a.f b.f a.f (leadF a b T)).2 a.l b.l) := keepHid (fun c => by
    obtain ⟨u, _⟩ := up_unionIf (T := leadF a b T) (m := 2000000) c haf hbf haf (fun _ => by rw [List.length_append]; omega)
    obtain ⟨gs, e1, e2, _⟩ := u.groups
    exact union_at (u.keep hal) (u.keep hbl) (by rw [e1, List.length_append]; simp [leadF]; omega) l2 l4)
  have HLO : Hid (lo ≤ w.heap.size) := keepHid hlo
  have HC := keepHid hc
  have HS := keepHid hs2
  have HB := keepHid hb
  have HW := keepHid hw2
  obtain ⟨a0, a1, a2, _⟩ := blk3 (by have := hc.a; unfold partC at this; exact this)
  obtain ⟨b0, b1, b2, _⟩ := blk3 (by have := hc.b; unfold partC at this; exact this)
  clear hc hb hw2 ht hlo hn hl l1 l2 l3 l4 haf hal hbf hbl i1 i2 i3 hs2
  unfold partC prt0 at HW
  unfold partV at *
  obtain ⟨ae, af, al⟩ := a
  obtain ⟨be, bf, bl⟩ := b
  simp only at *
  unfold UnionAt at HU1 HU2
  generalize hT1 : leadF ⟨ae, af, al⟩ ⟨be, bf, bl⟩ T = T1 at *
  have HT1 := keepHid hT1
  clear hT1
  have HEND : Hid (∀ (c : Nat) (w' : World) (e : Bool) (f l : Nat) (T' : TbD), Both w w' lo g v3 v4 v5 T' ⟨ae, af, al⟩ ⟨be, bf, bl⟩ c e f l → (⟨e, f, l⟩, T') = thenF ⟨ae, af, al⟩ ⟨be, bf, bl⟩ T →
      PartPost lo g v3 v4 v5 (thenF ⟨ae, af, al⟩ ⟨be, bf, bl⟩ T) w (.returned (.agg #[.bool e, .int .i64 (f : Int), .int .i64 (l : Int)])) (((w'.setCell ⟨w.heap.size + 1 + 1, 0, none⟩ (.bool e)).setCell ⟨w.heap.size + 1 + 1, 1, none⟩ (.int .i64 (f : Int))).setCell ⟨w.heap.size + 1 + 1, 2, none⟩ (.int .i64 (l : Int)))) := keepHid (fun c w' e f l T' hB he => by
    rw [← he]
    exact ⟨rfl, hB.fin _ _ _⟩)
  obtain ⟨ee, hee⟩ : ∃ ee, (ae && be) = ee := ⟨_, rfl⟩
  cases ae
  all_goals
    cases be
    all_goals
      simp at hee
      go_enter Tryz.func110, Tryz.ntmps110
      go_wp2_with fail
      rw [HW.out]
      go_wp2_with fail
      with_reducible refine HL.out.mono ?_
      rintro e w3 ⟨rfl, ht3, hn3⟩
      have hl3 := HC.out.tn hn3
      have hs3 : w.heap.size + 1 + 1 < w3.heap.size := by have := HS.out; have := hn3.size; omega
      have hn3' := (Tn.of_below HB.out).trans hn3
      obtain ⟨⟨a0', a1', a2', _⟩, ⟨b0', b1', b2', _⟩, ⟨r0, r1, r2, rf⟩⟩ := (⟨blk3 (by have := hl3.a; unfold partC at this; exact this), blk3 (by have := hl3.b; unfold partC at this; exact this), blk3 (by have := hl3.r; unfold prt0 at this; exact this)⟩ : _ ∧ _ ∧ _)
      obtain ⟨w4, hw4⟩ : ∃ w4, w3.alloc (.cells #[.bool ee, .int .i64 (af : Int), .int .i64 (bl : Int)] 183) = w4 := ⟨_, rfl⟩
      have HB4 : Hid (Both w w4 lo g v3 v4 v5 T1 _ _ w3.heap.size ee af bl) := keepHid (by
        rw [← hw4]
        exact ⟨ht3.keep ((Below.refl _ _).alloc (Nat.le_refl _) _), hn3'.alloc _, hl3.alloc _, Blk.new w3 _ _, hs3⟩)
      clear a0 a1 a2 b0 b1 b2 ht3 hn3 hl3 hs3 hn3'
      subst hee
      go_upto_region 3 with fail
      clear hw4 a0' a1' a2' b0' b1' b2' r0 r1 r2 rf
      obtain ⟨⟨a0, a1, a2⟩, ⟨b0, b1, b2⟩, ⟨r0, r1, r2⟩, ⟨c0, c1, c2⟩, cf, rf⟩ := HB4.out.cells
      have hc4 := HB4.out.far
      generalize w3.heap.size = C at *
      simp only at a0 a1 a2 b0 b1 b2
  · go_wp2
    refine bodyPost_ret (v := .agg #[.bool false, .int .i64 (af : Int), .int .i64 (bl : Int)]) ?_ rfl (HEND.out _ _ _ _ _ _ HB4.out (by rw [← HT1.out]; rfl))
    rw [results_cell_one rfl]
    go_simp
  · go_wp2_with fail
    have hU2 := HU2.out false
    rw [unionIf_false] at hU2
    have HUF := keepHid hU2
    clear hU2
    with_reducible refine (HUF.out w4 HB4.out.tab (by have := HLO.out; have := HB4.out.tn.size; omega)).mono ?_
    rintro e w5 ⟨rfl, ht5, hn5⟩
    have hB5 := HB4.out.call ht5 hn5
    generalize hN : (unionF al bl T1).1 = N at *
    have HB6 := keepHid (hB5.last N)
    have HE : Hid ((⟨false, af, N⟩, (unionF al bl T1).2) = thenF ⟨false, af, al⟩ ⟨true, bf, bl⟩ T) := keepHid (by rw [← HT1.out] at hN ⊢; subst hN; rfl)
    clear a0 a1 a2 b0 b1 b2 r0 r1 r2 rf c0 c1 c2 cf ht5 hn5 hN
    obtain ⟨⟨a0, a1, a2⟩, ⟨b0, b1, b2⟩, ⟨r0, r1, r2⟩, ⟨c0, c1, c2⟩, cf, rf⟩ := hB5.cells
    clear hB5
    simp only at a0 a1 a2 b0 b1 b2
    have HEE := keepHid (HEND.out _ _ _ _ _ _ HB6.out HE.out)
    go_wp2
    refine bodyPost_ret (v := .agg #[.bool false, .int .i64 (af : Int), .int .i64 (N : Int)]) ?_ rfl HEE.out
    rw [results_cell_one rfl]
    go_simp
  · go_wp2_with fail
    with_reducible refine (HU1.out w4 HB4.out.tab (by have := HLO.out; have := HB4.out.tn.size; omega)).mono ?_
    rintro e w5 ⟨rfl, ht5, hn5⟩
    have hB5 := HB4.out.call ht5 hn5
    generalize hN : (unionF af bf T1).1 = N at *
    have HB6 := keepHid (hB5.first N)
    have HE : Hid ((⟨false, N, bl⟩, (unionF af bf T1).2) = thenF ⟨true, af, al⟩ ⟨false, bf, bl⟩ T) := keepHid (by rw [← HT1.out] at hN ⊢; subst hN; rfl)
    clear a0 a1 a2 b0 b1 b2 r0 r1 r2 rf c0 c1 c2 cf ht5 hn5 hN
    obtain ⟨⟨a0, a1, a2⟩, ⟨b0, b1, b2⟩, ⟨r0, r1, r2⟩, ⟨c0, c1, c2⟩, cf, rf⟩ := hB5.cells
    clear hB5
    simp only at a0 a1 a2 b0 b1 b2
    have HEE := keepHid (HEND.out _ _ _ _ _ _ HB6.out HE.out)
    go_wp2
    refine bodyPost_ret (v := .agg #[.bool false, .int .i64 (N : Int), .int .i64 (bl : Int)]) ?_ rfl HEE.out
    rw [results_cell_one rfl]
    go_simp
  · go_wp2_with fail
    with_reducible refine (HU1.out w4 HB4.out.tab (by have := HLO.out; have := HB4.out.tn.size; omega)).mono ?_
    rintro e w5 ⟨rfl, ht5, hn5⟩
    have hB5 := HB4.out.call ht5 hn5
    have hU2 := HU2.out true
    rw [unionIf_true] at hU2
    generalize hN : (unionF af bf T1).1 = N at *
    obtain ⟨w6, hw6⟩ : ∃ w6, w5.setCell ⟨C, 1, none⟩ (.int .i64 (N : Int)) = w6 := ⟨_, rfl⟩
    have HB6 := keepHid (hB5.first N)
    rw [hw6] at HB6
    have HW6 := keepHid hw6
    have HU := keepHid hU2
    have HN := keepHid hN
    clear a0 a1 a2 b0 b1 b2 r0 r1 r2 rf c0 c1 c2 cf ht5 hn5 hN hU2 hw6
    obtain ⟨⟨a0, a1, a2⟩, ⟨b0, b1, b2⟩, ⟨r0, r1, r2⟩, ⟨c0, c1, c2⟩, cf, rf⟩ := hB5.cells
    clear hB5
    simp only at a0 a1 a2 b0 b1 b2
    go_upto_region 5 with fail
    rw [HW6.out]
    clear a0 a1 a2 b0 b1 b2 r0 r1 r2 rf c0 c1 c2 cf
    obtain ⟨⟨a0, a1, a2⟩, ⟨b0, b1, b2⟩, ⟨r0, r1, r2⟩, ⟨c0, c1, c2⟩, cf, rf⟩ := HB6.out.cells
    simp only at a0 a1 a2 b0 b1 b2
    go_wp2_with fail
    with_reducible refine (HU.out w6 HB6.out.tab (by have := HLO.out; have := HB6.out.tn.size; omega)).mono ?_
    rintro e w7 ⟨rfl, ht7, hn7⟩
    have hB7 := HB6.out.call ht7 hn7
    generalize hM : (unionF al bl (unionF af bf T1).2).1 = M at *
    have HB8 := keepHid (hB7.last M)
    have HE : Hid ((⟨true, N, M⟩, (unionF al bl (unionF af bf T1).2).2) = thenF ⟨true, af, al⟩ ⟨true, bf, bl⟩ T) := keepHid (by have hN := HN.out; rw [← HT1.out] at hN hM ⊢; subst hN hM; rfl)
    clear a0 a1 a2 b0 b1 b2 r0 r1 r2 rf c0 c1 c2 cf ht7 hn7 hM
    obtain ⟨⟨a0, a1, a2⟩, ⟨b0, b1, b2⟩, ⟨r0, r1, r2⟩, ⟨c0, c1, c2⟩, cf, rf⟩ := hB7.cells
    clear hB7
    simp only at a0 a1 a2 b0 b1 b2
    have HEE := keepHid (HEND.out _ _ _ _ _ _ HB8.out HE.out)
    go_wp2
    refine bodyPost_ret (v := .agg #[.bool true, .int .i64 (N : Int), .int .i64 (M : Int)]) ?_ rfl HEE.out
    rw [results_cell_one rfl]
    go_simp


/-- Two parts, as they lie. -/
def Ab (w : World) (s : Nat) (a b : Prt) : Prop := Blk w s 183 (partC a) ∧ Blk w (s + 1) 183 (partC b)
theorem Ab.six {w : World} {s : Nat} {a b : Prt} (h : Ab w s a b) : w.cell? ⟨s, 0, none⟩ = some (.bool a.e) ∧ w.cell? ⟨s + 1, 0, none⟩ = some (.bool b.e) ∧ w.cell? ⟨s, 1, none⟩ = some (.int .i64 (a.f : Int)) ∧
    w.cell? ⟨s + 1, 1, none⟩ = some (.int .i64 (b.f : Int)) ∧ w.cell? ⟨s, 2, none⟩ = some (.int .i64 (a.l : Int)) ∧ w.cell? ⟨s + 1, 2, none⟩ = some (.int .i64 (b.l : Int)) :=
  ⟨h.1.cell 0, h.2.cell 0, h.1.cell 1, h.2.cell 1, h.1.cell 2, h.2.cell 2⟩
theorem Loc.ab {w : World} {s : Nat} {a b : Prt} (h : Loc w s a b) : Ab w s a b := ⟨h.a, h.b⟩
theorem Ab.three {w : World} {s : Nat} {a b : Prt} (h : Ab w s a b) (u0 u1 u2 : Value) : Ab (((w.setCell ⟨s + 1 + 1, 0, none⟩ u0).setCell ⟨s + 1 + 1, 1, none⟩ u1).setCell ⟨s + 1 + 1, 2, none⟩ u2) s a b :=
  ⟨((h.1.far (by simp; omega) u0).far (by simp; omega) u1).far (by simp; omega) u2, ((h.2.far (by simp) u0).far (by simp) u1).far (by simp) u2⟩
set_option maxHeartbeats 4000000 in
theorem either_part {lo g : Nat} {v3 v4 v5 : Value} {T : TbD} (a b : Prt) {P1 P2 Q1 Q2 : List Nat} (haf : T.groups[a.f]? = some P1) (hal : T.groups[a.l]? = some P2) (hbf : T.groups[b.f]? = some Q1) (hbl : T.groups[b.l]? = some Q2) {w : World} (ht : Tab w lo g v3 v4 v5 T)
    (hlo : lo ≤ w.heap.size) (hn : T.groups.length < 999999) (l1 : P1.length ≤ 1000000) (l2 : P2.length ≤ 1000000) (l3 : Q1.length ≤ 1000000) (l4 : Q2.length ≤ 1000000) :
    Calls Tryz.prog 111 #[.pointer (some ⟨g, 0, none⟩), partV a, partV b] w (PartPost lo g v3 v4 v5 (eitherF a b T) w) := by
  obtain ⟨w2, hw2⟩ : ∃ w2, ((w.alloc (.cells (partC a) 183)).alloc (.cells (partC b) 183)).alloc (.cells prt0 183) = w2 := ⟨_, rfl⟩
  have hb : Below w.heap.size w w2 := by rw [← hw2]; exact (((Below.refl _ _).alloc (Nat.le_refl _) _).alloc (by simp) _).alloc (by simp; omega) _
  have hc : Loc w2 w.heap.size a b := by
    rw [← hw2]
    exact ⟨((Blk.new _ _ _).alloc _).alloc _, (Blk.new_at _ _ _ _ (by simp)).alloc _, Blk.new_at _ _ _ _ (by simp)⟩
  have HU1 : Hid (UnionAt lo g v3 v4 v5 T a.f b.f) := keepHid (union_at haf hbf (by omega) l1 l3)
  have HU2 : Hid (UnionAt lo g v3 v4 v5 (unionF a.f b.f T).2 a.l b.l) := keepHid (by
    obtain ⟨u, _⟩ := up_union (T := T) (m := 2000000) haf hbf (by rw [List.length_append]; omega)
    obtain ⟨gs, e1, e2, _⟩ := u.groups
    exact union_at (u.keep hal) (u.keep hbl) (by rw [e1, List.length_append]; omega) l2 l4)
  unfold UnionAt at HU1 HU2
  have HLO2 : Hid (lo ≤ w2.drew.heap.size) := keepHid (Nat.le_trans hlo hb.size)
  have HC : Hid (Loc w2.drew w.heap.size a b) := keepHid (hc.tn (lo := lo) (Tn.refl _ _).drew)
  have HB : Hid (Tn lo w w2.drew) := keepHid (Tn.of_below hb.drew)
  have HT : Hid (Tab w2.drew lo g v3 v4 v5 T) := keepHid ((ht.keep hb).keep (Below.drew (Below.refl _ _)))
  have HW := keepHid hw2
  have HAB := keepHid hc.ab
  clear hc hb hw2 ht hlo hn l1 l2 l3 l4 haf hal hbf hbl
  unfold partC prt0 at HW
  unfold partV at *
  obtain ⟨ae, af, al⟩ := a
  obtain ⟨be, bf, bl⟩ := b
  simp only at HU1 HU2 HW ⊢
  have HEND : Hid (∀ (w' : World) (e : Bool) (f l : Nat) (T' : TbD), Tab w' lo g v3 v4 v5 T' → Tn lo w w' → Loc w' w.heap.size ⟨ae, af, al⟩ ⟨be, bf, bl⟩ → (⟨e, f, l⟩, T') = eitherF ⟨ae, af, al⟩ ⟨be, bf, bl⟩ T →
      PartPost lo g v3 v4 v5 (eitherF ⟨ae, af, al⟩ ⟨be, bf, bl⟩ T) w (.returned (.agg #[.bool e, .int .i64 (f : Int), .int .i64 (l : Int)])) (((w'.setCell ⟨w.heap.size + 1 + 1, 0, none⟩ (.bool e)).setCell ⟨w.heap.size + 1 + 1, 1, none⟩ (.int .i64 (f : Int))).setCell ⟨w.heap.size + 1 + 1, 2, none⟩ (.int .i64 (l : Int)))) := keepHid (fun w' e f l T' h1 h2 h3 he => by
    rw [← he]
    exact ⟨rfl, part_fin h1 h2 h3.r (by omega) _ _ _⟩)
  generalize hT1 : (unionF af bf T).2 = T1 at *
  generalize hN : (unionF af bf T).1 = N at *
  generalize hT2 : (unionF al bl T1).2 = T2 at *
  generalize hM : (unionF al bl T1).1 = M at *
  have HE : Hid (eitherF ⟨ae, af, al⟩ ⟨be, bf, bl⟩ T = (⟨ae || be, N, M⟩, T2)) := keepHid (by unfold eitherF; simp only; rw [hT1, hN, hM, hT2])
  clear hT1 hN hT2 hM
  cases ae
  · go_enter Tryz.func111, Tryz.ntmps111
    go_wp2
    rw [HW.out]
    go_region_held3 (fun w' => w'.cell? ⟨w.heap.size, 0, none⟩ = some (.bool false) ∧ w'.cell? ⟨w.heap.size + 1, 0, none⟩ = some (.bool be) ∧ w'.cell? ⟨w.heap.size, 1, none⟩ = some (.int .i64 (af : Int)) ∧ w'.cell? ⟨w.heap.size + 1, 1, none⟩ = some (.int .i64 (bf : Int)) ∧ w'.cell? ⟨w.heap.size, 2, none⟩ = some (.int .i64 (al : Int)) ∧ w'.cell? ⟨w.heap.size + 1, 2, none⟩ = some (.int .i64 (bl : Int)))
      (first | exact Ab.six HAB.out | exact Ab.six HAB3.out | exact Ab.six HAB4.out | exact Ab.six (Ab.three HAB4.out _ _ _))
      (first | ((with_reducible refine (HU1.out _ HT.out HLO2.out).mono ?_); rintro e w3 ⟨rfl, ht3, hn3⟩; have HL3 := keepHid (HC.out.tn hn3); have HAB3 := keepHid HL3.out.ab; have HT3 := keepHid ht3; have HN3 := keepHid (HB.out.trans hn3); have HLO3 := keepHid (Nat.le_trans HLO2.out hn3.size); clear ht3 hn3) | ((with_reducible refine (HU2.out _ HT3.out HLO3.out).mono ?_); rintro e w4 ⟨rfl, ht4, hn4⟩; have HL4 := keepHid (HL3.out.tn hn4); have HAB4 := keepHid HL4.out.ab; have HT4 := keepHid ht4; have HN4 := keepHid (HN3.out.trans hn4); clear ht4 hn4; obtain ⟨r0, r1, r2, rf⟩ := blk3 (show Blk w4 _ _ #[.bool false, .int .i64 0, .int .i64 0] from HL4.out.r)))
    all_goals
      have HEE := keepHid (HEND.out _ _ _ _ _ HT4.out HN4.out HL4.out HE.out.symm)
      go_wp2
      refine bodyPost_ret (v := .agg #[.bool be, .int .i64 (N : Int), .int .i64 (M : Int)]) ?_ rfl HEE.out
      rw [results_cell_one rfl]
      go_simp
  · go_enter Tryz.func111, Tryz.ntmps111
    go_wp2
    rw [HW.out]
    refine wp_region_held_drew (S := (fun w' => w'.cell? ⟨w.heap.size, 0, none⟩ = some (.bool true) ∧ w'.cell? ⟨w.heap.size + 1, 0, none⟩ = some (.bool be) ∧ w'.cell? ⟨w.heap.size, 1, none⟩ = some (.int .i64 (af : Int)) ∧ w'.cell? ⟨w.heap.size + 1, 1, none⟩ = some (.int .i64 (bf : Int)) ∧ w'.cell? ⟨w.heap.size, 2, none⟩ = some (.int .i64 (al : Int)) ∧ w'.cell? ⟨w.heap.size + 1, 2, none⟩ = some (.int .i64 (bl : Int)))) (by kernel_rfl) (Ab.six HAB.out) (fun hHeld => ?_)
    refine wpAnyH_take (i := 0) (v := ?v0) rfl (by kernel_rfl) (by kernel_rfl) (by kernel_rfl) (fun _ _ _ h => h) (Or.inl ⟨by rfl, ?hy0⟩) (by assumption) ?rest0
    case hy0 => (intro w hSw; try dsimp only at hSw); go_simp; first | done | (with_reducible rfl)
    try simp only [Act.put]
    refine wpAnyH_take (i := 1) (v := ?v1) rfl (by kernel_rfl) (by kernel_rfl) (by kernel_rfl) (fun _ _ _ h => h) (Or.inl ⟨by rfl, ?hy1⟩) (by assumption) ?rest1
    case hy1 => (intro w hSw; try dsimp only at hSw); go_simp; first | done | (with_reducible rfl)
    try simp only [Act.put]
    refine wpAnyH_take (i := 2) (v := ?v2) rfl (by kernel_rfl) (by kernel_rfl) (by kernel_rfl) (fun _ _ _ h => h) (Or.inl ⟨by rfl, ?hy2⟩) (by assumption) ?rest2
    case hy2 => (intro w hSw; try dsimp only at hSw); go_simp; first | done | (with_reducible rfl)
    try simp only [Act.put]
    refine wpAnyH_take (i := 3) (v := undef) rfl (by kernel_rfl) (by kernel_rfl) (by kernel_rfl) (fun _ _ _ h => h) (Or.inr ⟨by rfl, rfl⟩) (by assumption) ?rest3
    try simp only [Act.put]
    refine wpAnyH_take (i := 4) (v := undef) rfl (by kernel_rfl) (by kernel_rfl) (by kernel_rfl) (fun _ _ _ h => h) (Or.inr ⟨by rfl, rfl⟩) (by assumption) ?rest4
    try simp only [Act.put]
    refine wpAnyH_take (i := 5) (v := ?v5) rfl (by kernel_rfl) (by kernel_rfl) (by kernel_rfl) (fun _ _ _ h => h) (Or.inl ⟨by rfl, ?hy5⟩) (by assumption) ?rest5
    case hy5 => (intro w hSw; try dsimp only at hSw); go_simp; first | done | (with_reducible rfl)
    try simp only [Act.put]
    refine wpAnyH_take (i := 6) (v := ?v6) rfl (by kernel_rfl) (by kernel_rfl) (by kernel_rfl) (fun _ _ _ h => h) (Or.inl ⟨by rfl, ?hy6⟩) (by assumption) ?rest6
    case hy6 => (intro w hSw; try dsimp only at hSw); go_simp; first | done | (with_reducible rfl)
    try simp only [Act.put]
    refine wpAnyH_take (i := 7) (v := ?v7) rfl (by kernel_rfl) (by kernel_rfl) (by kernel_rfl) (fun _ _ _ h => h) (Or.inl ⟨by rfl, ?hy7⟩) (by assumption) ?rest7
    case hy7 => (intro w hSw; try dsimp only at hSw); go_simp; first | done | (with_reducible rfl)
    try simp only [Act.put]
    refine wpAnyH_take (i := 8) (v := ?v8) rfl (by kernel_rfl) (by kernel_rfl) (by kernel_rfl) (fun _ _ _ h => h) (Or.inl ⟨by rfl, ?hy8⟩) (by assumption) ?rest8
    case hy8 => (intro w hSw; try dsimp only at hSw); go_simp; first | done | (with_reducible rfl)
    try simp only [Act.put]
    refine wpAnyH_take (i := 9) (v := ?v9) rfl (by kernel_rfl) (by kernel_rfl) (by kernel_rfl) (fun _ _ _ h => h) (Or.inl ⟨by rfl, ?hy9⟩) (by assumption) ?rest9
    case hy9 => (intro w hSw; try dsimp only at hSw); go_simp; first | done | (with_reducible rfl)
    try simp only [Act.put]
    refine wpAnyH_take (i := 10) (v := ?v10) rfl (by kernel_rfl) (by kernel_rfl) (by kernel_rfl) (fun _ _ _ h => h) (Or.inl ⟨by rfl, ?hy10⟩) (by assumption) ?rest10
    case hy10 => (intro w hSw; try dsimp only at hSw); go_simp; first | done | (with_reducible rfl)
    try simp only [Act.put]
    refine wpAnyH_take (i := 12) (v := ?v12) rfl (by kernel_rfl) (by kernel_rfl) (by kernel_rfl) (fun _ _ _ h => h) (Or.inl ⟨by rfl, ?hy12⟩) (by assumption) ?rest12
    case hy12 => (intro w hSw; try dsimp only at hSw); go_simp; first | done | (with_reducible rfl)
    try simp only [Act.put]
    refine wpAnyH_take (i := 13) (v := ?v13) rfl (by kernel_rfl) (by kernel_rfl) (by kernel_rfl) (fun _ _ _ h => h) (Or.inl ⟨by rfl, ?hy13⟩) (by assumption) ?rest13
    case hy13 => (intro w hSw; try dsimp only at hSw); go_simp; first | done | (with_reducible rfl)
    try simp only [Act.put]
    refine wpAnyH_take (i := 14) (v := ?v14) rfl (by kernel_rfl) (by kernel_rfl) (by kernel_rfl) (fun _ _ _ h => h) (Or.inl ⟨by rfl, ?hy14⟩) (by assumption) ?rest14
    case hy14 => (intro w hSw; try dsimp only at hSw); go_simp; first | done | (with_reducible rfl)
    try simp only [Act.put]
    refine wpAnyH_take (i := 15) (v := ?v15) rfl (by kernel_rfl) (by kernel_rfl) (by kernel_rfl) (fun _ _ _ h => h) (Or.inl ⟨by rfl, ?hy15⟩) (by assumption) ?rest15
    case hy15 => (intro w hSw; try dsimp only at hSw); go_simp; first | done | (with_reducible rfl)
    try simp only [Act.put]
    refine wpAnyH_take (i := 16) (v := ?v16) rfl (by kernel_rfl) (by kernel_rfl) (by kernel_rfl) (fun _ _ _ h => h) (Or.inl ⟨by rfl, ?hy16⟩) (by assumption) ?rest16
    case hy16 => (intro w hSw; try dsimp only at hSw); go_simp; first | done | (with_reducible rfl)
    try simp only [Act.put]
    clear hHeld
    refine wpAnyH_ready (rs := [11]) (by kernel_rfl) (by simp) ?_
    refine AllReadyH.cons rfl (fun K hK => ?_) AllReadyH.nil
    go_simp
    (with_reducible refine (HU1.out _ HT.out HLO2.out).mono ?_)
    rintro e w3 ⟨rfl, ht3, hn3⟩
    have HL3 := keepHid (HC.out.tn hn3)
    have HAB3 := keepHid HL3.out.ab
    have HT3 := keepHid ht3
    have HN3 := keepHid (HB.out.trans hn3)
    have HLO3 := keepHid (Nat.le_trans HLO2.out hn3.size)
    clear ht3 hn3
    go_wp2_with fail
    refine hK.out _ _ (Ab.six HAB3.out) (fun hHeld => ?_)
    clear hK K
    try simp only [Act.put]
    refine wpAnyH_ready (rs := [17]) (by kernel_rfl) (by simp) ?_
    refine AllReadyH.cons rfl (fun K hK => ?_) AllReadyH.nil
    clear hHeld
    go_simp
    (with_reducible refine (HU2.out _ HT3.out HLO3.out).mono ?_)
    rintro e w4 ⟨rfl, ht4, hn4⟩
    have HL4 := keepHid (HL3.out.tn hn4)
    have HAB4 := keepHid HL4.out.ab
    have HT4 := keepHid ht4
    have HN4 := keepHid (HN3.out.trans hn4)
    clear ht4 hn4
    go_wp2_with fail
    refine hK.out _ _ (Ab.six HAB4.out) (fun hHeld => ?_)
    clear hK K
    try simp only [Act.put]
    refine wpAnyH_take (i := 18) (v := ?v18) rfl (by kernel_rfl) (by kernel_rfl) (by kernel_rfl) (fun _ _ _ h => h) (Or.inl ⟨by rfl, ?hy18⟩) (by assumption) ?rest18
    case hy18 => (intro w hSw; try dsimp only at hSw); go_simp; first | done | (with_reducible rfl)
    try simp only [Act.put]
    obtain ⟨r0, r1, r2, rf⟩ := blk3 (show Blk w4 _ _ #[.bool false, .int .i64 0, .int .i64 0] from HL4.out.r)
    refine wpAnyH_ready (rs := [19]) (by kernel_rfl) (by simp) ?_
    refine AllReadyH.cons rfl (fun K hK => ?_) AllReadyH.nil
    clear hHeld
    go_simp
    refine hK.out _ _ (Ab.six (Ab.three HAB4.out _ _ _)) (fun hHeld => ?_)
    clear hK K hHeld
    try simp only [Act.put]
    refine wpAnyH_done (by kernel_rfl) ?_ _
    have HEE := keepHid (HEND.out _ _ _ _ _ HT4.out HN4.out HL4.out HE.out.symm)
    go_wp2
    refine bodyPost_ret (v := .agg #[.bool true, .int .i64 (N : Int), .int .i64 (M : Int)]) ?_ rfl HEE.out
    rw [results_cell_one rfl]
    go_simp


structure Sm (T : TbD) : Prop where
  sets : T.sets.length ≤ 900000
  groups : T.groups.length ≤ 900000
  leads : T.leads.length ≤ 900000
  rows : ∀ q ∈ T.groups, q.length ≤ 900000
theorem Sm.up {T T' : TbD} {os : List St} {k m : Nat} {F : Nat → Nat → Prop} (h : Sm T') (u : Up T T' os k m F) : Sm T := by
  obtain ⟨gs, e1, _⟩ := u.groups
  obtain ⟨ls, e2, _⟩ := u.leads
  refine ⟨?_, ?_, ?_, fun q hq => h.rows q (by rw [e1]; exact List.mem_append_left _ hq)⟩
  · have := h.sets; rw [u.sets, List.length_append] at this; omega
  · have := h.groups; rw [e1, List.length_append] at this; omega
  · have := h.leads; rw [e2, List.length_append] at this; omega
theorem Sm.row {T : TbD} (h : Sm T) {i : Nat} {q : List Nat} (hi : T.groups[i]? = some q) : q.length ≤ 900000 := h.rows q (List.mem_of_getElem? hi)
def AddAt (r : Re) : Prop := ∀ (lo g : Nat) (v3 v4 v5 : Value) (T : TbD) (h : Hd) (w : World), Tab w lo g v3 v4 v5 T → lo ≤ w.heap.size → IsS w (fun i => i < lo) h r → Sm (addF r T).2 →
  Calls Tryz.prog 92 #[.pointer (some ⟨g, 0, none⟩), hdV h] w (PartPost lo g v3 v4 v5 (addF r T) w)
theorem add_end {lo g : Nat} {v3 v4 v5 : Value} {R : Prt × TbD} {w w' : World} {b : Nat} {cs : Array Value} (ht : Tab w' lo g v3 v4 v5 R.2) (hn : Tn lo w w') (hb : Blk w' b 183 cs) (hlb : w.heap.size ≤ b) :
    PartPost lo g v3 v4 v5 R w (.returned (.agg #[.bool R.1.e, .int .i64 (R.1.f : Int), .int .i64 (R.1.l : Int)])) (((w'.setCell ⟨b, 0, none⟩ (.bool R.1.e)).setCell ⟨b, 1, none⟩ (.int .i64 (R.1.f : Int))).setCell ⟨b, 2, none⟩ (.int .i64 (R.1.l : Int))) :=
  ⟨rfl, part_fin ht hn hb hlb _ _ _⟩
set_option maxHeartbeats 4000000 in
theorem add_nil : AddAt .nil := by
  intro lo g v3 v4 v5 T h w ht hlo hi hs
  obtain rfl : h = hd0 := hi
  have hT : T.groups.length < 1000000 := by have := hs.groups; simp [addF, nothingF, TbD.push] at this; omega
  obtain ⟨w2, hw2⟩ : ∃ w2, (w.alloc (.cells #[.int .i64 0, .int .u64 0, .int .u64 0, .int .u64 0, .int .u64 0, .slice none 0 0] 76)).alloc (.cells #[.bool false, .int .i64 0, .int .i64 0] 183) = w2 := ⟨_, rfl⟩
  have hb2 : Below w.heap.size w w2 := by rw [← hw2]; exact ((Below.refl _ _).alloc (Nat.le_refl _) _).alloc (by simp) _
  have kn : Blk w2 w.heap.size 76 #[.int .i64 0, .int .u64 0, .int .u64 0, .int .u64 0, .int .u64 0, .slice none 0 0] := by rw [← hw2]; exact (Blk.new _ _ _).alloc _
  have HK : Hid (Blk w2 (w.heap.size + 1) 183 #[.bool false, .int .i64 0, .int .i64 0]) := keepHid (by rw [← hw2]; exact Blk.new_at _ _ _ _ (by simp))
  have HC := keepHid (nothing_any (ht.keep hb2) (Nat.le_trans hlo hb2.size) hT)
  have HB := keepHid hb2
  have HW := keepHid hw2
  obtain ⟨n0, n1, n2, n3, n4, n5, nf⟩ := blk6 kn
  rw [show addF .nil T = nothingF T from rfl, hdV_hd0]
  generalize nothingF T = R at *
  clear ht hlo hs hT hw2 hb2 kn
  go_enter Tryz.func92, Tryz.ntmps92
  go_wp2_with fail
  rw [HW.out]
  go_wp2_with fail
  with_reducible refine HC.out.mono ?_
  rintro e w3 ⟨rfl, ht3, hn3⟩
  have hk3 := hn3.blk HK.out (by decide)
  have HE := keepHid (add_end ht3 ((Tn.of_below HB.out).trans hn3) hk3 (Nat.le_succ _))
  obtain ⟨z0, z1, z2, zf⟩ := blk3 hk3
  clear ht3 hn3 hk3
  unfold partV
  go_wp2
  refine bodyPost_ret (v := .agg #[.bool R.1.e, .int .i64 (R.1.f : Int), .int .i64 (R.1.l : Int)]) ?_ rfl HE.out
  rw [results_cell_one rfl]
  go_simp

set_option maxHeartbeats 4000000 in
theorem add_one (x : St) : AddAt (.one x) := by
  intro lo g v3 v4 v5 T h w ht hlo hi hs
  obtain rfl : h = ⟨1, x, none, 0, 0⟩ := hi
  have hT : T.groups.length < 1000000 := by have := hs.groups; simp [addF, oneF, TbD.push] at this; omega
  have hT2 : T.sets.length < 1000000 := by have := hs.sets; simp [addF, oneF, TbD.push] at this; omega
  obtain ⟨w2, hw2⟩ : ∃ w2, (w.alloc (.cells #[.int .i64 1, .int .u64 (x.a.toNat : Int), .int .u64 (x.b.toNat : Int), .int .u64 (x.c.toNat : Int), .int .u64 (x.d.toNat : Int), .slice none 0 0] 76)).alloc (.cells #[.bool false, .int .i64 0, .int .i64 0] 183) = w2 := ⟨_, rfl⟩
  have hb2 : Below w.heap.size w w2 := by rw [← hw2]; exact ((Below.refl _ _).alloc (Nat.le_refl _) _).alloc (by simp) _
  have kn : Blk w2 w.heap.size 76 #[.int .i64 1, .int .u64 (x.a.toNat : Int), .int .u64 (x.b.toNat : Int), .int .u64 (x.c.toNat : Int), .int .u64 (x.d.toNat : Int), .slice none 0 0] := by rw [← hw2]; exact (Blk.new _ _ _).alloc _
  have HK : Hid (Blk w2 (w.heap.size + 1) 183 #[.bool false, .int .i64 0, .int .i64 0]) := keepHid (by rw [← hw2]; exact Blk.new_at _ _ _ _ (by simp))
  have hc := one_part x (ht.keep hb2) (Nat.le_trans hlo hb2.size) hT hT2
  have HB := keepHid hb2
  have HW := keepHid hw2
  obtain ⟨n0, n1, n2, n3, n4, n5, nf⟩ := blk6 kn
  rw [show addF (.one x) T = oneF x T from rfl]
  generalize oneF x T = R at *
  unfold stV at hc
  have HC := keepHid hc
  clear ht hlo hs hT hw2 hb2 kn hc hT2
  unfold hdV
  go_enter Tryz.func92, Tryz.ntmps92
  go_wp2_with fail
  rw [HW.out]
  go_wp2_with fail
  with_reducible refine HC.out.mono ?_
  rintro e w3 ⟨rfl, ht3, hn3⟩
  have hk3 := hn3.blk HK.out (by decide)
  have HE := keepHid (add_end ht3 ((Tn.of_below HB.out).trans hn3) hk3 (Nat.le_succ _))
  obtain ⟨z0, z1, z2, zf⟩ := blk3 hk3
  clear ht3 hn3 hk3
  unfold partV
  go_wp2
  refine bodyPost_ret (v := .agg #[.bool R.1.e, .int .i64 (R.1.f : Int), .int .i64 (R.1.l : Int)]) ?_ rfl HE.out
  rw [results_cell_one rfl]
  go_simp
set_option maxHeartbeats 4000000 in
theorem add_star {a : Re} (HA : AddAt a) : AddAt (.star a) := by
  intro lo g v3 v4 v5 T h w ht hlo hi hs
  obtain ⟨G, c, x, rfl, hc1, hcm, hG, hx, hix⟩ := hi
  rw [show addF (.star a) T = starF (addF a T).1 (addF a T).2 from rfl] at *
  have hgr := add_grown a T
  have hsm : Sm (addF a T).2 := hs.up (Up.lead hgr.l hgr.f 0)
  have hl : (addF a T).2.leads.length < 1000000 := by have := hsm.leads; omega
  have hlf : (addF a T).1.f < 1000000 := by have := lt_of_get hgr.f; have := hsm.groups; omega
  have hll : (addF a T).1.l < 1000000 := by have := lt_of_get hgr.l; have := hsm.groups; omega
  obtain ⟨w2, hw2⟩ : ∃ w2, (w.alloc (.cells #[.int .i64 4, .int .u64 0, .int .u64 0, .int .u64 0, .int .u64 0, .slice (some ⟨G, 0, none⟩) 1 c] 76)).alloc (.cells #[.bool false, .int .i64 0, .int .i64 0] 183) = w2 := ⟨_, rfl⟩
  have hb2 : Below w.heap.size w w2 := by rw [← hw2]; exact ((Below.refl _ _).alloc (Nat.le_refl _) _).alloc (by simp) _
  have kn : Blk w2 w.heap.size 76 #[.int .i64 4, .int .u64 0, .int .u64 0, .int .u64 0, .int .u64 0, .slice (some ⟨G, 0, none⟩) 1 c] := by rw [← hw2]; exact (Blk.new _ _ _).alloc _
  have HK : Hid (Blk w2 (w.heap.size + 1) 183 #[.bool false, .int .i64 0, .int .i64 0]) := keepHid (by rw [← hw2]; exact Blk.new_at _ _ _ _ (by simp))
  have HKID := keepHid (kid0_any 4 st0 G 1 c x w2 (Nat.le_refl _) (hx.keep (hb2.block G hx.lt)))
  have HB := keepHid hb2
  have HW := keepHid hw2
  have HA' : Hid (∀ w3, Below w2.heap.size w2 w3 → Calls Tryz.prog 92 #[.pointer (some ⟨g, 0, none⟩), hdV x] w3 (PartPost lo g v3 v4 v5 (addF a T) w3)) := keepHid (fun w3 hb3 => by
    have hw3 := hb2.trans (hb3.mono hb2.size)
    exact HA lo g v3 v4 v5 T x w3 (ht.keep hw3) (Nat.le_trans hlo hw3.size) (hix.keep fun i hi hl => hw3.block i (by omega)) hsm)
  have HS : Hid (∀ w4, Tab w4 lo g v3 v4 v5 (addF a T).2 → w.heap.size ≤ w4.heap.size → Calls Tryz.prog 112 #[.pointer (some ⟨g, 0, none⟩), partV (addF a T).1] w4 (PartPost lo g v3 v4 v5 (starF (addF a T).1 (addF a T).2) w4)) := keepHid (fun w4 h4 hs4 =>
    star_part _ h4 (Nat.le_trans hlo hs4) hl hlf hll)
  obtain ⟨n0, n1, n2, n3, n4, n5, nf⟩ := blk6 kn
  generalize starF (addF a T).1 (addF a T).2 = R at *
  clear ht hlo hs hw2 hb2 kn hgr hsm hl hlf hll hx hix
  rw [hdV_st0]
  rw [hdV_st0] at HKID
  go_enter Tryz.func92, Tryz.ntmps92
  go_wp2_with fail
  rw [HW.out]
  go_wp2_with fail
  with_reducible refine HKID.out.mono ?_
  rintro e w3 ⟨rfl, hb3⟩
  have HA3 := keepHid (HA'.out w3 hb3)
  have HB3 := keepHid hb3
  clear hb3
  go_wp2_with fail
  with_reducible refine HA3.out.mono ?_
  rintro e w4 ⟨rfl, ht4, hn4⟩
  have HN4 := keepHid ((Tn.of_below (HB.out.trans (HB3.out.mono HB.out.size))).trans hn4)
  have HS4 := keepHid (HS.out w4 ht4 HN4.out.size)
  have HK4 := keepHid (hn4.blk (HK.out.below HB3.out HK.out.lt) (by decide))
  clear ht4 hn4
  go_wp2_with fail
  with_reducible refine HS4.out.mono ?_
  rintro e w5 ⟨rfl, ht5, hn5⟩
  have hk5 := hn5.blk HK4.out (by decide)
  have HE := keepHid (add_end ht5 (HN4.out.trans hn5) hk5 (Nat.le_succ _))
  obtain ⟨z0, z1, z2, zf⟩ := blk3 hk5
  clear ht5 hn5 hk5 n0 n1 n2 n3 n4 n5
  unfold partV
  go_wp2
  refine bodyPost_ret (v := .agg #[.bool R.1.e, .int .i64 (R.1.f : Int), .int .i64 (R.1.l : Int)]) ?_ rfl HE.out
  rw [results_cell_one rfl]
  go_simp


theorem sm_sub {T T' : TbD} (h : Sm T') (h1 : T.sets = T'.sets) (h2 : ∃ gs, T'.groups = T.groups ++ gs) (h3 : ∃ ls, T'.leads = T.leads ++ ls) : Sm T := by
  obtain ⟨gs, e1⟩ := h2
  obtain ⟨ls, e2⟩ := h3
  refine ⟨by rw [h1]; exact h.sets, ?_, ?_, fun q hq => h.rows q (by rw [e1]; exact List.mem_append_left _ hq)⟩
  · have := h.groups; rw [e1, List.length_append] at this; omega
  · have := h.leads; rw [e2, List.length_append] at this; omega
theorem unionIf_sub (c : Bool) (a b d : Nat) (T : TbD) : (unionIf c a b d T).2.sets = T.sets ∧ (unionIf c a b d T).2.leads = T.leads ∧ ∃ gs, (unionIf c a b d T).2.groups = T.groups ++ gs := by
  cases c
  · exact ⟨rfl, rfl, [], by simp [unionIf]⟩
  · exact ⟨rfl, rfl, _, rfl⟩
theorem sm_then {p q : Prt} {T : TbD} (h : Sm (thenF p q T).2) : Sm T := by
  obtain ⟨a1, a2, gs, a3⟩ := unionIf_sub p.e p.f q.f p.f (leadF p q T)
  obtain ⟨b1, b2, gt, b3⟩ := unionIf_sub q.e p.l q.l q.l (unionIf p.e p.f q.f p.f (leadF p q T)).2
  refine sm_sub h ?_ ⟨gs ++ gt, ?_⟩ ⟨[(p.l, q.f)], ?_⟩
  · show T.sets = (unionIf q.e p.l q.l q.l (unionIf p.e p.f q.f p.f (leadF p q T)).2).2.sets
    rw [b1, a1]; rfl
  · show (unionIf q.e p.l q.l q.l (unionIf p.e p.f q.f p.f (leadF p q T)).2).2.groups = _
    rw [b3, a3]; simp [leadF]
  · show (unionIf q.e p.l q.l q.l (unionIf p.e p.f q.f p.f (leadF p q T)).2).2.leads = _
    rw [b2, a2]; rfl
theorem sm_either {p q : Prt} {T : TbD} (h : Sm (eitherF p q T).2) : Sm T :=
  sm_sub h rfl ⟨[T.grp p.f ++ T.grp q.f, (unionF p.f q.f T).2.grp p.l ++ (unionF p.f q.f T).2.grp q.l], by simp [eitherF, unionF, TbD.push]⟩ ⟨[], by simp [eitherF, unionF, TbD.push]⟩
/-- A node's own variable, and a part's. -/
def Nb (w : World) (s C : Nat) (k : Int) (G c : Nat) (pe : Bool) (pf pl : Nat) : Prop := Blk w s 76 #[.int .i64 k, .int .u64 0, .int .u64 0, .int .u64 0, .int .u64 0, .slice (some ⟨G, 0, none⟩) 2 c] ∧ Blk w C 183 #[.bool pe, .int .i64 (pf : Int), .int .i64 (pl : Int)]
theorem Nb.nine {w : World} {s C : Nat} {k : Int} {G c : Nat} {pe : Bool} {pf pl : Nat} (h : Nb w s C k G c pe pf pl) : w.cell? ⟨s, 0, none⟩ = some (.int .i64 k) ∧ w.cell? ⟨s, 1, none⟩ = some (.int .u64 0) ∧ w.cell? ⟨s, 2, none⟩ = some (.int .u64 0) ∧ w.cell? ⟨s, 3, none⟩ = some (.int .u64 0) ∧ w.cell? ⟨s, 4, none⟩ = some (.int .u64 0) ∧
    w.cell? ⟨s, 5, none⟩ = some (.slice (some ⟨G, 0, none⟩) 2 c) ∧ w.cell? ⟨C, 0, none⟩ = some (.bool pe) ∧ w.cell? ⟨C, 1, none⟩ = some (.int .i64 (pf : Int)) ∧ w.cell? ⟨C, 2, none⟩ = some (.int .i64 (pl : Int)) :=
  ⟨h.1.cell 0, h.1.cell 1, h.1.cell 2, h.1.cell 3, h.1.cell 4, h.1.cell 5, h.2.cell 0, h.2.cell 1, h.2.cell 2⟩
theorem Nb.tn {lo : Nat} {w w' : World} {s C : Nat} {k : Int} {G c : Nat} {pe : Bool} {pf pl : Nat} (h : Nb w s C k G c pe pf pl) (t : Tn lo w w') : Nb w' s C k G c pe pf pl := ⟨t.blk h.1 (by decide), t.blk h.2 (by decide)⟩
theorem Nb.three {w : World} {s C : Nat} {k : Int} {G c : Nat} {pe : Bool} {pf pl : Nat} (h : Nb w s C k G c pe pf pl) (hC : s + 1 < C) (u0 u1 u2 : Value) : Nb (((w.setCell ⟨s + 1, 0, none⟩ u0).setCell ⟨s + 1, 1, none⟩ u1).setCell ⟨s + 1, 2, none⟩ u2) s C k G c pe pf pl :=
  ⟨((h.1.far (by simp) u0).far (by simp) u1).far (by simp) u2, ((h.2.far (by simp; omega) u0).far (by simp; omega) u1).far (by simp; omega) u2⟩
set_option maxHeartbeats 4000000 in
theorem add_thn {a b : Re} (HA : AddAt a) (HB0 : AddAt b) : AddAt (.thn a b) := by
  intro lo g v3 v4 v5 T h w ht hlo hi hs
  obtain ⟨G, c, x, y, rfl, hc1, hcm, hG, hx, hy, hix, hiy⟩ := hi
  have hgb := add_grown b (addF a T).2
  have hga := add_grown a T
  rw [show addF (.thn a b) T = thenF (addF a T).1 (addF b (addF a T).2).1 (addF b (addF a T).2).2 from rfl] at *
  have haf := hgb.up.keep hga.f
  have hal := hgb.up.keep hga.l
  have hbf := hgb.f
  have hbl := hgb.l
  have hsm : Sm (addF b (addF a T).2).2 := by
    exact sm_then hs
  have hsa : Sm (addF a T).2 := hsm.up hgb.up
  have hl : (addF b (addF a T).2).2.leads.length < 1000000 := by have := hsm.leads; omega
  have hg2 : (addF b (addF a T).2).2.groups.length < 999999 := by have := hsm.groups; omega
  have q1 := Nat.le_trans (hsm.row haf) (show 900000 ≤ 1000000 by omega)
  have q2 := Nat.le_trans (hsm.row hal) (show 900000 ≤ 1000000 by omega)
  have q3 := Nat.le_trans (hsm.row hbf) (show 900000 ≤ 1000000 by omega)
  have q4 := Nat.le_trans (hsm.row hbl) (show 900000 ≤ 1000000 by omega)
  obtain ⟨w2, hw2⟩ : ∃ w2, (w.alloc (.cells #[.int .i64 2, .int .u64 0, .int .u64 0, .int .u64 0, .int .u64 0, .slice (some ⟨G, 0, none⟩) 2 c] 76)).alloc (.cells #[.bool false, .int .i64 0, .int .i64 0] 183) = w2 := ⟨_, rfl⟩
  have hb2 : Below w.heap.size w w2 := by rw [← hw2]; exact ((Below.refl _ _).alloc (Nat.le_refl _) _).alloc (by simp) _
  have kn : Blk w2 w.heap.size 76 #[.int .i64 2, .int .u64 0, .int .u64 0, .int .u64 0, .int .u64 0, .slice (some ⟨G, 0, none⟩) 2 c] := by rw [← hw2]; exact (Blk.new _ _ _).alloc _
  have HK : Hid (Blk w2 (w.heap.size + 1) 183 #[.bool false, .int .i64 0, .int .i64 0]) := keepHid (by rw [← hw2]; exact Blk.new_at _ _ _ _ (by simp))
  have HKID := keepHid (kid0_any 2 st0 G 2 c x w2 (by omega) (hx.keep (hb2.block G hx.lt)))
  have HB := keepHid hb2
  have HW := keepHid hw2
  have HN2 := keepHid kn
  have HA' : Hid (∀ w3, Below w2.heap.size w2 w3 → Calls Tryz.prog 92 #[.pointer (some ⟨g, 0, none⟩), hdV x] w3 (PartPost lo g v3 v4 v5 (addF a T) w3)) := keepHid (fun w3 hb3 => by
    have hw3 := hb2.trans (hb3.mono hb2.size)
    exact HA lo g v3 v4 v5 T x w3 (ht.keep hw3) (Nat.le_trans hlo hw3.size) (hix.keep fun i hi hl => hw3.block i (by omega)) hsa)
  have HKID2 : Hid (∀ w4, Tn lo w w4 → Calls Tryz.prog 109 #[hdV ⟨2, st0, some ⟨G, 0, none⟩, 2, c⟩, .int .i64 1] w4 fun e w' => e = .returned (hdV y) ∧ Below w4.heap.size w4 w') := keepHid (fun w4 h4 =>
    kid1_any 2 st0 G 2 c y w4 (by omega) (hy.keep (h4.block G hy.lt fun hm => by have := hm.1; omega)))
  have HA2 : Hid (∀ w5, Tab w5 lo g v3 v4 v5 (addF a T).2 → Tn lo w w5 → Calls Tryz.prog 92 #[.pointer (some ⟨g, 0, none⟩), hdV y] w5 (PartPost lo g v3 v4 v5 (addF b (addF a T).2) w5)) := keepHid (fun w5 h5 t5 =>
    HB0 lo g v3 v4 v5 (addF a T).2 y w5 h5 (Nat.le_trans hlo t5.size) (IsRe.tn hiy t5 (fun _ hg => hg)) hsm)
  have HS : Hid (∀ w6, Tab w6 lo g v3 v4 v5 (addF b (addF a T).2).2 → Tn lo w w6 → Calls Tryz.prog 110 #[.pointer (some ⟨g, 0, none⟩), partV (addF a T).1, partV (addF b (addF a T).2).1] w6 (PartPost lo g v3 v4 v5 (thenF (addF a T).1 (addF b (addF a T).2).1 (addF b (addF a T).2).2) w6)) := keepHid (fun w6 h6 t6 =>
    then_part _ _ haf hal hbf hbl h6 (Nat.le_trans hlo t6.size) hg2 hl q1 q2 q3 q4)
  obtain ⟨n0, n1, n2, n3, n4, n5, nf⟩ := blk6 kn
  generalize thenF (addF a T).1 (addF b (addF a T).2).1 (addF b (addF a T).2).2 = R at *
  generalize addF b (addF a T).2 = Rb at *
  generalize addF a T = Ra at *
  clear ht hlo hs hw2 hb2 kn hga hgb hsm hsa hl hg2 q1 q2 q3 q4 haf hal hbf hbl hx hy hix hiy
  rw [hdV_st0]
  rw [hdV_st0] at HKID HKID2
  obtain ⟨⟨pe, pf, pl⟩, Ta⟩ := Ra
  simp only at *
  go_enter Tryz.func92, Tryz.ntmps92
  go_wp2_with fail
  rw [HW.out]
  go_wp2_with fail
  with_reducible refine HKID.out.mono ?_
  rintro e w3 ⟨rfl, hb3⟩
  have HA3 := keepHid (HA'.out w3 hb3)
  have HB3 := keepHid hb3
  clear hb3
  go_wp2_with fail
  with_reducible refine HA3.out.mono ?_
  rintro e w4 ⟨rfl, ht4, hn4⟩
  obtain ⟨w5, hw5⟩ : ∃ w5, w4.alloc (.cells #[.bool pe, .int .i64 (pf : Int), .int .i64 (pl : Int)] 183) = w5 := ⟨_, rfl⟩
  have hb45 : Below w4.heap.size w4 w5 := by rw [← hw5]; exact (Below.refl _ _).alloc (Nat.le_refl _) _
  have HN5 := keepHid (((Tn.of_below (HB.out.trans (HB3.out.mono HB.out.size))).trans hn4).trans (Tn.of_below hb45))
  have HK5 := keepHid ((hn4.blk (HK.out.below HB3.out HK.out.lt) (by decide)).below hb45 (hn4.blk (HK.out.below HB3.out HK.out.lt) (by decide)).lt)
  have HNB5 := keepHid ((hn4.blk (HN2.out.below HB3.out HN2.out.lt) (by decide)).below hb45 (hn4.blk (HN2.out.below HB3.out HN2.out.lt) (by decide)).lt)
  have HP5 : Hid (Blk w5 w4.heap.size 183 #[.bool pe, .int .i64 (pf : Int), .int .i64 (pl : Int)]) := keepHid (by rw [← hw5]; exact Blk.new _ _ _)
  have HT5 := keepHid (Tab.keep ht4 hb45)
  have hlt : w.heap.size + 1 < w4.heap.size := by have := HK.out.lt; have := HB3.out.size; have := hn4.size; omega
  have HLT := keepHid hlt
  clear ht4 hn4 n0 n1 n2 n3 n4 n5 hb45 hlt nf
  unfold partV
  go_upto_region 6 with fail
  clear hw5
  generalize w4.heap.size = C at *
  have HB5 : Hid (Nb w5.drew w.heap.size C 2 G c pe pf pl) := keepHid ⟨HNB5.out, HP5.out⟩
  have HN5' : Hid (Tn lo w w5.drew) := keepHid HN5.out.drew
  have HT5' : Hid (Tab w5.drew lo g v3 v4 v5 Ta) := keepHid (HT5.out.keep (Below.drew (Below.refl _ _)))
  have HR5 : Hid (Blk w5.drew (w.heap.size + 1) 183 #[.bool false, .int .i64 0, .int .i64 0]) := keepHid HK5.out
  have e1 : partV ⟨pe, pf, pl⟩ = .agg #[.bool pe, .int .i64 (pf : Int), .int .i64 (pl : Int)] := rfl
  rw [e1] at HS
  clear e1 HNB5 HP5 HN5 HT5 HK5
  go_region_held3 (fun w' => w'.cell? ⟨w.heap.size, 0, none⟩ = some (.int .i64 2) ∧ w'.cell? ⟨w.heap.size, 1, none⟩ = some (.int .u64 0) ∧ w'.cell? ⟨w.heap.size, 2, none⟩ = some (.int .u64 0) ∧ w'.cell? ⟨w.heap.size, 3, none⟩ = some (.int .u64 0) ∧ w'.cell? ⟨w.heap.size, 4, none⟩ = some (.int .u64 0) ∧ w'.cell? ⟨w.heap.size, 5, none⟩ = some (.slice (some ⟨G, 0, none⟩) 2 c) ∧ w'.cell? ⟨C, 0, none⟩ = some (.bool pe) ∧ w'.cell? ⟨C, 1, none⟩ = some (.int .i64 (pf : Int)) ∧ w'.cell? ⟨C, 2, none⟩ = some (.int .i64 (pl : Int))) (first | exact HB5.out.nine | exact HB6.out.nine | exact HB7.out.nine | exact HB8.out.nine | exact (HB8.out.three HLT.out _ _ _).nine) (first | (go_at_call 109; (with_reducible refine (HKID2.out _ HN5'.out).mono ?_); rintro e w6 ⟨rfl, hb6⟩; have HB6 := keepHid (HB5.out.tn (lo := lo) (Tn.of_below hb6)); have HN6 := keepHid (HN5'.out.trans (Tn.of_below hb6)); have HT6 := keepHid (HT5'.out.keep hb6); have HR6 := keepHid (HR5.out.below hb6 HR5.out.lt); clear hb6) | (go_at_call 92; (with_reducible refine (HA2.out _ HT6.out HN6.out).mono ?_); rintro e w7 ⟨rfl, ht7, hn7⟩; have HB7 := keepHid (HB6.out.tn hn7); have HN7 := keepHid (HN6.out.trans hn7); have HT7 := keepHid ht7; have HR7 := keepHid (hn7.blk HR6.out (by decide)); clear ht7 hn7) | (go_at_call 110; (with_reducible refine (HS.out _ HT7.out HN7.out).mono ?_); rintro e w8 ⟨rfl, ht8, hn8⟩; unfold partV; have HB8 := keepHid (HB7.out.tn hn8); have HR8 := keepHid (hn8.blk HR7.out (by decide)); have HE := keepHid (add_end ht8 (HN7.out.trans hn8) HR8.out (Nat.le_succ _)); clear ht8 hn8; obtain ⟨z0, z1, z2, zf⟩ := blk3 HR8.out))
  all_goals
    go_wp2
    refine bodyPost_ret (v := .agg #[.bool R.1.e, .int .i64 (R.1.f : Int), .int .i64 (R.1.l : Int)]) ?_ rfl HE.out
    rw [results_cell_one rfl]
    go_simp


set_option maxHeartbeats 4000000 in
theorem add_alt {a b : Re} (HA : AddAt a) (HB0 : AddAt b) : AddAt (.alt a b) := by
  intro lo g v3 v4 v5 T h w ht hlo hi hs
  obtain ⟨G, c, x, y, rfl, hc1, hcm, hG, hx, hy, hix, hiy⟩ := hi
  have hgb := add_grown b (addF a T).2
  have hga := add_grown a T
  rw [show addF (.alt a b) T = eitherF (addF a T).1 (addF b (addF a T).2).1 (addF b (addF a T).2).2 from rfl] at *
  have haf := hgb.up.keep hga.f
  have hal := hgb.up.keep hga.l
  have hbf := hgb.f
  have hbl := hgb.l
  have hsm : Sm (addF b (addF a T).2).2 := by
    exact sm_either hs
  have hsa : Sm (addF a T).2 := hsm.up hgb.up
  have hg2 : (addF b (addF a T).2).2.groups.length < 999999 := by have := hsm.groups; omega
  have q1 := Nat.le_trans (hsm.row haf) (show 900000 ≤ 1000000 by omega)
  have q2 := Nat.le_trans (hsm.row hal) (show 900000 ≤ 1000000 by omega)
  have q3 := Nat.le_trans (hsm.row hbf) (show 900000 ≤ 1000000 by omega)
  have q4 := Nat.le_trans (hsm.row hbl) (show 900000 ≤ 1000000 by omega)
  obtain ⟨w2, hw2⟩ : ∃ w2, (w.alloc (.cells #[.int .i64 3, .int .u64 0, .int .u64 0, .int .u64 0, .int .u64 0, .slice (some ⟨G, 0, none⟩) 2 c] 76)).alloc (.cells #[.bool false, .int .i64 0, .int .i64 0] 183) = w2 := ⟨_, rfl⟩
  have hb2 : Below w.heap.size w w2 := by rw [← hw2]; exact ((Below.refl _ _).alloc (Nat.le_refl _) _).alloc (by simp) _
  have kn : Blk w2 w.heap.size 76 #[.int .i64 3, .int .u64 0, .int .u64 0, .int .u64 0, .int .u64 0, .slice (some ⟨G, 0, none⟩) 2 c] := by rw [← hw2]; exact (Blk.new _ _ _).alloc _
  have HK : Hid (Blk w2 (w.heap.size + 1) 183 #[.bool false, .int .i64 0, .int .i64 0]) := keepHid (by rw [← hw2]; exact Blk.new_at _ _ _ _ (by simp))
  have HKID := keepHid (kid0_any 3 st0 G 2 c x w2 (by omega) (hx.keep (hb2.block G hx.lt)))
  have HB := keepHid hb2
  have HW := keepHid hw2
  have HN2 := keepHid kn
  have HA' : Hid (∀ w3, Below w2.heap.size w2 w3 → Calls Tryz.prog 92 #[.pointer (some ⟨g, 0, none⟩), hdV x] w3 (PartPost lo g v3 v4 v5 (addF a T) w3)) := keepHid (fun w3 hb3 => by
    have hw3 := hb2.trans (hb3.mono hb2.size)
    exact HA lo g v3 v4 v5 T x w3 (ht.keep hw3) (Nat.le_trans hlo hw3.size) (hix.keep fun i hi hl => hw3.block i (by omega)) hsa)
  have HKID2 : Hid (∀ w4, Tn lo w w4 → Calls Tryz.prog 109 #[hdV ⟨3, st0, some ⟨G, 0, none⟩, 2, c⟩, .int .i64 1] w4 fun e w' => e = .returned (hdV y) ∧ Below w4.heap.size w4 w') := keepHid (fun w4 h4 =>
    kid1_any 3 st0 G 2 c y w4 (by omega) (hy.keep (h4.block G hy.lt fun hm => by have := hm.1; omega)))
  have HA2 : Hid (∀ w5, Tab w5 lo g v3 v4 v5 (addF a T).2 → Tn lo w w5 → Calls Tryz.prog 92 #[.pointer (some ⟨g, 0, none⟩), hdV y] w5 (PartPost lo g v3 v4 v5 (addF b (addF a T).2) w5)) := keepHid (fun w5 h5 t5 =>
    HB0 lo g v3 v4 v5 (addF a T).2 y w5 h5 (Nat.le_trans hlo t5.size) (IsRe.tn hiy t5 (fun _ hg => hg)) hsm)
  have HS : Hid (∀ w6, Tab w6 lo g v3 v4 v5 (addF b (addF a T).2).2 → Tn lo w w6 → Calls Tryz.prog 111 #[.pointer (some ⟨g, 0, none⟩), partV (addF a T).1, partV (addF b (addF a T).2).1] w6 (PartPost lo g v3 v4 v5 (eitherF (addF a T).1 (addF b (addF a T).2).1 (addF b (addF a T).2).2) w6)) := keepHid (fun w6 h6 t6 =>
    either_part _ _ haf hal hbf hbl h6 (Nat.le_trans hlo t6.size) hg2 q1 q2 q3 q4)
  obtain ⟨n0, n1, n2, n3, n4, n5, nf⟩ := blk6 kn
  generalize eitherF (addF a T).1 (addF b (addF a T).2).1 (addF b (addF a T).2).2 = R at *
  generalize addF b (addF a T).2 = Rb at *
  generalize addF a T = Ra at *
  clear ht hlo hs hw2 hb2 kn hga hgb hsm hsa hg2 q1 q2 q3 q4 haf hal hbf hbl hx hy hix hiy
  rw [hdV_st0]
  rw [hdV_st0] at HKID HKID2
  obtain ⟨⟨pe, pf, pl⟩, Ta⟩ := Ra
  simp only at *
  go_enter Tryz.func92, Tryz.ntmps92
  go_wp2_with fail
  rw [HW.out]
  go_wp2_with fail
  with_reducible refine HKID.out.mono ?_
  rintro e w3 ⟨rfl, hb3⟩
  have HA3 := keepHid (HA'.out w3 hb3)
  have HB3 := keepHid hb3
  clear hb3
  go_wp2_with fail
  with_reducible refine HA3.out.mono ?_
  rintro e w4 ⟨rfl, ht4, hn4⟩
  obtain ⟨w5, hw5⟩ : ∃ w5, w4.alloc (.cells #[.bool pe, .int .i64 (pf : Int), .int .i64 (pl : Int)] 183) = w5 := ⟨_, rfl⟩
  have hb45 : Below w4.heap.size w4 w5 := by rw [← hw5]; exact (Below.refl _ _).alloc (Nat.le_refl _) _
  have HN5 := keepHid (((Tn.of_below (HB.out.trans (HB3.out.mono HB.out.size))).trans hn4).trans (Tn.of_below hb45))
  have HK5 := keepHid ((hn4.blk (HK.out.below HB3.out HK.out.lt) (by decide)).below hb45 (hn4.blk (HK.out.below HB3.out HK.out.lt) (by decide)).lt)
  have HNB5 := keepHid ((hn4.blk (HN2.out.below HB3.out HN2.out.lt) (by decide)).below hb45 (hn4.blk (HN2.out.below HB3.out HN2.out.lt) (by decide)).lt)
  have HP5 : Hid (Blk w5 w4.heap.size 183 #[.bool pe, .int .i64 (pf : Int), .int .i64 (pl : Int)]) := keepHid (by rw [← hw5]; exact Blk.new _ _ _)
  have HT5 := keepHid (Tab.keep ht4 hb45)
  have hlt : w.heap.size + 1 < w4.heap.size := by have := HK.out.lt; have := HB3.out.size; have := hn4.size; omega
  have HLT := keepHid hlt
  clear ht4 hn4 n0 n1 n2 n3 n4 n5 hb45 hlt nf
  unfold partV
  go_upto_region 9 with fail
  clear hw5
  generalize w4.heap.size = C at *
  have HB5 : Hid (Nb w5.drew w.heap.size C 3 G c pe pf pl) := keepHid ⟨HNB5.out, HP5.out⟩
  have HN5' : Hid (Tn lo w w5.drew) := keepHid HN5.out.drew
  have HT5' : Hid (Tab w5.drew lo g v3 v4 v5 Ta) := keepHid (HT5.out.keep (Below.drew (Below.refl _ _)))
  have HR5 : Hid (Blk w5.drew (w.heap.size + 1) 183 #[.bool false, .int .i64 0, .int .i64 0]) := keepHid HK5.out
  have e1 : partV ⟨pe, pf, pl⟩ = .agg #[.bool pe, .int .i64 (pf : Int), .int .i64 (pl : Int)] := rfl
  rw [e1] at HS
  clear e1 HNB5 HP5 HN5 HT5 HK5
  go_region_held3 (fun w' => w'.cell? ⟨w.heap.size, 0, none⟩ = some (.int .i64 3) ∧ w'.cell? ⟨w.heap.size, 1, none⟩ = some (.int .u64 0) ∧ w'.cell? ⟨w.heap.size, 2, none⟩ = some (.int .u64 0) ∧ w'.cell? ⟨w.heap.size, 3, none⟩ = some (.int .u64 0) ∧ w'.cell? ⟨w.heap.size, 4, none⟩ = some (.int .u64 0) ∧ w'.cell? ⟨w.heap.size, 5, none⟩ = some (.slice (some ⟨G, 0, none⟩) 2 c) ∧ w'.cell? ⟨C, 0, none⟩ = some (.bool pe) ∧ w'.cell? ⟨C, 1, none⟩ = some (.int .i64 (pf : Int)) ∧ w'.cell? ⟨C, 2, none⟩ = some (.int .i64 (pl : Int))) (first | exact HB5.out.nine | exact HB6.out.nine | exact HB7.out.nine | exact HB8.out.nine | exact (HB8.out.three HLT.out _ _ _).nine) (first | (go_at_call 109; (with_reducible refine (HKID2.out _ HN5'.out).mono ?_); rintro e w6 ⟨rfl, hb6⟩; have HB6 := keepHid (HB5.out.tn (lo := lo) (Tn.of_below hb6)); have HN6 := keepHid (HN5'.out.trans (Tn.of_below hb6)); have HT6 := keepHid (HT5'.out.keep hb6); have HR6 := keepHid (HR5.out.below hb6 HR5.out.lt); clear hb6) | (go_at_call 92; (with_reducible refine (HA2.out _ HT6.out HN6.out).mono ?_); rintro e w7 ⟨rfl, ht7, hn7⟩; have HB7 := keepHid (HB6.out.tn hn7); have HN7 := keepHid (HN6.out.trans hn7); have HT7 := keepHid ht7; have HR7 := keepHid (hn7.blk HR6.out (by decide)); clear ht7 hn7) | (go_at_call 111; (with_reducible refine (HS.out _ HT7.out HN7.out).mono ?_); rintro e w8 ⟨rfl, ht8, hn8⟩; unfold partV; have HB8 := keepHid (HB7.out.tn hn8); have HR8 := keepHid (hn8.blk HR7.out (by decide)); have HE := keepHid (add_end ht8 (HN7.out.trans hn8) HR8.out (Nat.le_succ _)); clear ht8 hn8; obtain ⟨z0, z1, z2, zf⟩ := blk3 HR8.out))
  all_goals
    go_wp2
    refine bodyPost_ret (v := .agg #[.bool R.1.e, .int .i64 (R.1.f : Int), .int .i64 (R.1.l : Int)]) ?_ rfl HE.out
    rw [results_cell_one rfl]
    go_simp
theorem add_any : ∀ r, AddAt r
  | .nil => add_nil
  | .one x => add_one x
  | .thn a b => add_thn (add_any a) (add_any b)
  | .alt a b => add_alt (add_any a) (add_any b)
  | .star a => add_star (add_any a)


/-- Block g is the table of the places A. -/
def TabA (w : World) (lo g : Nat) (A : Au) : Prop :=
  ∃ F c L k, Tab w lo g (.slice F A.first.length c) (.slice L A.last.length k) (.bool A.e) A.T ∧ OwnI w lo (.slice F A.first.length c) A.first.length A.first ∧ OwnI w lo (.slice L A.last.length k) A.last.length A.last
theorem TabA.keep {w w' : World} {lo g : Nat} {A : Au} (h : TabA w lo g A) (hb : Below w.heap.size w w') : TabA w' lo g A := by
  obtain ⟨F, c, L, k, h1, h2, h3⟩ := h
  exact ⟨F, c, L, k, h1.keep hb, own_keep h2 fun i _ hl => hb.block i hl, own_keep h3 fun i _ hl => hb.block i hl⟩
/-- A store into a table's own field. -/
theorem tab_field {w : World} {lo g : Nat} {v3 v4 v5 : Value} {T : TbD} (h : Tab w lo g v3 v4 v5 T) (u : Value) :
    Tab (w.setCell ⟨g, 3, none⟩ u) lo g u v4 v5 T ∧ Tab (w.setCell ⟨g, 4, none⟩ u) lo g v3 u v5 T ∧ Tab (w.setCell ⟨g, 5, none⟩ u) lo g v3 v4 u T := by
  obtain ⟨vs, vg, M, vals, h⟩ := h
  have far : ∀ i j, j ≠ g → (w.setCell ⟨g, i, none⟩ u).heap[j]? = w.heap[j]? := fun i j hj => Below.heap_setCell w ⟨g, i, none⟩ u j hj
  have rest : ∀ i, (w.setCell ⟨g, i, none⟩ u).ownsRow lo 73 4 vs T.sets.length (T.sets.flatMap setL) ∧ (w.setCell ⟨g, i, none⟩ u).ownsRow lo 39 1 vg T.groups.length vals ∧
      (∀ (j : Nat) (q : List Nat), T.groups[j]? = some q → ∃ v, vals[j]? = some v ∧ (w.setCell ⟨g, i, none⟩ u).ownsRow lo 3 1 v q.length (q.map natV)) ∧ MapS (w.setCell ⟨g, i, none⟩ u) M T.leads := fun i => by
    refine ⟨own_keep h.sets fun j hj _ => far i j (fun e => h.ne_gs (e ▸ hj)), own_keep h.groups fun j hj _ => far i j (fun e => h.ne_gv (e ▸ hj)), fun j q hq => ?_, h.leads.keep (far i M (fun e => h.ne_gm e.symm))⟩
    obtain ⟨v, hv, hr⟩ := h.rows j q hq
    exact ⟨v, hv, own_keep hr fun b hb _ => far i b (fun e => by obtain ⟨cur, hc⟩ := own_obj hr hb; exact blk_ne hc h.blk (by decide) e)⟩
  refine ⟨⟨vs, vg, M, vals, ?_⟩, ⟨vs, vg, M, vals, ?_⟩, ⟨vs, vg, M, vals, ?_⟩⟩
  · obtain ⟨r1, r2, r3, r4⟩ := rest 3
    exact ⟨by simpa using h.blk.put 3 u, h.log, h.lom, r1, r2, r3, r4⟩
  · obtain ⟨r1, r2, r3, r4⟩ := rest 4
    exact ⟨by simpa using h.blk.put 4 u, h.log, h.lom, r1, r2, r3, r4⟩
  · obtain ⟨r1, r2, r3, r4⟩ := rest 5
    exact ⟨by simpa using h.blk.put 5 u, h.log, h.lom, r1, r2, r3, r4⟩
theorem own_field {w : World} {lo g i n : Nat} {v3 v4 v5 v : Value} {T : TbD} {xs : List Nat} (h : Tab w lo g v3 v4 v5 T) (hr : OwnI w lo v n xs) (u : Value) : OwnI (w.setCell ⟨g, i, none⟩ u) lo v n xs := by
  obtain ⟨vs, vg, M, vals, h⟩ := h
  exact own_keep hr fun b hb _ => Below.heap_setCell w ⟨g, i, none⟩ u b (fun e => by obtain ⟨cur, hc⟩ := own_obj hr hb; exact blk_ne hc h.blk (by decide) e)
/-- An empty table, as it is made. -/
theorem tab_new {w w' : World} {lo M g : Nat} (hM : MapS w M []) (hlm : lo ≤ M) (hg : g = w.heap.size) (hlo : lo ≤ w.heap.size) (hw : w.alloc (.cells #[.slice none 0 0, .slice none 0 0, .map (some M), .slice none 0 0, .slice none 0 0, .bool false] 128) = w') :
    Tab w' lo g (.slice none 0 0) (.slice none 0 0) (.bool false) tb0 := by
  subst hg hw
  exact ⟨.slice none 0 0, .slice none 0 0, M, [], Blk.new _ _ _, hlo, hlm, World.ownsRow_nil _ _ _ _, World.ownsRow_nil _ _ _ _, fun i q hq => by simp [tb0] at hq, hM.keep (Below.heap_alloc w _ M hM.lt)⟩
def OfPost (r : Re) (w : World) (e : Ending) (w' : World) : Prop := ∃ g, e = .returned (.pointer (some ⟨g, 0, none⟩)) ∧ TabA w' w.heap.size g (auOf r) ∧ Below w.heap.size w w'
set_option maxHeartbeats 4000000 in
theorem of_any {r : Re} {h : Hd} {w : World} (hi : IsS w (fun i => i < w.heap.size) h r) (hs : Sm (addF r tb0).2) : Calls Tryz.prog 76 #[hdV h] w (OfPost r w) := by
  obtain ⟨w1, hw1⟩ : ∃ w1, (w.alloc (.cells (hdC h) 76)).alloc (.map #[] 0) = w1 := ⟨_, rfl⟩
  obtain ⟨w2, hw2⟩ : ∃ w2, w1.alloc (.cells #[.slice none 0 0, .slice none 0 0, .map (some (w.heap.size + 1)), .slice none 0 0, .slice none 0 0, .bool false] 128) = w2 := ⟨_, rfl⟩
  have hs1 : w1.heap.size = w.heap.size + 1 + 1 := by rw [← hw1]; simp
  have hM1 : MapS w1 (w.heap.size + 1) [] := by rw [← hw1]; exact MapS.made _ _ (by simp)
  have ht2 := tab_new (lo := w.heap.size) (g := w.heap.size + 1 + 1) hM1 (by omega) hs1.symm (by omega) hw2
  have hb2 : Below w.heap.size w w2 := by rw [← hw2, ← hw1]; exact (((Below.refl _ _).alloc (Nat.le_refl _) _).alloc (by simp) _).alloc (by simp; omega) _
  have kn : Blk w2 w.heap.size 76 (hdC h) := by rw [← hw2, ← hw1]; exact ((Blk.new _ _ _).alloc _).alloc _
  have HA := keepHid (add_any r w.heap.size (w.heap.size + 1 + 1) _ _ _ tb0 h w2 ht2 hb2.size (hi.keep fun i hl _ => hb2.block i hl) hs)
  have HB := keepHid hb2
  have HKN := keepHid kn
  have hmm := @run_makeMap Tryz.prog
  unfold hdC at kn hw1
  obtain ⟨n0, n1, n2, n3, n4, n5, nf⟩ := blk6 kn
  have HW : Hid (((w.alloc (.cells #[.int .i64 h.k, .int .u64 (h.s.a.toNat : Int), .int .u64 (h.s.b.toNat : Int), .int .u64 (h.s.c.toNat : Int), .int .u64 (h.s.d.toNat : Int), .slice h.A h.n h.c] 76)).alloc (.map #[] 0)).alloc (.cells #[.slice none 0 0, .slice none 0 0, .map (some (w.heap.size + 1)), .slice none 0 0, .slice none 0 0, .bool false] 128) = w2) := keepHid (by rw [hw1]; exact hw2)
  clear hi hs hw1 hw2 hs1 hM1 ht2 hb2 kn
  unfold hdV at *
  go_enter Tryz.func76, Tryz.ntmps76
  go_upto_region 2 with fail
  rw [HW.out]
  go_wp2_with fail
  with_reducible refine HA.out.mono ?_
  have hgr := add_grown r tb0
  have e1 : auOf r = ⟨(addF r tb0).2, fst r 0, lst r 0, (addF r tb0).1.e⟩ := by
    unfold auOf
    have a1 := grp_of hgr.f
    have a2 := grp_of hgr.l
    simp only [tb0] at a1 a2 ⊢
    simp only [List.length_nil] at a1 a2
    rw [a1, a2]
  have HGF : Hid ((addF r tb0).2.groups[(addF r tb0).1.f]? = some (fst r 0)) := keepHid (by have := hgr.f; simpa [tb0] using this)
  have HGL : Hid ((addF r tb0).2.groups[(addF r tb0).1.l]? = some (lst r 0)) := keepHid (by have := hgr.l; simpa [tb0] using this)
  have HAU := keepHid e1
  clear e1 hgr n0 n1 n2 n3 n4 n5 nf hmm HW
  generalize addF r tb0 = R at *
  obtain ⟨⟨pe, pf, pl⟩, T⟩ := R
  simp only at *
  rintro e w3 ⟨rfl, ht3, hn3⟩
  obtain ⟨w4, hw4⟩ : ∃ w4, w3.alloc (.cells #[.bool pe, .int .i64 (pf : Int), .int .i64 (pl : Int)] 183) = w4 := ⟨_, rfl⟩
  have hb34 : Below w3.heap.size w3 w4 := by rw [← hw4]; exact (Below.refl _ _).alloc (Nat.le_refl _) _
  have HP4 : Hid (Blk w4 w3.heap.size 183 #[.bool pe, .int .i64 (pf : Int), .int .i64 (pl : Int)]) := keepHid (by rw [← hw4]; exact Blk.new _ _ _)
  have HT4 := keepHid (Tab.keep ht3 hb34)
  have HN4 := keepHid ((Tn.below (hn3.trans (Tn.of_below hb34)) HB.out.size))
  obtain ⟨vs, vg, M, vals, h4⟩ := Tab.keep ht3 hb34
  obtain ⟨G, cap, A1, c1, rfl, ca, hra⟩ := h4.grp HGF.out
  have cg : w4.cell? ⟨w.heap.size + 1 + 1, 1, none⟩ = some (.slice (some ⟨G, 0, none⟩) T.groups.length cap) := h4.blk.cell 1
  have c3 : w4.cell? ⟨w.heap.size + 1 + 1, 3, none⟩ = some (.slice none 0 0) := h4.blk.cell 3
  have cf := h4.blk.frozen 3
  obtain ⟨p0, p1, p2, pfz⟩ := blk3 HP4.out
  have HRA := keepHid hra
  have hgl := lt_of_get HGF.out
  obtain ⟨N, hN⟩ : ∃ N, T.groups.length = N := ⟨_, rfl⟩
  rw [hN] at cg hgl
  have la : (pf : Int) < (N : Int) := by omega
  have hi4 : (N : Int) ≤ 9223372036854775807 := by
    obtain ⟨A, c, e, e1, e2⟩ := own_val h4.groups
    unfold maxLen at e2
    rw [hN] at e1
    omega
  clear ht3 hn3 hb34 h4 hra hN hgl
  unfold partV
  go_upto_region 3 with fail
  try rw [hw4]
  clear hw4
  generalize w3.heap.size = C at *
  go_region
  all_goals
    obtain ⟨w5, hw5⟩ : ∃ w5, (w4.setCell ⟨w.heap.size + 1 + 1, 3, none⟩ (.slice A1 (fst r 0).length c1)).drew = w5 := ⟨_, rfl⟩
    rw [hw5]
    have ht5 : Tab w5 w.heap.size (w.heap.size + 1 + 1) (.slice A1 (fst r 0).length c1) (.slice none 0 0) (.bool false) T := by rw [← hw5]; exact (tab_field HT4.out _).1.keep (Below.drew (Below.refl _ _))
    have HF5 : Hid (OwnI w5 w.heap.size (.slice A1 (fst r 0).length c1) (fst r 0).length (fst r 0)) := keepHid (by rw [← hw5]; exact own_field HT4.out HRA.out _)
    have HN5 : Hid (Below w.heap.size w2 w5) := keepHid (by rw [← hw5]; exact (HN4.out.setCell (by simp; omega) _).drew)
    have HP5 : Hid (Blk w5 C 183 #[.bool pe, .int .i64 (pf : Int), .int .i64 (pl : Int)]) := keepHid (by
      rw [← hw5]
      obtain ⟨vs, vg, M, vals, h4⟩ := HT4.out
      exact (HP4.out.far (fun e => blk_ne HP4.out h4.blk (by decide) e) _).drew)
    have HT5 := keepHid ht5
    clear cg ca c3 cf p0 p1 p2 pfz hw5 la hi4
    obtain ⟨vs5, vg5, M5, vals5, h5⟩ := ht5
    obtain ⟨G5, cap5, A2, c2, rfl, ca, hra⟩ := h5.grp HGL.out
    have cg : w5.cell? ⟨w.heap.size + 1 + 1, 1, none⟩ = some (.slice (some ⟨G5, 0, none⟩) T.groups.length cap5) := h5.blk.cell 1
    have c4 : w5.cell? ⟨w.heap.size + 1 + 1, 4, none⟩ = some (.slice none 0 0) := h5.blk.cell 4
    have cf := h5.blk.frozen 4
    obtain ⟨p0, p1, p2, pfz⟩ := blk3 HP5.out
    have HRA2 := keepHid hra
    have hgl := lt_of_get HGL.out
    obtain ⟨N5, hN⟩ : ∃ N, T.groups.length = N := ⟨_, rfl⟩
    rw [hN] at cg hgl
    have la : (pl : Int) < (N5 : Int) := by omega
    have hi5 : (N5 : Int) ≤ 9223372036854775807 := by
      obtain ⟨A, c, e, e1, e2⟩ := own_val h5.groups
      unfold maxLen at e2
      rw [hN] at e1
      omega
    clear h5 hra hN hgl
    go_upto_region 4 with fail
    go_region
    all_goals
      obtain ⟨w6, hw6⟩ : ∃ w6, (w5.setCell ⟨w.heap.size + 1 + 1, 4, none⟩ (.slice A2 (lst r 0).length c2)).drew = w6 := ⟨_, rfl⟩
      rw [hw6]
      have ht6 : Tab w6 w.heap.size (w.heap.size + 1 + 1) (.slice A1 (fst r 0).length c1) (.slice A2 (lst r 0).length c2) (.bool false) T := by rw [← hw6]; exact (tab_field HT5.out _).2.1.keep (Below.drew (Below.refl _ _))
      have hp6 : Blk w6 C 183 #[.bool pe, .int .i64 (pf : Int), .int .i64 (pl : Int)] := by
        rw [← hw6]
        obtain ⟨vs, vg, M, vals, h4⟩ := HT5.out
        exact (HP5.out.far (fun e => blk_ne HP5.out h4.blk (by decide) e) _).drew
      have hf6 : OwnI w6 w.heap.size (.slice A1 (fst r 0).length c1) (fst r 0).length (fst r 0) := by rw [← hw6]; exact own_field HT5.out HF5.out _
      have hl6 : OwnI w6 w.heap.size (.slice A2 (lst r 0).length c2) (lst r 0).length (lst r 0) := by rw [← hw6]; exact own_field HT5.out HRA2.out _
      have HE : Hid (TabA (w6.setCell ⟨w.heap.size + 1 + 1, 5, none⟩ (.bool pe)) w.heap.size (w.heap.size + 1 + 1) (auOf r) ∧ Below w.heap.size w (w6.setCell ⟨w.heap.size + 1 + 1, 5, none⟩ (.bool pe))) := keepHid (by
        rw [HAU.out]
        refine ⟨⟨A1, c1, A2, c2, (tab_field ht6 _).2.2, own_field ht6 hf6 _, own_field ht6 hl6 _⟩, ?_⟩
        refine HB.out.trans ?_
        rw [← hw6]
        exact ((HN5.out.setCell (by simp; omega) _).drew).setCell (by simp; omega) _)
      have c5 : ∃ v, w6.cell? ⟨w.heap.size + 1 + 1, 5, none⟩ = some v ∧ w6.frozen? ⟨w.heap.size + 1 + 1, 5, none⟩ = false := by
        obtain ⟨vs, vg, M, vals, h6⟩ := ht6
        exact ⟨_, h6.blk.cell 5, h6.blk.frozen 5⟩
      obtain ⟨v5, c5, f5⟩ := c5
      clear cg ca c4 cf p0 p1 p2 pfz hw6 la hi5 ht6 hf6 hl6
      obtain ⟨p0, p1, p2, pfz⟩ := blk3 hp6
      clear hp6
      go_wp2
      go_ret
      exact ⟨_, rfl, HE.out.1, HE.out.2⟩
end Go.Proofs.YtgndcgknedmalaaGreatDoor
