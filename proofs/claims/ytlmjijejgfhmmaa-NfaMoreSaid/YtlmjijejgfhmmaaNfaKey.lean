/-
  A map whose keys are pairs of numbers: a set of pairs.
-/
import Derived.Test.YtlmjijejgfhmmaaNfaSl
import Derived.DeepKeys4
import Derived.MapViews
import Derived.Maps.RangeWalk
import Derived.Maps.Ext
import Derived.Test.YtlmjijejgfhmmaaRegexTree
import Derived.Deep.DeepCutAuto
namespace Go.Proofs.Ytlmjijejgfhmmaa
open Go.RowKit
set_option linter.unusedVariables false

theorem rowK : (66 : TypeId) < Try.prog.types.size := of_decide_eq_true (by kernel_rfl)
theorem wideK : (match Try.prog.underlying 66 with | some (.array _ _) | some (.struct _) => true | _ => false) = true := by rw [Try.underlying66]
theorem laidK : laidOutB Try.prog = true := by kernel_rfl
set_option maxRecDepth 100000 in
theorem lawK : Maps.Keyed Try.prog 66 := Maps.Keyed.of_law (deep_law_laid laidK (m := 2) (by omega) rowK (by kernel_rfl) wideK)
def pairV (p : Nat × Nat) : Value := .agg #[.int .i64 (p.1 : Int), .int .i64 (p.2 : Int)]
def klf (p : Nat × Nat) : Lit := .string (keyBytes [.int .i64 (p.1 : Int), .int .i64 (p.2 : Int)])
theorem wf_of (n : Nat) (h : n ≤ 9223372036854775807) : (Lit.int .i64 (n : Int)).wf = true := WalkArith.wf_i64 (by omega)
theorem key_mk (p : Nat × Nat) (h1 : p.1 ≤ 9223372036854775807) (h2 : p.2 ≤ 9223372036854775807) : keyOf Try.prog 66 (pairV p) = some (klf p) := by
  unfold keyOf pairV klf
  have hu := Try.underlying66
  have w1 := wf_of p.1 h1
  have w2 := wf_of p.2 h2
  have hk : Try.prog.keyType 66 = true := by kernel_rfl
  have c1 : Try.prog.cellsOf 3 = 1 := by kernel_rfl
  have c2 : Try.prog.cellsOf 66 = 2 := by kernel_rfl
  simp only [hu]
  rw [if_pos (by simp [hk, Value.formed, hu, c2])]
  obtain ⟨m, hm⟩ : ∃ m, Try.prog.types.size = m + 1 := ⟨Try.prog.types.size - 1, (Nat.succ_pred_eq_of_pos (Nat.lt_of_le_of_lt (Nat.zero_le _) rowK)).symm⟩
  rw [hm]
  unfold Program.keyLits
  simp only [hu, Value.cells]
  simp [c1, c2, Program.keyLits, Try.underlying3, w1, w2]

set_option maxRecDepth 100000 in
theorem key_inv {key : Value} {kl : Lit} (h : keyOf Try.prog 66 key = some kl) : ∃ p : Int × Int, key = .agg #[.int .i64 p.1, .int .i64 p.2] := by
  obtain ⟨xs, L, rfl, hl, _⟩ := keyOf_top wideK h
  have hu := Try.underlying66
  have c1 : Try.prog.cellsOf 3 = 1 := by kernel_rfl
  have c2 : Try.prog.cellsOf 66 = 2 := by kernel_rfl
  unfold Program.keyLits at hl
  simp only [hu] at hl
  split at hl
  · rename_i hx
    rw [c2] at hx
    obtain ⟨l⟩ := xs
    match l, hx.1 with
    | [a, b], _ =>
      obtain ⟨m, hm⟩ : ∃ m, Try.prog.types.size = m + 1 := ⟨Try.prog.types.size - 1, (Nat.succ_pred_eq_of_pos (Nat.lt_of_le_of_lt (Nat.zero_le _) rowK)).symm⟩
      rw [hm] at hl
      simp only [List.mapM_cons, List.mapM_nil, c1, Program.keyLits, Try.underlying3, List.drop_zero, List.take_succ_cons, List.take_zero, List.drop_succ_cons] at hl
      have ha : ∃ x, a = .int .i64 x := by
        cases a <;> simp at hl
        rename_i q n _
        by_cases hq : q = .i64 ∧ (Lit.int .i64 n).wf = true
        · exact ⟨n, by rw [hq.1]⟩
        · rw [if_neg hq] at hl; simp at hl
      obtain ⟨x, rfl⟩ := ha
      have hb : ∃ y, b = .int .i64 y := by
        cases b <;> simp at hl
        rename_i q n _
        by_cases hq : q = .i64 ∧ (Lit.int .i64 n).wf = true
        · exact ⟨n, by rw [hq.1]⟩
        · rw [if_neg hq] at hl
          split at hl <;> simp at hl
      obtain ⟨y, rfl⟩ := hb
      exact ⟨(x, y), rfl⟩
  · cases hl

/-- Block M is a map whose keys are just the pairs of S. -/
def MapS (w : World) (M : Nat) (S : List (Nat × Nat)) : Prop :=
  ∃ (D : DataW Unit) (n : Nat), w.ownsMap Try.prog 66 unitElem M n D ∧ n ≤ S.length ∧ ∀ kl, Maps.has D kl = true ↔ ∃ p ∈ S, kl = klf p
theorem MapS.made (w : World) (g : Nat) (hg : g = w.heap.size) : MapS (w.alloc (.map #[] 0)) g [] := by
  subst hg
  exact ⟨_, 0, World.ownsMap_made w _ _ _, Nat.le_refl _, fun kl => by simp [Maps.has]⟩
theorem MapS.lt {w : World} {M : Nat} {S : List (Nat × Nat)} (h : MapS w M S) : M < w.heap.size := by obtain ⟨D, n, h1, _⟩ := h; exact h1.lt
theorem MapS.obj {w : World} {M : Nat} {S : List (Nat × Nat)} (h : MapS w M S) : ∃ es c, w.heap[M]? = some (.map es c) := by obtain ⟨D, n, ⟨es, c, h1, _⟩, _⟩ := h; exact ⟨es, c, h1⟩
theorem MapS.keep {w w' : World} {M : Nat} {S : List (Nat × Nat)} (h : MapS w M S) (hk : w'.heap[M]? = w.heap[M]?) : MapS w' M S := by
  obtain ⟨D, n, ⟨es, c, h1, h2⟩, h3⟩ := h
  exact ⟨D, n, ⟨es, c, hk.trans h1, h2⟩, h3⟩
theorem klf_inj {p q : Nat × Nat} (hp : p.1 ≤ 9223372036854775807 ∧ p.2 ≤ 9223372036854775807) (hq : q.1 ≤ 9223372036854775807 ∧ q.2 ≤ 9223372036854775807) (h : klf p = klf q) : p = q := by
  have h1 := key_mk p hp.1 hp.2
  have h2 := key_mk q hq.1 hq.2
  rw [← h] at h2
  have h3 := lawK.inj h1 h2
  unfold pairV at h3
  simp at h3
  exact Prod.ext (Int.ofNat.inj h3.1) (Int.ofNat.inj h3.2)
/-- One pair more. -/
theorem MapS.put {w : World} {M : Nat} {S : List (Nat × Nat)} (h : MapS w M S) (p : Nat × Nat) (hp : p.1 ≤ 9223372036854775807 ∧ p.2 ≤ 9223372036854775807) (hn : S.length < maxLen) :
    ∃ w', (Instr.mapUpdate 54 (.map (some M)) (pairV p) (.agg #[])).run Try.prog w = .ok () w' ∧ MapS w' M (S ++ [p]) ∧ w.grownBy w' (some M) := by
  obtain ⟨D, n, h1, h2, h3⟩ := h
  have hk := key_mk p hp.1 hp.2
  obtain ⟨w', hrun, r1, r2⟩ := h1.update lawK Try.underlying54 (Nat.lt_of_le_of_lt h2 hn) hk unitElem_mk
  refine ⟨w', hrun, ⟨_, _, r1, by rw [List.length_append]; simp; omega, fun kl => ?_⟩, r2⟩
  have hm : Maps.IsMap D := h1.isMap
  by_cases e : kl = klf p
  · subst e
    rw [Maps.has_put_same hm (lawK.key hk)]
    simp
  · rw [Maps.has_put_other e, h3]
    constructor
    · rintro ⟨q, hq, he⟩; exact ⟨q, List.mem_append_left _ hq, he⟩
    · rintro ⟨q, hq, he⟩
      rcases List.mem_append.1 hq with hq | hq
      · exact ⟨q, hq, he⟩
      · simp at hq; subst hq; exact absurd he e


def setL (s : St) : List Value := [.int .u64 (s.a.toNat : Int), .int .u64 (s.b.toNat : Int), .int .u64 (s.c.toNat : Int), .int .u64 (s.d.toNat : Int)]
/-- Block g is a table; what it leads to lies at or above block lo, each row in a block of its own. -/
structure TabIn (w : World) (lo g : Nat) (v3 v4 v5 : Value) (T : TbD) (vs vg : Value) (M : Nat) (vals : List Value) : Prop where
  blk : Blk w g 59 #[vs, vg, .map (some M), v3, v4, v5]
  log : lo ≤ g
  lom : lo ≤ M
  sets : w.ownsRow lo 27 4 vs T.sets.length (T.sets.flatMap setL)
  groups : w.ownsRow lo 57 1 vg T.groups.length vals
  rows : ∀ (i : Nat) (q : List Nat), T.groups[i]? = some q → ∃ v, vals[i]? = some v ∧ w.ownsRow lo 3 1 v q.length (q.map natV)
  leads : MapS w M T.leads
def Tab (w : World) (lo g : Nat) (v3 v4 v5 : Value) (T : TbD) : Prop := ∃ vs vg M vals, TabIn w lo g v3 v4 v5 T vs vg M vals
structure Small (T : TbD) : Prop where
  sets : T.sets.length ≤ 1000000
  groups : T.groups.length ≤ 1000000
  leads : T.leads.length ≤ 1000000
  rows : ∀ q ∈ T.groups, q.length ≤ 1000000

/-! ### What a table's functions may turn -/
def mov : Obj → Prop
  | .cells _ t _ => t = 59 ∨ t = 27 ∨ t = 57
  | .map _ _ => True
  | _ => False
def Mv (lo : Nat) (w : World) (i : Nat) : Prop := lo ≤ i ∧ ∃ o, w.heap[i]? = some o ∧ mov o
/-- Only a table's own blocks, from block lo on, and what is new, have turned. -/
def Tn (lo : Nat) (a w : World) : Prop := Turn (Mv lo a) a w
namespace Tn
variable {lo : Nat} {a b w : World}
theorem refl (lo : Nat) (w : World) : Tn lo w w := Turn.refl _ _
theorem trans (h : Tn lo a b) (k : Tn lo b w) : Tn lo a w := by
  refine ⟨k.os.trans h.os, k.tape.trans h.tape, k.output.trans h.output, Nat.le_trans h.size k.size, fun i hi hn => ?_⟩
  have h1 := h.block i hi hn
  refine (k.block i (Nat.lt_of_lt_of_le hi h.size) (fun hm => hn ?_)).trans h1
  obtain ⟨h2, o, h3, h4⟩ := hm
  exact ⟨h2, o, h1.symm.trans h3, h4⟩
theorem of_below (h : Below a.heap.size a w) : Tn lo a w := Turn.of_below h
theorem below (h : Tn lo a w) (hs : lo ≤ a.heap.size) : Below lo a w := Turn.below h (fun i hi => hi.1) hs
theorem blk {g : Nat} {t : TypeId} {cs : Array Value} (h : Tn lo a w) (hb : Blk a g t cs) (ht : ¬ (t = 59 ∨ t = 27 ∨ t = 57)) : Blk w g t cs :=
  Turn.blk h hb fun hm => by
    obtain ⟨_, o, h3, h4⟩ := hm
    unfold Blk at hb
    rw [hb] at h3
    obtain rfl := Option.some.inj h3
    exact ht h4
theorem low {g : Nat} {t : TypeId} {cs : Array Value} (h : Tn lo a w) (hb : Blk a g t cs) (hg : g < lo) : Blk w g t cs := Turn.blk h hb fun hm => by have := hm.1; omega
theorem alloc (h : Tn lo a w) (o : Obj) : Tn lo a (w.alloc o) := Turn.alloc h o
theorem drew (h : Tn lo a w) : Tn lo a w.drew := Turn.drew h
theorem drewN (h : Tn lo a w) (n : Nat) : Tn lo a (w.drewN n) := Turn.drewN h n
theorem setCell (h : Tn lo a w) {p : Addr} (hp : Mv lo a p.block ∨ a.heap.size ≤ p.block) (u : Value) : Tn lo a (w.setCell p u) := Turn.setCell h hp u
theorem grown {row : Option Nat} (h : a.grownBy w row) (hr : ∀ i, row = some i → Mv lo a i ∨ a.heap.size ≤ i) : Tn lo a w :=
  ⟨h.os, h.tape, h.output, h.size, fun i hi hn => h.block i hi (fun e => by
    rcases hr i e.symm with h1 | h1
    · exact hn h1
    · omega)⟩
theorem size (h : Tn lo a w) : a.heap.size ≤ w.heap.size := Turn.size h
/-- A row of numbers of the call's own stays. -/
theorem row {base : Nat} {v : Value} {n : Nat} {xs : List Value} (h : Tn lo a w) (hr : a.ownsRow base 3 1 v n xs) : w.ownsRow base 3 1 v n xs := by
  refine ⟨hr.1, ?_⟩
  rcases hr.2 with h0 | ⟨g, cap, cur, hv, hb, hg, r⟩
  · exact .inl h0
  · exact .inr ⟨g, cap, cur, hv, hb, h.blk (t := 3) hg (by decide), r⟩
end Tn
theorem IsRe.tn {lo : Nat} {a w : World} {S : Nat → Prop} {h : Hd} {r : Re} (i : IsS a S h r) (t : Tn lo a w) (hS : ∀ g, S g → g < lo) : IsS w S h r :=
  i.keep fun g hg hl => t.block g hl fun hm => by have := hm.1; have := hS g hg; omega
theorem own_keep {w w' : World} {base : Nat} {e : TypeId} {size n : Nat} {v : Value} {xs : List Value} (h : w.ownsRow base e size v n xs) (hk : ∀ i, v.ownBlock = some i → i < w.heap.size → w'.heap[i]? = w.heap[i]?) : w'.ownsRow base e size v n xs := by
  refine ⟨h.1, ?_⟩
  rcases h.2 with h0 | ⟨g, cap, cur, hv, hb, hgg, r⟩
  · exact .inl h0
  · exact .inr ⟨g, cap, cur, hv, hb, by rw [hk g (by rw [hv]; rfl) (Array.getElem?_eq_some_iff.1 hgg).1]; exact hgg, r⟩
theorem own_obj {w : World} {base : Nat} {e : TypeId} {size n : Nat} {v : Value} {xs : List Value} (h : w.ownsRow base e size v n xs) {i : Nat} (hi : v.ownBlock = some i) : ∃ cur, Blk w i e cur := by
  rcases h.2 with ⟨rfl, _⟩ | ⟨g, cap, cur, rfl, hb, hgg, r⟩
  · simp [Value.ownBlock] at hi
  · simp [Value.ownBlock] at hi
    subst hi
    exact ⟨cur, hgg⟩
theorem own_val {w : World} {base : Nat} {e : TypeId} {size n : Nat} {v : Value} {xs : List Value} (h : w.ownsRow base e size v n xs) : ∃ A c, v = .slice A n c ∧ n ≤ c ∧ c ≤ maxLen := by
  rcases h.2 with ⟨rfl, rfl⟩ | ⟨g, cap, cur, rfl, hb, hgg, h1, h2, _⟩
  · exact ⟨none, 0, rfl, Nat.le_refl _, Nat.zero_le _⟩
  · exact ⟨_, cap, rfl, h1, h2⟩
theorem blk_ne {w : World} {g g' : Nat} {t t' : TypeId} {cs cs' : Array Value} (h : Blk w g t cs) (h' : Blk w g' t' cs') (hne : t ≠ t') : g ≠ g' := by
  rintro rfl
  unfold Blk at h h'
  rw [h] at h'
  injection h' with h'
  injection h' with _ h'
  exact hne h'
namespace TabIn
variable {w w' : World} {lo g : Nat} {v3 v4 v5 : Value} {T : TbD} {vs vg : Value} {M : Nat} {vals : List Value}
theorem mvg (h : TabIn w lo g v3 v4 v5 T vs vg M vals) : Mv lo w g := ⟨h.log, _, h.blk, .inl rfl⟩
theorem mvm (h : TabIn w lo g v3 v4 v5 T vs vg M vals) : Mv lo w M := by
  obtain ⟨es, c, ho⟩ := h.leads.obj
  exact ⟨h.lom, _, ho, trivial⟩
theorem mvs (h : TabIn w lo g v3 v4 v5 T vs vg M vals) {i : Nat} (hi : vs.ownBlock = some i) : Mv lo w i := by
  obtain ⟨cur, hb⟩ := own_obj h.sets hi
  exact ⟨(h.sets.lt i hi).1, _, hb, .inr (.inl rfl)⟩
theorem mvv (h : TabIn w lo g v3 v4 v5 T vs vg M vals) {i : Nat} (hi : vg.ownBlock = some i) : Mv lo w i := by
  obtain ⟨cur, hb⟩ := own_obj h.groups hi
  exact ⟨(h.groups.lt i hi).1, _, hb, .inr (.inr rfl)⟩
theorem ne_gm (h : TabIn w lo g v3 v4 v5 T vs vg M vals) : g ≠ M := by
  rintro rfl
  obtain ⟨es, c, ho⟩ := h.leads.obj
  have := h.blk
  unfold Blk at this
  rw [this] at ho
  cases ho
theorem ne_mv (h : TabIn w lo g v3 v4 v5 T vs vg M vals) : vg.ownBlock ≠ some M := fun e => by
  obtain ⟨cur, hb⟩ := own_obj h.groups e
  obtain ⟨es, c, ho⟩ := h.leads.obj
  unfold Blk at hb
  rw [hb] at ho
  cases ho
theorem ne_ms (h : TabIn w lo g v3 v4 v5 T vs vg M vals) : vs.ownBlock ≠ some M := fun e => by
  obtain ⟨cur, hb⟩ := own_obj h.sets e
  obtain ⟨es, c, ho⟩ := h.leads.obj
  unfold Blk at hb
  rw [hb] at ho
  cases ho
theorem ne_gv (h : TabIn w lo g v3 v4 v5 T vs vg M vals) : vg.ownBlock ≠ some g := fun e => by
  obtain ⟨cur, hb⟩ := own_obj h.groups e
  exact blk_ne hb h.blk (by decide) rfl
theorem ne_gs (h : TabIn w lo g v3 v4 v5 T vs vg M vals) : vs.ownBlock ≠ some g := fun e => by
  obtain ⟨cur, hb⟩ := own_obj h.sets e
  exact blk_ne hb h.blk (by decide) rfl
theorem ne_vs (h : TabIn w lo g v3 v4 v5 T vs vg M vals) {i j : Nat} (hi : vs.ownBlock = some i) (hj : vg.ownBlock = some j) : i ≠ j := by
  obtain ⟨cur, hb⟩ := own_obj h.sets hi
  obtain ⟨cur', hb'⟩ := own_obj h.groups hj
  exact blk_ne hb hb' (by decide)
/-- Nothing of the table has turned. -/
theorem keep (h : TabIn w lo g v3 v4 v5 T vs vg M vals) (hb : Below w.heap.size w w') : TabIn w' lo g v3 v4 v5 T vs vg M vals :=
  ⟨h.blk.below hb h.blk.lt, h.log, h.lom, own_keep h.sets fun i hi hl => hb.block i hl, own_keep h.groups fun i hi hl => hb.block i hl,
    fun i q hq => by obtain ⟨v, e, hr⟩ := h.rows i q hq; exact ⟨v, e, own_keep hr fun i _ hl => hb.block i hl⟩, h.leads.keep (hb.block M h.leads.lt)⟩
end TabIn
theorem Tab.keep {w w' : World} {lo g : Nat} {v3 v4 v5 : Value} {T : TbD} (h : Tab w lo g v3 v4 v5 T) (hb : Below w.heap.size w w') : Tab w' lo g v3 v4 v5 T := by
  obtain ⟨vs, vg, M, vals, h⟩ := h
  exact ⟨vs, vg, M, vals, h.keep hb⟩
end Go.Proofs.Ytlmjijejgfhmmaa
