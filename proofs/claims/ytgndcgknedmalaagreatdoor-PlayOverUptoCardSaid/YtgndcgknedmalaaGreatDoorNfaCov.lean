/-
  What a step's loops do, plain.
-/
import Derived.Test.YtgndcgknedmalaaGreatDoorRegexHas
import Derived.Test.YtgndcgknedmalaaGreatDoorNfaVar
import Derived.Test.YtgndcgknedmalaaGreatDoorNfaMark
import Derived.LoopTactic
import Derived.Test.YtgndcgknedmalaaGreatDoorRegexSets
import Derived.Test.YtgndcgknedmalaaGreatDoorRegexAtom
import Derived.Test.YtgndcgknedmalaaGreatDoorRegexBuild
import Derived.Test.YtgndcgknedmalaaGreatDoorNfaText
namespace Go.Proofs.YtgndcgknedmalaaGreatDoor
open Go.RowKit
set_option linter.unusedVariables false

/-- The place q is led to by a pair that has come. -/
def Cov (A : Au) (at_ : List Bool) (left : Lit → Bool) (q : Nat) : Prop := ∃ p ∈ A.T.leads, left (klf p) = false ∧ anyB at_ (A.T.grp p.1) = true ∧ q ∈ A.T.grp p.2
/-- The marks, on the way. -/
def Marks (A : Au) (at_ : List Bool) (b : Bool) (left : Lit → Bool) (xs : List Bool) : Prop :=
  xs.length = A.T.sets.length ∧ ∀ q, xs.getD q false = true ↔ (b = true ∧ q ∈ A.first) ∨ Cov A at_ left q
theorem klf_lit (p : Nat × Nat) : WideAt.IsKeyLit (klf p) := trivial
theorem AuWf.num {A : Au} (wf : AuWf A) {p : Nat × Nat} (hp : p ∈ A.T.leads) : p.1 ≤ 9223372036854775807 ∧ p.2 ≤ 9223372036854775807 := by
  have := wf.ends p hp
  have := wf.small.groups
  omega
theorem marks_start {A : Au} {at_ : List Bool} {b : Bool} {left : Lit → Bool} {xs : List Bool} (hl : xs.length = A.T.sets.length) (hx : ∀ q, xs.getD q false = true ↔ (b = true ∧ q ∈ A.first)) (h : ∀ p ∈ A.T.leads, left (klf p) = true) : Marks A at_ b left xs :=
  ⟨hl, fun q => by
    rw [hx]
    constructor
    · exact .inl
    · rintro (h1 | ⟨p, hp, h1, _⟩)
      · exact h1
      · rw [h p hp] at h1; cases h1⟩
theorem cov_step {A : Au} (wf : AuWf A) {at_ : List Bool} {left : Lit → Bool} {p : Nat × Nat} (hp : p ∈ A.T.leads) (q : Nat) :
    Cov A at_ (fun z => left z && !z.sameKey (klf p)) q ↔ Cov A at_ left q ∨ (anyB at_ (A.T.grp p.1) = true ∧ q ∈ A.T.grp p.2) := by
  constructor
  · rintro ⟨p', hp', h1, h2, h3⟩
    simp only [Bool.and_eq_false_iff, Bool.not_eq_false'] at h1
    rcases h1 with h1 | h1
    · exact .inl ⟨p', hp', h1, h2, h3⟩
    · have e := klf_inj (wf.num hp') (wf.num hp) (WideAt.sameKey_eq h1)
      subst e
      exact .inr ⟨h2, h3⟩
  · rintro (⟨p', hp', h1, h2, h3⟩ | ⟨h2, h3⟩)
    · exact ⟨p', hp', by simp [h1], h2, h3⟩
    · exact ⟨p, hp, by simp [WideAt.sameKey_self (klf_lit p)], h2, h3⟩
/-- A pair has come that leads nowhere. -/
theorem marks_skip {A : Au} (wf : AuWf A) {at_ : List Bool} {b : Bool} {left : Lit → Bool} {xs : List Bool} {p : Nat × Nat} (hp : p ∈ A.T.leads) (h : Marks A at_ b left xs) (hn : anyB at_ (A.T.grp p.1) = false) : Marks A at_ b (fun z => left z && !z.sameKey (klf p)) xs :=
  ⟨h.1, fun q => by
    rw [h.2, cov_step wf hp, hn]
    simp⟩
/-- A pair has come, and what it leads to has been marked. -/
theorem marks_mark {A : Au} (wf : AuWf A) {at_ : List Bool} {b : Bool} {left : Lit → Bool} {xs : List Bool} {p : Nat × Nat} (hp : p ∈ A.T.leads) (h : Marks A at_ b left xs) (hn : anyB at_ (A.T.grp p.1) = true) : Marks A at_ b (fun z => left z && !z.sameKey (klf p)) (markB xs (A.T.grp p.2)) :=
  ⟨by rw [mark_len]; exact h.1, fun q => by
    obtain ⟨x, hx, _⟩ := (any_iff _ _).1 hn
    rw [mark_get _ _ _ (fun y hy => by rw [h.1]; exact wf.leads p hp x hx y hy), Bool.or_eq_true, h.2, cov_step wf hp, hn, List.contains_iff_mem, or_assoc]
    simp⟩
theorem marks_end {A : Au} {at_ : List Bool} {b : Bool} {left : Lit → Bool} {xs : List Bool} (h : Marks A at_ b left xs) (hl : ∀ z, left z = false) (q : Nat) : xs.getD q false = toB A at_ b q := by
  rw [Bool.eq_iff_iff, h.2]
  unfold toB Cov
  rw [Bool.or_eq_true, Bool.and_eq_true, List.contains_iff_mem, List.any_eq_true]
  constructor
  · rintro (h1 | ⟨p, hp, _, h2, h3⟩)
    · exact .inl h1
    · exact .inr ⟨p, hp, by rw [Bool.and_eq_true, List.contains_iff_mem]; exact ⟨h2, h3⟩⟩
  · rintro (h1 | ⟨p, hp, h2⟩)
    · exact .inl h1
    · rw [Bool.and_eq_true, List.contains_iff_mem] at h2
      exact .inr ⟨p, hp, hl _, h2.1, h2.2⟩
/-- .. of which those at which the byte is have stayed, so far. -/
def Done (A : Au) (at_ : List Bool) (b : Bool) (c : UInt8) (j : Nat) (xs : List Bool) : Prop :=
  xs.length = A.T.sets.length ∧ ∀ q, xs.getD q false = if q < j then (toB A at_ b q && hasS (A.T.sets.getD q st0) c.toNat) else toB A at_ b q
theorem done_end {A : Au} {at_ : List Bool} {b : Bool} {c : UInt8} {xs : List Bool} (h : Done A at_ b c A.T.sets.length xs) : xs = stepB A at_ c b := by
  apply List.ext_getElem?
  intro q
  rcases Nat.lt_or_ge q A.T.sets.length with hq | hq
  · have h1 := h.2 q
    have h2 := step_get A at_ c b q
    rw [if_pos hq] at h1
    simp only [hq, decide_true, Bool.true_and] at h2
    have l1 : q < xs.length := by rw [h.1]; exact hq
    have l2 : q < (stepB A at_ c b).length := by rw [step_len]; exact hq
    rw [List.getD, List.getElem?_eq_getElem l1] at h1
    rw [List.getD, List.getElem?_eq_getElem l2] at h2
    rw [List.getElem?_eq_getElem l1, List.getElem?_eq_getElem l2]
    simp only [Option.getD_some] at h1 h2
    rw [h1, h2]
  · rw [List.getElem?_eq_none (by rw [h.1]; exact hq), List.getElem?_eq_none (by rw [step_len]; exact hq)]
theorem done_next {A : Au} {at_ : List Bool} {b : Bool} {c : UInt8} {j : Nat} {xs : List Bool} (h : Done A at_ b c j xs) (hj : j < A.T.sets.length) {v : Bool} (hv : v = (xs.getD j false && hasS (A.T.sets.getD j st0) c.toNat)) : Done A at_ b c (j + 1) (xs.set j v) := by
  refine ⟨by rw [List.length_set]; exact h.1, fun q => ?_⟩
  have hl : j < xs.length := by rw [h.1]; exact hj
  by_cases e : j = q
  · subst e
    have h1 := h.2 j
    rw [if_neg (by omega)] at h1
    rw [if_pos (by omega), ← h1, ← hv]
    simp [List.getD, List.getElem?_set_self hl]
  · have h1 := h.2 q
    rw [show (xs.set j v).getD q false = xs.getD q false by simp [List.getD, List.getElem?_set_ne e], h1]
    by_cases hq : q < j
    · rw [if_pos hq, if_pos (by omega)]
    · rw [if_neg hq, if_neg (by omega)]
theorem flat_get4 : ∀ (l : List St) (j i : Nat) (s : St), l[j]? = some s → i < 4 → (l.flatMap setL)[j * 4 + i]? = (setL s)[i]?
  | [], j, i, s, h, hi => by simp at h
  | x :: l, 0, i, s, h, hi => by
    simp at h
    subst h
    rw [List.flatMap_cons, List.getElem?_append_left (by simp [setL]; omega)]
    simp
  | x :: l, j + 1, i, s, h, hi => by
    simp at h
    have := flat_get4 l j i s h hi
    rw [List.flatMap_cons, List.getElem?_append_right (by simp [setL]; omega)]
    have e : (j + 1) * 4 + i - (setL x).length = j * 4 + i := by simp [setL]; omega
    rw [e]; exact this


theorem rep_get (N q : Nat) : (List.replicate N false).getD q false = false := by
  rw [List.getD]
  rcases Nat.lt_or_ge q N with h | h
  · simp [h]
  · simp [h]
/-- What 'range' hands out of a set of pairs. -/
theorem wpList_next_pairs {w : World} {ops : Array Oper} {rest : List Oper} {o : Oper} {a : Act} {Q : Exit → Act → World → Prop} (hg : o.guard = none) (it : Operand) (hop : o.op = Op.next it false)
    (b r n : Nat) (D : DataW Unit) (S : List (Nat × Nat)) (hS : ∀ kl, Maps.has D kl = true ↔ ∃ p ∈ S, kl = klf p) (hb : ∀ p ∈ S, p.1 ≤ 9223372036854775807 ∧ p.2 ≤ 9223372036854775807) (left : Lit → Bool) (cnt : Nat)
    (hit : a.eval it = .pointer (some ⟨r, 0, none⟩)) (h : w.ranges Tryz.prog 130 unitElem b r n D left cnt)
    (hDone : (∀ kl, left kl = false) → wpList Tryz.prog ops Q rest (a.put o.dst (.tuple #[.bool false])) w)
    (hMore : ∀ (p : Nat × Nat) (w' : World) (cnt' : Nat), p ∈ S → w'.ranges Tryz.prog 130 unitElem b r n D (fun z => left z && !z.sameKey (klf p)) cnt' → cnt' < cnt → w.grownBy w' (some r) → w'.heap.size = w.heap.size →
      (Instr.entry (.pointer (some ⟨r, 0, none⟩))).run Tryz.prog w' = .ok (.tuple #[.agg #[.int .i64 (p.1 : Int), .int .i64 (p.2 : Int)], .agg #[]]) w' → wpList Tryz.prog ops Q rest (a.put o.dst (.tuple #[.bool true, .agg #[.int .i64 (p.1 : Int), .int .i64 (p.2 : Int)], .agg #[]])) w') :
    wpList Tryz.prog ops Q (o :: rest) a w := by
  refine wpList_next_ranges w hg it hop 130 lawK unitElem (fun x : Int × Int => .agg #[.int .i64 x.1, .int .i64 x.2]) (fun _ : Unit => .agg #[]) (fun key kl hk => key_inv hk) (fun v y hv => ⟨(), (unitElem_inv hv).1⟩) b r n D left cnt hit h (fun _ hl => hDone hl) ?_
  intro x c kl y w' cnt' hk hl _ hat hr hlt hgr hsz hen
  obtain ⟨p, hp, e⟩ := (hS kl).1 (Maps.has_true_of_atKey hat)
  subst e
  have e := lawK.inj hk (key_mk p (hb p hp).1 (hb p hp).2)
  unfold pairV at e
  simp at e
  obtain ⟨x1, x2⟩ := x
  simp at e
  obtain ⟨rfl, rfl⟩ := e
  exact hMore p w' cnt' hp hr hlt hgr hsz hen
def StepPost (A : Au) (at_ : List Bool) (c : UInt8) (b : Bool) (w : World) (e : Ending) (w' : World) : Prop :=
  ∃ G, e = .returned (.slice (some ⟨G, 0, none⟩) A.T.sets.length A.T.sets.length) ∧ Blk w' G 4 (boolVals (stepB A at_ c b)) ∧ w.heap.size ≤ G ∧ Below w.heap.size w w'


/-- Group i of a table, with its slice as it lies, in whatever world the table is. -/
theorem grp_at {w : World} {lo g : Nat} {v3 v4 v5 : Value} {T : TbD} (ht : Tab w lo g v3 v4 v5 T) (hs : Sm T) {i : Nat} (hi : i < T.groups.length) :
    ∃ G cap B c, w.cell? ⟨g, 1, none⟩ = some (.slice (some ⟨G, 0, none⟩) T.groups.length cap) ∧ w.cell? ⟨G, i, none⟩ = some (.slice B (T.grp i).length c) ∧ Sl natV w B (T.grp i).length (T.grp i) ∧ (∀ ad, B = some ad → ∃ cs, Blk w ad.block 3 cs) := by
  obtain ⟨vs, vg, M, vals, h⟩ := ht
  have hg : T.groups[i]? = some (T.grp i) := by simp [TbD.grp, List.getD, List.getElem?_eq_getElem hi]
  obtain ⟨G, cap, B, c, rfl, hc, hr⟩ := h.grp hg
  refine ⟨G, cap, B, c, h.blk.cell 1, hc, Sl.of_own hr (by have := hs.row hg; unfold maxLen; omega), fun ad e => ?_⟩
  subst e
  rcases hr.2 with ⟨hv, _⟩ | ⟨b, cap', cur, hv, hb, hgg, _⟩
  · cases hv
  · injection hv with h1 _ _
    injection h1 with h1
    subst h1
    exact ⟨cur, hgg⟩
theorem ranges_drewN {w : World} {M r n cnt : Nat} {D : DataW Unit} {left : Lit → Bool} (h : w.ranges Tryz.prog 130 unitElem M r n D left cnt) (j : Nat) : (w.drewN j).ranges Tryz.prog 130 unitElem M r n D left cnt :=
  h.kept (row := none) ⟨rfl, rfl, rfl, Nat.le_refl _, fun _ _ _ => rfl⟩ (by simp) (by simp)
theorem ranges_drew {w : World} {M r n cnt : Nat} {D : DataW Unit} {left : Lit → Bool} (h : w.ranges Tryz.prog 130 unitElem M r n D left cnt) : w.drew.ranges Tryz.prog 130 unitElem M r n D left cnt :=
  h.kept (row := none) ⟨rfl, rfl, rfl, Nat.le_refl _, fun _ _ _ => rfl⟩ (by simp) (by simp)
/-- Set j of a table, with its cells. -/
theorem set_at {w : World} {lo g : Nat} {v3 v4 v5 : Value} {T : TbD} (ht : Tab w lo g v3 v4 v5 T) {j : Nat} (hj : j < T.sets.length) :
    ∃ S cap, w.cell? ⟨g, 0, none⟩ = some (.slice (some ⟨S, 0, none⟩) T.sets.length cap) ∧ w.cell? ⟨S, j * 4, none⟩ = some (.int .u64 ((T.sets.getD j st0).a.toNat : Int)) ∧ w.cell? ⟨S, j * 4 + 1, none⟩ = some (.int .u64 ((T.sets.getD j st0).b.toNat : Int)) ∧
      w.cell? ⟨S, j * 4 + 2, none⟩ = some (.int .u64 ((T.sets.getD j st0).c.toNat : Int)) ∧ w.cell? ⟨S, j * 4 + 3, none⟩ = some (.int .u64 ((T.sets.getD j st0).d.toNat : Int)) := by
  obtain ⟨vs, vg, M, vals, h⟩ := ht
  obtain ⟨x, hx⟩ : ∃ x, T.sets[j]? = some x := ⟨_, List.getElem?_eq_getElem hj⟩
  have e : T.sets.getD j st0 = x := by simp [List.getD, hx]
  rw [e]
  have hs := h.sets
  have k0 := h.blk.cell 0
  rcases hs.2 with ⟨rfl, h0⟩ | ⟨S, cap, cur, rfl, _⟩
  · omega
  · have q := fun i (hi : i < 4) => (hs.cellAt (j * 4 + i) (by omega)).trans (flat_get4 T.sets j i x hx hi)
    exact ⟨S, cap, k0, q 0 (by omega), q 1 (by omega), q 2 (by omega), q 3 (by omega)⟩
theorem sets_at {w : World} {lo g : Nat} {v3 v4 v5 : Value} {T : TbD} (ht : Tab w lo g v3 v4 v5 T) : ∃ B cap, w.cell? ⟨g, 0, none⟩ = some (.slice B T.sets.length cap) ∧ ∀ S, 0 < T.sets.length → w.cell? ⟨g, 0, none⟩ = some (.slice (some ⟨S, 0, none⟩) T.sets.length cap) → B = some ⟨S, 0, none⟩ := by
  obtain ⟨vs, vg, M, vals, h⟩ := ht
  obtain ⟨B, cap, rfl, _, _⟩ := own_val h.sets
  refine ⟨B, cap, h.blk.cell 0, fun S _ e => ?_⟩
  have := (h.blk.cell 0).symm.trans e
  simpa using this
theorem bool_put (xs : List Bool) (p : Nat) (v : Bool) : (boolVals xs).setIfInBounds p (.bool v) = boolVals (xs.set p v) := by simp [boolVals, List.map_set]
set_option maxHeartbeats 8000000 in
theorem step_any {lo g n k : Nat} {A : Au} {At : Option Addr} {at_ : List Bool} (c : UInt8) (b : Bool) {w : World} (hA : TabA w lo g A) (wf : AuWf A) (ha : Sl Value.bool w At n at_) :
    Calls Tryz.prog 32 #[.pointer (some ⟨g, 0, none⟩), .slice At n k, .int .u8 (c.toNat : Int), .bool b] w (StepPost A at_ c b w) := by
  obtain ⟨F, c1, L, k1, ht, hf, hl⟩ := id hA
  obtain ⟨vs, vg, M, vals, h⟩ := id ht
  have hN : A.T.sets.length ≤ 900000 := wf.small.sets
  have HLEN := keepHid (tlen_any ht)
  unfold natV at HLEN
  obtain ⟨w1, hw1⟩ : ∃ w1, w.alloc (.cells (boolVals (List.replicate A.T.sets.length false)) 4) = w1 := ⟨_, rfl⟩
  have hb1 : Below w.heap.size w w1 := by rw [← hw1]; exact (Below.refl _ _).alloc (Nat.le_refl _) _
  have hk1 : Blk w1 w.heap.size 4 (boolVals (List.replicate A.T.sets.length false)) := by rw [← hw1]; exact Blk.new _ _ _
  have hmk := run_mkbool A.T.sets.length (by omega) w
  rw [hw1] at hmk
  have HM : Hid (b = true → Calls Tryz.prog 52 #[.slice (some ⟨w.heap.size, 0, none⟩) A.T.sets.length A.T.sets.length, .slice F A.first.length c1] w1
      fun e w' => e = .returned (.tuple #[]) ∧ Blk w' w.heap.size 4 (boolVals (markB (List.replicate A.T.sets.length false) A.first)) ∧ Only w.heap.size w1 w') := keepHid (fun _ =>
    mark_any hk1 (List.length_replicate) (Sl.of_own (own_keep hf fun i _ hl => hb1.block i hl) (by
      obtain ⟨A', c', e, e1, e2⟩ := own_val hf
      omega)) (fun ad e => by
        have := (hf.lt ad.block (by subst e; rfl)).2
        omega) wf.first (by omega))
  have HW1 := keepHid hw1
  have HB1 := keepHid hb1
  have HK1 := keepHid hk1
  have HA := keepHid hA
  have HAT := keepHid ha
  have WF := keepHid wf
  have g3 : w1.cell? ⟨g, 3, none⟩ = some (.slice F A.first.length c1) := (World.cell?_of_block (hb1.block g h.blk.lt)).trans (h.blk.cell 3)
  obtain ⟨D, nD, hD1, hD2, hD3⟩ := h.leads
  have HD := keepHid hD1
  have HD3 := keepHid hD3
  have HGB := keepHid h.blk
  have hi : (A.T.sets.length : Int) ≤ 900000 := by omega
  have HNG := keepHid hN
  clear hA ha wf ht hf hl h hN hb1 hk1 hD1 hD2 hD3 hw1
  generalize hNN : A.T.sets.length = N at *
  have HNN := keepHid hNN
  clear hNN
  obtain ⟨bb, hbb⟩ : ∃ bb, b = bb := ⟨_, rfl⟩
  have HBB := keepHid hbb
  clear hbb
  have HS0 : Hid (∀ xs : List Bool, xs.length = N → (∀ q, xs.getD q false = true ↔ (bb = true ∧ q ∈ A.first)) → Marks A at_ bb (Maps.has D) xs) := keepHid (fun xs h1 h2 =>
    marks_start (by rw [HNN.out]; exact h1) h2 (fun p hp => (HD3.out _).2 ⟨p, hp, rfl⟩))
  cases b
  case' false =>
    go_enter Tryz.func32, Tryz.ntmps32
    go_wp2_with fail
    with_reducible refine HLEN.out.mono ?_
    rintro e w' ⟨rfl, rfl⟩
    go_upto_region 4 with fail
    have HM0 : Hid (Marks A at_ bb (Maps.has D) (List.replicate N false)) := keepHid (HS0.out _ List.length_replicate (fun q => by rw [rep_get, ← HBB.out]; simp))
    generalize List.replicate N false = xs0 at *
    have HB2 := HB1
    have HX0 := HK1
    clear g3 hmk HW1 HM HS0 HB1 HK1 HLEN
    generalize w1 = w2 at *
  case' true =>
    go_enter Tryz.func32, Tryz.ntmps32
    go_wp2_with fail
    with_reducible refine HLEN.out.mono ?_
    rintro e w' ⟨rfl, rfl⟩
    go_wp2_with fail
    with_reducible refine (HM.out (by simp)).mono ?_
    rintro e w2 ⟨rfl, hb2, ho2⟩
    have HX0 := keepHid hb2
    have HB2 : Hid (Below w.heap.size w w2) := keepHid (HB1.out.trans (ho2.below (Nat.le_refl _) HB1.out.size))
    go_upto_region 4 with fail
    have HM0 : Hid (Marks A at_ bb (Maps.has D) (markB (List.replicate N false) A.first)) := keepHid (HS0.out _ (by rw [mark_len, List.length_replicate]) (fun q => by
      rw [mark_get _ _ _ (fun p hp => by rw [List.length_replicate, ← HNN.out]; exact WF.out.first p hp), rep_get, ← HBB.out]; simp))
    generalize markB (List.replicate N false) A.first = xs0 at *
    clear g3 hmk HW1 HM HS0 HB1 HK1 HLEN hb2 ho2
  all_goals
    have g2 : w2.cell? ⟨g, 2, none⟩ = some (.map (some M)) := (World.cell?_of_block (HB2.out.block g HGB.out.lt)).trans (HGB.out.cell 2)
    have HD2 : Hid (w2.ownsMap Tryz.prog 130 unitElem M nD D) := keepHid (by
      obtain ⟨es, ck, h1, h2⟩ := HD.out
      exact ⟨es, ck, (HB2.out.block M HD.out.lt).trans h1, h2⟩)
    have HSZ : Hid (w.heap.size < w2.heap.size) := keepHid HX0.out.lt
    go_wp2_with (first | (at_range; refine wpList_range_own _ rfl _ 126 rfl 130 _ lawK Tryz.underlying126 _ M nD D rfl HD2.out ?_; intro w3 hrg3 hg3 hs3))
    go_frame
    generalize hr : w2.heap.size = r at *
    have HR := keepHid hr
    clear hr
    have HRG3 := keepHid hrg3
    have HB3 : Hid (Below w.heap.size w w3) := keepHid (HB2.out.trans (below_grown hg3 (fun i hi => by cases hi) HB2.out.size))
    have HX3 : Hid (Blk w3 w.heap.size 4 (boolVals xs0)) := keepHid ((hg3.block _ HX0.out.lt (by simp)).trans HX0.out)
    clear hrg3 hg3 hs3 g2
    go_loopw [28] (fun _ wr => ∃ (left : Lit → Bool) (cnt : Nat) (xs : List Bool), wr.ranges Tryz.prog 130 unitElem M r nD D left cnt ∧ Marks A at_ bb left xs ∧ Blk wr w.heap.size 4 (boolVals xs) ∧ Below w.heap.size w wr) (fun _ wr => wr.rangeLeft M r)
    case atStart => exact ⟨_, _, xs0, HRG3.out, HM0.out, HX3.out, HB3.out⟩
    case round =>
      obtain ⟨left, cnt, xs, hrg, hmx, hxr, hbr⟩ := hrel
      go_wp2_with (first | (at_next; refine wpList_next_pairs rfl _ rfl M r nD D A.T.leads HD3.out (fun p hp => WF.out.num hp) _ _ rfl hrg ?_ ?_))
      · intro hl0
        have HMX := keepHid hmx
        have HL0 := keepHid hl0
        have HXR := keepHid hxr
        have HBR := keepHid hbr
        obtain ⟨F0, c0, L0, k0, ht0, _, _⟩ := HA.out
        have HT0 := keepHid ht0
        obtain ⟨B0, cap0, e0⟩ : ∃ B cap, w.cell? ⟨g, 0, none⟩ = some (.slice B N cap) := by
          obtain ⟨B, cap, h1, _⟩ := sets_at ht0
          rw [HNN.out] at h1
          exact ⟨B, cap, h1⟩
        have g0 : wr.cell? ⟨g, 0, none⟩ = some (.slice B0 N cap0) := (World.cell?_of_block (hbr.block g HGB.out.lt)).trans e0
        have HE0 := keepHid e0
        have HD0 : Hid (Done A at_ bb c 0 xs) := keepHid ⟨hmx.1, fun q => by rw [if_neg (by omega)]; exact marks_end hmx hl0 q⟩
        clear hrg hmx hxr hbr hl0 ht0 e0
        go_wp2
        clear g0
        go_loopw [57] (fun i wq => ∃ (j : Nat) (ys : List Bool), j ≤ N ∧ i = .int .i64 j ∧ Done A at_ bb c j ys ∧ Blk wq w.heap.size 4 (boolVals ys) ∧ Below w.heap.size w wq) (fun i _ => N - (intOf i).toNat)
        case atStart => exact ⟨0, xs, Nat.zero_le _, rfl, HD0.out, HXR.out, HBR.out⟩
        case round =>
          obtain ⟨j, ys, hj, rfl, hdn, hyb, hbq⟩ := hrel
          rcases Nat.lt_or_ge j N with hlt | hge
          · obtain ⟨S, cap, s0, q0, q1, q2, q3⟩ := set_at (HT0.out.keep hbq) (j := j) (by rw [HNN.out]; exact hlt)
            obtain ⟨rfl, rfl⟩ : B0 = some ⟨S, 0, none⟩ ∧ cap0 = cap := by
              have e := ((World.cell?_of_block (hbq.block g HGB.out.lt)).trans HE0.out).symm.trans s0
              injection e with e
              injection e with e1 _ e2
              exact ⟨e1, e2⟩
            have hlen : j < ys.length := by rw [hdn.1, HNN.out]; exact hlt
            obtain ⟨v, hv⟩ : ∃ v, ys[j]? = some v := ⟨_, List.getElem?_eq_getElem hlen⟩
            have HV : Hid (ys.getD j false = v) := keepHid (by simp [List.getD, hv])
            have HDN := keepHid hdn
            have HLT := keepHid hlt
            obtain ⟨w6, hw6⟩ : ∃ w6, wr.alloc (.cells #[.int .u64 ((A.T.sets.getD j st0).a.toNat : Int), .int .u64 ((A.T.sets.getD j st0).b.toNat : Int), .int .u64 ((A.T.sets.getD j st0).c.toNat : Int), .int .u64 ((A.T.sets.getD j st0).d.toNat : Int)] 73) = w6 := ⟨_, rfl⟩
            have hb6 : Below wr.heap.size wr w6 := by rw [← hw6]; exact (Below.refl _ _).alloc (Nat.le_refl _) _
            have hk6 : Blk w6 wr.heap.size 73 #[.int .u64 ((A.T.sets.getD j st0).a.toNat : Int), .int .u64 ((A.T.sets.getD j st0).b.toNat : Int), .int .u64 ((A.T.sets.getD j st0).c.toNat : Int), .int .u64 ((A.T.sets.getD j st0).d.toNat : Int)] := by rw [← hw6]; exact Blk.new _ _ _
            have hy6 := hyb.below hb6 hyb.lt
            have HY6 := keepHid hy6
            have HB6 := keepHid (hbq.trans (hb6.mono hbq.size))
            have hh := has_any (A.T.sets.getD j st0) c.toNat (u8lt c) w6
            have y6 : w6.cell? ⟨w.heap.size, j, none⟩ = some (.bool v) := by rw [hy6.cell]; simp [boolVals, hv]
            have f6 := hy6.frozen j
            have HBS := keepHid hbq.size
            obtain ⟨x0, x1, x2, x3, xf⟩ := blk4 hk6
            have HX : Hid (hasS (A.T.sets.getD j st0) c.toNat = hasS (A.T.sets.getD j st0) c.toNat) := keepHid rfl
            have hji : (j : Int) < (N : Int) := by omega
            clear s0 hdn hyb hbq hv hb6 hk6 hy6 hlen
            unfold stV at hh
            generalize hSS : A.T.sets.getD j st0 = SS at *
            have HSS := keepHid hSS
            have HH := keepHid hh
            clear hSS hh HX
            cases v
            · go_upto_region 12 with fail
              try rw [hw6]
              clear hw6 q0 q1 q2 q3
              go_wp2
              go_roundw
              case rel => exact ⟨j + 1, ys.set j false, by omega, by go_num, done_next HDN.out (by rw [HNN.out]; exact HLT.out) (by rw [HV.out]; rfl), by rw [← bool_put]; exact HY6.out.put j _, HB6.out.setCell (Nat.le_refl _) _⟩
              case measure => simp [intOf]; omega
            · go_upto_region 12 with fail
              try rw [hw6]
              clear hw6 q0 q1 q2 q3
              go_wp2_with fail
              with_reducible refine HH.out.mono ?_
              rintro e w7 ⟨rfl, hb7⟩
              have HY7 := keepHid (HY6.out.below hb7 HY6.out.lt)
              have HB7 := keepHid (HB6.out.trans (hb7.mono HB6.out.size))
              have y7 : w7.cell? ⟨w.heap.size, j, none⟩ = some (.bool true) := (World.cell?_of_block (hb7.block _ HY6.out.lt)).trans y6
              have f7 := HY7.out.frozen j
              clear y6 f6 x0 x1 x2 x3 xf hb7
              generalize hz : hasS SS c.toNat = z at *
              have HZ := keepHid hz
              clear hz
              go_wp2
              go_roundw
              case rel => exact ⟨j + 1, ys.set j z, by omega, by go_num, done_next HDN.out (by rw [HNN.out]; exact HLT.out) (by rw [HV.out, HSS.out, HZ.out]; rfl), by rw [← bool_put]; exact HY7.out.put j _, HB7.out.setCell (Nat.le_refl _) _⟩
              case measure => simp [intOf]; omega
          · go_wp2
            go_ret
            have e := HBB.out
            subst e
            have hjN : j = A.T.sets.length := by rw [HNN.out]; omega
            subst hjN
            have e2 := done_end hdn
            subst e2
            exact ⟨w.heap.size, by rw [← HNN.out]; rfl, hyb, Nat.le_refl _, hbq⟩
      · intro f t w4 cnt4 hp hrg4 hlt4 hg4 hs4 hen
        have HP : Hid ((f, t) ∈ A.T.leads) := keepHid hp
        have HL4 := keepHid hlt4
        have HMX := keepHid hmx
        have HEQ := keepHid hrg.left_eq
        have hends := WF.out.ends _ hp
        simp only at hends
        have hb4 : Below w.heap.size w w4 := hbr.trans (below_grown hg4 (fun i hi => by injection hi with hi; have := HSZ.out; omega) hbr.size)
        have hx4 : Blk w4 w.heap.size 4 (boolVals xs) := (hg4.block _ hxr.lt (fun e => by injection e with e; have := HSZ.out; omega)).trans hxr
        obtain ⟨w5, hw5⟩ : ∃ w5, w4.alloc (.cells #[.int .i64 (f : Int), .int .i64 (t : Int)] 130) = w5 := ⟨_, rfl⟩
        have hb45 : Below w4.heap.size w4 w5 := by rw [← hw5]; exact (Below.refl _ _).alloc (Nat.le_refl _) _
        have HRG5 : Hid (w5.ranges Tryz.prog 130 unitElem M r nD D (fun z => left z && !z.sameKey (klf (f, t))) cnt4) := keepHid (by rw [← hw5]; exact hrg4.alloc _)
        have hp5 : Blk w5 w4.heap.size 130 #[.int .i64 (f : Int), .int .i64 (t : Int)] := by rw [← hw5]; exact Blk.new _ _ _
        have HB5 : Hid (Below w.heap.size w w5) := keepHid (hb4.trans (hb45.mono hb4.size))
        have HX5 := keepHid (hx4.below hb45 hx4.lt)
        obtain ⟨F0, c0, L0, k0, ht0, _, _⟩ := HA.out
        have ht5 := ht0.keep HB5.out
        obtain ⟨GF, capF, BF, cF, cg, cf, hsf, _⟩ := grp_at ht5 WF.out.small hends.1
        obtain ⟨GT, capT, BT, cT, cg', ct, hst, hstb⟩ := grp_at ht5 WF.out.small hends.2
        obtain ⟨rfl, rfl⟩ : GF = GT ∧ capF = capT := by
          rw [cg] at cg'
          injection cg' with e1
          injection e1 with e1 _ e2
          injection e1 with e1
          injection e1 with e1
          exact ⟨e1, e2⟩
        obtain ⟨BB, hBB⟩ : ∃ BB, anyB at_ (A.T.grp f) = BB := ⟨_, rfl⟩
        have HANY : Hid (∀ j, Calls Tryz.prog 53 #[.slice At n k, .slice BF (A.T.grp f).length cF] (w5.drewN j) fun e w' => e = .returned (.bool BB) ∧ w5.drewN j = w') := keepHid (fun j => by
          rw [← hBB]
          exact anyOf_any ((HAT.out.below HB5.out).drewN j) (hsf.drewN j))
        have HBB2 := keepHid hBB
        have hgl : (A.T.groups.length : Int) ≤ 900000 := by have := WF.out.small.groups; omega
        obtain ⟨NG, hNG⟩ : ∃ NG, A.T.groups.length = NG := ⟨_, rfl⟩
        rw [hNG] at cg hends hgl
        have lf : (f : Int) < (NG : Int) := by omega
        have lt : (t : Int) < (NG : Int) := by omega
        obtain ⟨d0, d1⟩ : w5.cell? ⟨w4.heap.size, 0, none⟩ = some (.int .i64 (f : Int)) ∧ w5.cell? ⟨w4.heap.size, 1, none⟩ = some (.int .i64 (t : Int)) := ⟨hp5.cell 0, hp5.cell 1⟩
        have HST := keepHid hst
        have HSTB := keepHid hstb
        have hen' : (Instr.entry (.pointer (some ⟨r, 0, none⟩))).run Tryz.prog w4 = .ok (.tuple #[.agg #[.int .i64 (f : Int), .int .i64 (t : Int)], .agg #[]]) w4 := hen
        have HGC : Hid (w.heap.size < w4.heap.size) := keepHid hx4.lt
        clear hp hlt4 hmx hrg hb4 hx4 hxr hbr hg4 hs4 hrg4 hb45 hp5 ht0 ht5 hsf hst hstb cg' hBB hNG hends hen
        go_upto_region 7 with fail
        try rw [hw5]
        clear hw5 hen'
        generalize w4.heap.size = C at *
        cases BB
        · go_quiet ((go_at_call 53; exact quietL (HANY.out _)))
          go_wp2
          go_roundw
          case rel => exact ⟨_, cnt4, xs, ranges_drewN HRG5.out _, marks_skip WF.out HP.out HMX.out HBB2.out, HX5.out, below_drewN HB5.out _⟩
          case measure =>
            rw [(ranges_drewN HRG5.out _).left_eq, HEQ.out]
            exact HL4.out
        · go_quiet ((go_at_call 53; exact quietL (HANY.out _)))
          have hrg7 := ranges_drewN HRG5.out (nq + 1)
          have hx7 : Blk (w5.drewN (nq + 1)) w.heap.size 4 (boolVals xs) := HX5.out.drewN (nq + 1)
          have hb7 : Below w.heap.size w (w5.drewN (nq + 1)) := below_drewN HB5.out (nq + 1)
          have hst7 : Sl natV (w5.drewN (nq + 1)) BT (A.T.grp t).length (A.T.grp t) := HST.out.drewN (nq + 1)
          have HSS : Hid (∀ w', Only w.heap.size (w5.drewN (nq + 1)) w' → w'.cell? ⟨g, 1, none⟩ = some (.slice (some ⟨GF, 0, none⟩) NG capF) ∧ w'.cell? ⟨C, 1, none⟩ = some (.int .i64 (t : Int)) ∧ w'.cell? ⟨GF, t, none⟩ = some (.slice BT (A.T.grp t).length cT)) := keepHid (fun w' ho => by
            have hg' : g ≠ w.heap.size := by have := HGB.out.lt; omega
            have hf' : GF ≠ w.heap.size := by
              obtain ⟨F0, c0, L0, k0, ht0, _, _⟩ := HA.out
              obtain ⟨vs', vg', M', vals', h'⟩ := ht0
              have e1 := (World.cell?_of_block (HB5.out.block g h'.blk.lt)).trans (h'.blk.cell 1)
              rw [cg] at e1
              injection e1 with e1
              simp at e1
              have := (h'.groups.lt GF (by rw [← e1]; rfl)).2
              omega
            exact ⟨(World.cell?_of_block (ho.block g (World.block_lt_of_cell? w5 _ cg) (fun e => hg' (by injection e)))).trans cg,
              (World.cell?_of_block (ho.block C (World.block_lt_of_cell? w5 _ d1) (fun e => by injection e with e; have := HGC.out; omega))).trans d1,
              (World.cell?_of_block (ho.block GF (World.block_lt_of_cell? w5 _ ct) (fun e => hf' (by injection e)))).trans ct⟩)
          have HMK : Hid (Calls Tryz.prog 52 #[.slice (some ⟨w.heap.size, 0, none⟩) N N, .slice BT (A.T.grp t).length cT] (w5.drewN (nq + 1))
              fun e w' => e = .returned (.tuple #[]) ∧ Blk w' w.heap.size 4 (boolVals (markB xs (A.T.grp t))) ∧ Only w.heap.size (w5.drewN (nq + 1)) w') := keepHid (by
            refine mark_any hx7 (by rw [← HNN.out]; exact HMX.out.1) hst7 (fun ad e => ?_) (fun y hy => ?_) (by have := HNG.out; omega)
            · obtain ⟨cs, hcs⟩ := HSTB.out ad e
              exact blk_ne hcs HX5.out (by decide)
            · obtain ⟨x, hx, _⟩ := (any_iff _ _).1 HBB2.out
              rw [← HNN.out]
              exact WF.out.leads _ HP.out x hx y hy)
          have HRG7 := keepHid hrg7
          have HB7 := keepHid hb7
          clear hrg7 hx7 hb7 hst7
          have HS7 := keepHid (HSS.out _ (Only.refl _ _))
          go_wp2_with fail
          go_region_held3 (fun w' => w'.cell? ⟨g, 1, none⟩ = some (.slice (some ⟨GF, 0, none⟩) NG capF) ∧ w'.cell? ⟨C, 1, none⟩ = some (.int .i64 (t : Int)) ∧ w'.cell? ⟨GF, t, none⟩ = some (.slice BT (A.T.grp t).length cT)) (first | exact HS7.out | exact HS8.out) (first | (go_at_call 52; (with_reducible refine HMK.out.mono ?_); rintro e w8 ⟨rfl, hx8, ho8⟩; have HS8 := keepHid (HSS.out _ ho8); have HX8 := keepHid hx8; have HO8 := keepHid ho8; clear hx8 ho8))
          go_wp2
          have hrg8 := HRG7.out.kept HO8.out (fun e => by injection e with e; have := HD.out.lt; omega) (fun e => by injection e with e; have := HSZ.out; omega)
          go_roundw
          case rel => exact ⟨_, cnt4, _, hrg8, marks_mark WF.out HP.out HMX.out HBB2.out, HX8.out, HB7.out.trans (HO8.out.below (Nat.le_refl _) HB7.out.size)⟩
          case measure =>
            rw [hrg8.left_eq, HEQ.out]
            exact HL4.out


theorem sl_blk {w : World} {G : Nat} {xs : List Bool} {N : Nat} (hb : Blk w G 4 (boolVals xs)) (hn : xs.length = N) (hm : N ≤ maxLen) : Sl Value.bool w (some ⟨G, 0, none⟩) N xs := Sl.of_blk hb hn hm
theorem run_len (A : Au) (wf : AuWf A) : ∀ (s : List UInt8), (runB A s).length ≤ A.T.sets.length
  | s => by
    rcases List.eq_nil_or_concat s with rfl | ⟨t, c, rfl⟩
    · simp [runB]
    · simp [run_snoc, step_len]
/-! ### Small questions -/
theorem tabA_ends {lo g n c : Nat} {A : Au} {w : World} {At : Option Addr} {at_ : List Bool} (h : TabA w lo g A) (ha : Sl Value.bool w At n at_) : Calls Tryz.prog 33 #[.pointer (some ⟨g, 0, none⟩), .slice At n c] w fun e w' => e = .returned (.bool (anyB at_ A.last)) ∧ w = w' := by
  obtain ⟨F, c1, L, k, ht, _, hl⟩ := h
  exact tends_any (v4 := .bool false) ht ha (Sl.of_own hl (by obtain ⟨_, _, _, e1, e2⟩ := own_val hl; omega))
end Go.Proofs.YtgndcgknedmalaaGreatDoor
