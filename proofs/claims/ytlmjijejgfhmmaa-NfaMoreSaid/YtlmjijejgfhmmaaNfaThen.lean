/-
  nfa's star and then, by contracts.
-/
import Derived.Test.YtlmjijejgfhmmaaNfaOne
namespace Go.Proofs.Ytlmjijejgfhmmaa
open Go.RowKit
set_option linter.unusedVariables false

theorem blk_three {w : World} {b : Nat} {t : TypeId} {a0 a1 a2 : Value} (h : Blk w b t #[a0, a1, a2]) (u0 u1 u2 : Value) : Blk (((w.setCell ⟨b, 0, none⟩ u0).setCell ⟨b, 1, none⟩ u1).setCell ⟨b, 2, none⟩ u2) b t #[u0, u1, u2] := by
  simpa using ((h.put 0 u0).put 1 u1).put 2 u2
theorem star_part {lo g : Nat} {v3 v4 v5 : Value} {T : TbD} (a : Prt) {w : World} (ht : Tab w lo g v3 v4 v5 T) (hlo : lo ≤ w.heap.size) (hn : T.leads.length < 1000000) (hf : a.f < 1000000) (hl : a.l < 1000000) :
    Calls Try.prog 39 #[.pointer (some ⟨g, 0, none⟩), partV a] w (PartPost lo g v3 v4 v5 (starF a T) w) := by
  obtain ⟨w2, hw2⟩ : ∃ w2, (w.alloc (.cells (partC a) 61)).alloc (.cells #[.bool false, .int .i64 0, .int .i64 0] 61) = w2 := ⟨_, rfl⟩
  have hb : Below w.heap.size w w2 := by rw [← hw2]; exact ((Below.refl _ _).alloc (Nat.le_refl _) _).alloc (by simp) _
  have ka : Blk w2 w.heap.size 61 (partC a) := by rw [← hw2]; exact (Blk.new _ _ _).alloc _
  have kr : Blk w2 (w.heap.size + 1) 61 #[.bool false, .int .i64 0, .int .i64 0] := by rw [← hw2]; exact Blk.new_at _ _ _ _ (by simp)
  have HL := keepHid (lead_any a a (ht.keep hb) hn hl hf)
  have HB := keepHid hb
  have HA := keepHid ka
  have HR := keepHid kr
  have HW := keepHid hw2
  unfold partC at ka
  obtain ⟨a0, a1, a2, _⟩ := blk3 ka
  clear ka kr hb hw2 ht hlo hn hf hl
  unfold partC at HW
  obtain ⟨ae, af, al⟩ := a
  unfold partV at *
  simp only at a0 a1 a2
  go_enter Try.func39, Try.ntmps39
  go_wp2_with fail
  rw [HW.out]
  go_wp2_with fail
  with_reducible refine HL.out.mono ?_
  rintro e w3 ⟨rfl, ht3, hn3⟩
  have ka3 := hn3.blk HA.out (by decide)
  have kr3 := hn3.blk HR.out (by decide)
  unfold partC at ka3
  obtain ⟨b0, b1, b2, _⟩ := blk3 ka3
  obtain ⟨r0, r1, r2, rf⟩ := blk3 kr3
  simp only at b0 b1 b2
  have HF := keepHid (part_fin ht3 ((Tn.of_below HB.out).trans hn3) kr3 (Nat.le_succ _) (.bool true) (.int .i64 (af : Int)) (.int .i64 (al : Int)))
  clear ka3 kr3 a0 a1 a2 ht3 hn3
  go_wp2
  refine bodyPost_ret (v := .agg #[.bool true, .int .i64 (af : Int), .int .i64 (al : Int)]) ?_ rfl (by unfold PartPost; exact ⟨rfl, HF.out⟩)
  rw [results_cell_one rfl]
  go_simp


def prt0 : Array Value := #[.bool false, .int .i64 0, .int .i64 0]
/-- The variables of a call's own that hold two parts, and its result's place. -/
structure Loc (w : World) (s : Nat) (a b : Prt) : Prop where
  a : Blk w s 61 (partC a)
  b : Blk w (s + 1) 61 (partC b)
  r : Blk w (s + 1 + 1) 61 prt0
theorem Loc.tn {lo : Nat} {w w' : World} {s : Nat} {a b : Prt} (h : Loc w s a b) (t : Tn lo w w') : Loc w' s a b := ⟨t.blk h.a (by decide), t.blk h.b (by decide), t.blk h.r (by decide)⟩
theorem Loc.alloc {w : World} {s : Nat} {a b : Prt} (h : Loc w s a b) (o : Obj) : Loc (w.alloc o) s a b := ⟨h.a.alloc o, h.b.alloc o, h.r.alloc o⟩
theorem Loc.far {w : World} {s : Nat} {a b : Prt} (h : Loc w s a b) {p : Addr} (hp : s + 1 + 1 < p.block) (u : Value) : Loc (w.setCell p u) s a b := ⟨h.a.far (by omega) u, h.b.far (by omega) u, h.r.far (by omega) u⟩
theorem Loc.three {w : World} {s : Nat} {a b : Prt} (h : Loc w s a b) {c : Nat} (hp : s + 1 + 1 < c) (u0 u1 u2 : Value) : Loc (((w.setCell ⟨c, 0, none⟩ u0).setCell ⟨c, 1, none⟩ u1).setCell ⟨c, 2, none⟩ u2) s a b := ((h.far hp u0).far hp u1).far hp u2
theorem tab_one {w : World} {lo g b i : Nat} {v3 v4 v5 : Value} {T : TbD} (h : Tab w lo g v3 v4 v5 T) {cs : Array Value} (hb : Blk w b 61 cs) (u : Value) : Tab (w.setCell ⟨b, i, none⟩ u) lo g v3 v4 v5 T := by
  obtain ⟨vs, vg, M, vals, h⟩ := h
  have far : ∀ j, j ≠ b → (w.setCell ⟨b, i, none⟩ u).heap[j]? = w.heap[j]? := fun j hj => Below.heap_setCell w ⟨b, i, none⟩ u j hj
  have hM : M ≠ b := fun e => by
    obtain ⟨es, c, ho⟩ := h.leads.obj
    subst e
    unfold Blk at hb
    rw [hb] at ho
    cases ho
  refine ⟨vs, vg, M, vals, (far g (blk_ne h.blk hb (by decide))).trans h.blk, h.log, h.lom, ?_, ?_, fun i q hq => ?_, h.leads.keep (far M hM)⟩
  · exact own_keep h.sets fun i hi _ => by obtain ⟨cur, hc⟩ := own_obj h.sets hi; exact far i (blk_ne hc hb (by decide))
  · exact own_keep h.groups fun i hi _ => by obtain ⟨cur, hc⟩ := own_obj h.groups hi; exact far i (blk_ne hc hb (by decide))
  · obtain ⟨v, hv, hr⟩ := h.rows i q hq
    exact ⟨v, hv, own_keep hr fun i hi _ => by obtain ⟨cur, hc⟩ := own_obj hr hi; exact far i (blk_ne hc hb (by decide))⟩
/-- The variable 'both', in a world on the way. -/
structure Both (w0 w : World) (lo g : Nat) (v3 v4 v5 : Value) (T : TbD) (a b : Prt) (c : Nat) (e : Bool) (f l : Nat) : Prop where
  tab : Tab w lo g v3 v4 v5 T
  tn : Tn lo w0 w
  loc : Loc w w0.heap.size a b
  own : Blk w c 61 #[.bool e, .int .i64 (f : Int), .int .i64 (l : Int)]
  far : w0.heap.size + 1 + 1 < c
theorem Both.call {w0 w w' : World} {lo g : Nat} {v3 v4 v5 : Value} {T T' : TbD} {a b : Prt} {c : Nat} {e : Bool} {f l : Nat} (h : Both w0 w lo g v3 v4 v5 T a b c e f l) (ht : Tab w' lo g v3 v4 v5 T') (hn : Tn lo w w') : Both w0 w' lo g v3 v4 v5 T' a b c e f l :=
  ⟨ht, h.tn.trans hn, h.loc.tn hn, hn.blk h.own (by decide), h.far⟩
theorem Both.first {w0 w : World} {lo g : Nat} {v3 v4 v5 : Value} {T : TbD} {a b : Prt} {c : Nat} {e : Bool} {f l : Nat} (h : Both w0 w lo g v3 v4 v5 T a b c e f l) (n : Nat) : Both w0 (w.setCell ⟨c, 1, none⟩ (.int .i64 (n : Int))) lo g v3 v4 v5 T a b c e n l :=
  ⟨tab_one h.tab h.own _, h.tn.setCell (.inr (by have := h.far; simp; omega)) _, h.loc.far h.far _, by simpa using h.own.put 1 (.int .i64 (n : Int)), h.far⟩
theorem Both.last {w0 w : World} {lo g : Nat} {v3 v4 v5 : Value} {T : TbD} {a b : Prt} {c : Nat} {e : Bool} {f l : Nat} (h : Both w0 w lo g v3 v4 v5 T a b c e f l) (n : Nat) : Both w0 (w.setCell ⟨c, 2, none⟩ (.int .i64 (n : Int))) lo g v3 v4 v5 T a b c e f n :=
  ⟨tab_one h.tab h.own _, h.tn.setCell (.inr (by have := h.far; simp; omega)) _, h.loc.far h.far _, by simpa using h.own.put 2 (.int .i64 (n : Int)), h.far⟩
/-- The cells, laid. -/
theorem Both.cells {w0 w : World} {lo g : Nat} {v3 v4 v5 : Value} {T : TbD} {a b : Prt} {c : Nat} {e : Bool} {f l : Nat} (h : Both w0 w lo g v3 v4 v5 T a b c e f l) :
    (w.cell? ⟨w0.heap.size, 0, none⟩ = some (.bool a.e) ∧ w.cell? ⟨w0.heap.size, 1, none⟩ = some (.int .i64 (a.f : Int)) ∧ w.cell? ⟨w0.heap.size, 2, none⟩ = some (.int .i64 (a.l : Int))) ∧
    (w.cell? ⟨w0.heap.size + 1, 0, none⟩ = some (.bool b.e) ∧ w.cell? ⟨w0.heap.size + 1, 1, none⟩ = some (.int .i64 (b.f : Int)) ∧ w.cell? ⟨w0.heap.size + 1, 2, none⟩ = some (.int .i64 (b.l : Int))) ∧
    (w.cell? ⟨w0.heap.size + 1 + 1, 0, none⟩ = some (.bool false) ∧ w.cell? ⟨w0.heap.size + 1 + 1, 1, none⟩ = some (.int .i64 0) ∧ w.cell? ⟨w0.heap.size + 1 + 1, 2, none⟩ = some (.int .i64 0)) ∧
    (w.cell? ⟨c, 0, none⟩ = some (.bool e) ∧ w.cell? ⟨c, 1, none⟩ = some (.int .i64 (f : Int)) ∧ w.cell? ⟨c, 2, none⟩ = some (.int .i64 (l : Int))) ∧ (∀ i, w.frozen? ⟨c, i, none⟩ = false) ∧ ∀ i, w.frozen? ⟨w0.heap.size + 1 + 1, i, none⟩ = false :=
  ⟨⟨h.loc.a.cell 0, h.loc.a.cell 1, h.loc.a.cell 2⟩, ⟨h.loc.b.cell 0, h.loc.b.cell 1, h.loc.b.cell 2⟩, ⟨h.loc.r.cell 0, h.loc.r.cell 1, h.loc.r.cell 2⟩, ⟨h.own.cell 0, h.own.cell 1, h.own.cell 2⟩, h.own.frozen, h.loc.r.frozen⟩
theorem Both.fin {w0 w : World} {lo g : Nat} {v3 v4 v5 : Value} {T : TbD} {a b : Prt} {c : Nat} {e : Bool} {f l : Nat} (h : Both w0 w lo g v3 v4 v5 T a b c e f l) (u0 u1 u2 : Value) :
    Tab (((w.setCell ⟨w0.heap.size + 1 + 1, 0, none⟩ u0).setCell ⟨w0.heap.size + 1 + 1, 1, none⟩ u1).setCell ⟨w0.heap.size + 1 + 1, 2, none⟩ u2) lo g v3 v4 v5 T ∧ Tn lo w0 (((w.setCell ⟨w0.heap.size + 1 + 1, 0, none⟩ u0).setCell ⟨w0.heap.size + 1 + 1, 1, none⟩ u1).setCell ⟨w0.heap.size + 1 + 1, 2, none⟩ u2) :=
  part_fin h.tab h.tn h.loc.r (by omega) u0 u1 u2
def UnionAt (lo g : Nat) (v3 v4 v5 : Value) (T : TbD) (x y : Nat) : Prop := ∀ w, Tab w lo g v3 v4 v5 T → lo ≤ w.heap.size → Calls Try.prog 48 #[.pointer (some ⟨g, 0, none⟩), .int .i64 (x : Int), .int .i64 (y : Int)] w
  fun e w' => e = .returned (.int .i64 ((unionF x y T).1 : Int)) ∧ Tab w' lo g v3 v4 v5 (unionF x y T).2 ∧ Tn lo w w'
theorem union_at {lo g : Nat} {v3 v4 v5 : Value} {T : TbD} {x y : Nat} {P Q : List Nat} (hx : T.groups[x]? = some P) (hy : T.groups[y]? = some Q) (hn : T.groups.length < 1000000) (hP : P.length ≤ 1000000) (hQ : Q.length ≤ 1000000) : UnionAt lo g v3 v4 v5 T x y := by
  intro w ht hlo
  unfold unionF
  rw [grp_of hx, grp_of hy]
  exact union_any hx hy ht hlo hn hP hQ
theorem unionIf_false (a b d : Nat) (T : TbD) : unionIf false a b d T = (d, T) := rfl
theorem unionIf_true (a b d : Nat) (T : TbD) : unionIf true a b d T = unionF a b T := rfl
set_option maxHeartbeats 4000000 in
theorem then_part {lo g : Nat} {v3 v4 v5 : Value} {T : TbD} (a b : Prt) {P1 P2 Q1 Q2 : List Nat} (haf : T.groups[a.f]? = some P1) (hal : T.groups[a.l]? = some P2) (hbf : T.groups[b.f]? = some Q1) (hbl : T.groups[b.l]? = some Q2) {w : World} (ht : Tab w lo g v3 v4 v5 T)
    (hlo : lo ≤ w.heap.size) (hn : T.groups.length < 999999) (hl : T.leads.length < 1000000) (l1 : P1.length ≤ 1000000) (l2 : P2.length ≤ 1000000) (l3 : Q1.length ≤ 1000000) (l4 : Q2.length ≤ 1000000) :
    Calls Try.prog 37 #[.pointer (some ⟨g, 0, none⟩), partV a, partV b] w (PartPost lo g v3 v4 v5 (thenF a b T) w) := by
  obtain ⟨w2, hw2⟩ : ∃ w2, ((w.alloc (.cells (partC a) 61)).alloc (.cells (partC b) 61)).alloc (.cells prt0 61) = w2 := ⟨_, rfl⟩
  have hb : Below w.heap.size w w2 := by rw [← hw2]; exact (((Below.refl _ _).alloc (Nat.le_refl _) _).alloc (by simp) _).alloc (by simp; omega) _
  have hc : Loc w2 w.heap.size a b := by
    rw [← hw2]
    exact ⟨((Blk.new _ _ _).alloc _).alloc _, (Blk.new_at _ _ _ _ (by simp)).alloc _, Blk.new_at _ _ _ _ (by simp)⟩
  have hs2 : w2.heap.size = w.heap.size + 3 := by rw [← hw2]; simp
  have i1 := lt_of_get haf
  have i2 := lt_of_get hal
  have i3 := lt_of_get hbf
  have HL := keepHid (lead_any a b (ht.keep hb) hl (by omega) (by omega))
  have HU1 : Hid (UnionAt lo g v3 v4 v5 (leadF a b T) a.f b.f) := keepHid (union_at haf hbf (by simp [leadF]; omega) l1 l3)
  have HU2 : Hid (∀ c, UnionAt lo g v3 v4 v5 (unionIf c a.f b.f a.f (leadF a b T)).2 a.l b.l) := keepHid (fun c => by
    obtain ⟨u, _⟩ := up_unionIf (T := leadF a b T) (m := 2000000) c haf hbf haf (fun _ => by rw [List.length_append]; omega)
    obtain ⟨gs, e1, e2, _⟩ := u.groups
    exact union_at (u.keep hal) (u.keep hbl) (by rw [e1, List.length_append]; simp [leadF]; omega) l2 l4)
  have HLO : Hid (lo ≤ w.heap.size) := keepHid hlo
  have HC := keepHid hc
  have HS := keepHid hs2
  have HB := keepHid hb
  have HW := keepHid hw2
  obtain ⟨a0, a1, a2, _⟩ := blk3 (by have := hc.a; unfold partC at this; exact this)
  obtain ⟨b0, b1, b2, _⟩ := blk3 (by have := hc.b; unfold partC at this; exact this)
  clear hc hb hw2 ht hlo hn hl l1 l2 l3 l4 haf hal hbf hbl i1 i2 i3 hs2
  unfold partC prt0 at HW
  unfold partV at *
  obtain ⟨ae, af, al⟩ := a
  obtain ⟨be, bf, bl⟩ := b
  simp only at *
  unfold UnionAt at HU1 HU2
  generalize hT1 : leadF ⟨ae, af, al⟩ ⟨be, bf, bl⟩ T = T1 at *
  have HT1 := keepHid hT1
  clear hT1
  have HEND : Hid (∀ (c : Nat) (w' : World) (e : Bool) (f l : Nat) (T' : TbD), Both w w' lo g v3 v4 v5 T' ⟨ae, af, al⟩ ⟨be, bf, bl⟩ c e f l → (⟨e, f, l⟩, T') = thenF ⟨ae, af, al⟩ ⟨be, bf, bl⟩ T →
      PartPost lo g v3 v4 v5 (thenF ⟨ae, af, al⟩ ⟨be, bf, bl⟩ T) w (.returned (.agg #[.bool e, .int .i64 (f : Int), .int .i64 (l : Int)])) (((w'.setCell ⟨w.heap.size + 1 + 1, 0, none⟩ (.bool e)).setCell ⟨w.heap.size + 1 + 1, 1, none⟩ (.int .i64 (f : Int))).setCell ⟨w.heap.size + 1 + 1, 2, none⟩ (.int .i64 (l : Int)))) := keepHid (fun c w' e f l T' hB he => by
    rw [← he]
    exact ⟨rfl, hB.fin _ _ _⟩)
  obtain ⟨ee, hee⟩ : ∃ ee, (ae && be) = ee := ⟨_, rfl⟩
  cases ae
  all_goals
    cases be
    all_goals
      simp at hee
      go_enter Try.func37, Try.ntmps37
      go_wp2_with fail
      rw [HW.out]
      go_wp2_with fail
      with_reducible refine HL.out.mono ?_
      rintro e w3 ⟨rfl, ht3, hn3⟩
      have hl3 := HC.out.tn hn3
      have hs3 : w.heap.size + 1 + 1 < w3.heap.size := by have := HS.out; have := hn3.size; omega
      have hn3' := (Tn.of_below HB.out).trans hn3
      obtain ⟨⟨a0', a1', a2', _⟩, ⟨b0', b1', b2', _⟩, ⟨r0, r1, r2, rf⟩⟩ := (⟨blk3 (by have := hl3.a; unfold partC at this; exact this), blk3 (by have := hl3.b; unfold partC at this; exact this), blk3 (by have := hl3.r; unfold prt0 at this; exact this)⟩ : _ ∧ _ ∧ _)
      obtain ⟨w4, hw4⟩ : ∃ w4, w3.alloc (.cells #[.bool ee, .int .i64 (af : Int), .int .i64 (bl : Int)] 61) = w4 := ⟨_, rfl⟩
      have HB4 : Hid (Both w w4 lo g v3 v4 v5 T1 _ _ w3.heap.size ee af bl) := keepHid (by
        rw [← hw4]
        exact ⟨ht3.keep ((Below.refl _ _).alloc (Nat.le_refl _) _), hn3'.alloc _, hl3.alloc _, Blk.new w3 _ _, hs3⟩)
      clear a0 a1 a2 b0 b1 b2 ht3 hn3 hl3 hs3 hn3'
      subst hee
      go_upto_region 3 with fail
      clear hw4 a0' a1' a2' b0' b1' b2' r0 r1 r2 rf
      obtain ⟨⟨a0, a1, a2⟩, ⟨b0, b1, b2⟩, ⟨r0, r1, r2⟩, ⟨c0, c1, c2⟩, cf, rf⟩ := HB4.out.cells
      have hc4 := HB4.out.far
      generalize w3.heap.size = C at *
      simp only at a0 a1 a2 b0 b1 b2
  · go_wp2
    refine bodyPost_ret (v := .agg #[.bool false, .int .i64 (af : Int), .int .i64 (bl : Int)]) ?_ rfl (HEND.out _ _ _ _ _ _ HB4.out (by rw [← HT1.out]; rfl))
    rw [results_cell_one rfl]
    go_simp
  · go_wp2_with fail
    have hU2 := HU2.out false
    rw [unionIf_false] at hU2
    have HUF := keepHid hU2
    clear hU2
    with_reducible refine (HUF.out w4 HB4.out.tab (by have := HLO.out; have := HB4.out.tn.size; omega)).mono ?_
    rintro e w5 ⟨rfl, ht5, hn5⟩
    have hB5 := HB4.out.call ht5 hn5
    generalize hN : (unionF al bl T1).1 = N at *
    have HB6 := keepHid (hB5.last N)
    have HE : Hid ((⟨false, af, N⟩, (unionF al bl T1).2) = thenF ⟨false, af, al⟩ ⟨true, bf, bl⟩ T) := keepHid (by rw [← HT1.out] at hN ⊢; subst hN; rfl)
    clear a0 a1 a2 b0 b1 b2 r0 r1 r2 rf c0 c1 c2 cf ht5 hn5 hN
    obtain ⟨⟨a0, a1, a2⟩, ⟨b0, b1, b2⟩, ⟨r0, r1, r2⟩, ⟨c0, c1, c2⟩, cf, rf⟩ := hB5.cells
    clear hB5
    simp only at a0 a1 a2 b0 b1 b2
    have HEE := keepHid (HEND.out _ _ _ _ _ _ HB6.out HE.out)
    go_wp2
    refine bodyPost_ret (v := .agg #[.bool false, .int .i64 (af : Int), .int .i64 (N : Int)]) ?_ rfl HEE.out
    rw [results_cell_one rfl]
    go_simp
  · go_wp2_with fail
    with_reducible refine (HU1.out w4 HB4.out.tab (by have := HLO.out; have := HB4.out.tn.size; omega)).mono ?_
    rintro e w5 ⟨rfl, ht5, hn5⟩
    have hB5 := HB4.out.call ht5 hn5
    generalize hN : (unionF af bf T1).1 = N at *
    have HB6 := keepHid (hB5.first N)
    have HE : Hid ((⟨false, N, bl⟩, (unionF af bf T1).2) = thenF ⟨true, af, al⟩ ⟨false, bf, bl⟩ T) := keepHid (by rw [← HT1.out] at hN ⊢; subst hN; rfl)
    clear a0 a1 a2 b0 b1 b2 r0 r1 r2 rf c0 c1 c2 cf ht5 hn5 hN
    obtain ⟨⟨a0, a1, a2⟩, ⟨b0, b1, b2⟩, ⟨r0, r1, r2⟩, ⟨c0, c1, c2⟩, cf, rf⟩ := hB5.cells
    clear hB5
    simp only at a0 a1 a2 b0 b1 b2
    have HEE := keepHid (HEND.out _ _ _ _ _ _ HB6.out HE.out)
    go_wp2
    refine bodyPost_ret (v := .agg #[.bool false, .int .i64 (N : Int), .int .i64 (bl : Int)]) ?_ rfl HEE.out
    rw [results_cell_one rfl]
    go_simp
  · go_wp2_with fail
    with_reducible refine (HU1.out w4 HB4.out.tab (by have := HLO.out; have := HB4.out.tn.size; omega)).mono ?_
    rintro e w5 ⟨rfl, ht5, hn5⟩
    have hB5 := HB4.out.call ht5 hn5
    have hU2 := HU2.out true
    rw [unionIf_true] at hU2
    generalize hN : (unionF af bf T1).1 = N at *
    obtain ⟨w6, hw6⟩ : ∃ w6, w5.setCell ⟨C, 1, none⟩ (.int .i64 (N : Int)) = w6 := ⟨_, rfl⟩
    have HB6 := keepHid (hB5.first N)
    rw [hw6] at HB6
    have HW6 := keepHid hw6
    have HU := keepHid hU2
    have HN := keepHid hN
    clear a0 a1 a2 b0 b1 b2 r0 r1 r2 rf c0 c1 c2 cf ht5 hn5 hN hU2 hw6
    obtain ⟨⟨a0, a1, a2⟩, ⟨b0, b1, b2⟩, ⟨r0, r1, r2⟩, ⟨c0, c1, c2⟩, cf, rf⟩ := hB5.cells
    clear hB5
    simp only at a0 a1 a2 b0 b1 b2
    go_upto_region 5 with fail
    rw [HW6.out]
    clear a0 a1 a2 b0 b1 b2 r0 r1 r2 rf c0 c1 c2 cf
    obtain ⟨⟨a0, a1, a2⟩, ⟨b0, b1, b2⟩, ⟨r0, r1, r2⟩, ⟨c0, c1, c2⟩, cf, rf⟩ := HB6.out.cells
    simp only at a0 a1 a2 b0 b1 b2
    go_wp2_with fail
    with_reducible refine (HU.out w6 HB6.out.tab (by have := HLO.out; have := HB6.out.tn.size; omega)).mono ?_
    rintro e w7 ⟨rfl, ht7, hn7⟩
    have hB7 := HB6.out.call ht7 hn7
    generalize hM : (unionF al bl (unionF af bf T1).2).1 = M at *
    have HB8 := keepHid (hB7.last M)
    have HE : Hid ((⟨true, N, M⟩, (unionF al bl (unionF af bf T1).2).2) = thenF ⟨true, af, al⟩ ⟨true, bf, bl⟩ T) := keepHid (by have hN := HN.out; rw [← HT1.out] at hN hM ⊢; subst hN hM; rfl)
    clear a0 a1 a2 b0 b1 b2 r0 r1 r2 rf c0 c1 c2 cf ht7 hn7 hM
    obtain ⟨⟨a0, a1, a2⟩, ⟨b0, b1, b2⟩, ⟨r0, r1, r2⟩, ⟨c0, c1, c2⟩, cf, rf⟩ := hB7.cells
    clear hB7
    simp only at a0 a1 a2 b0 b1 b2
    have HEE := keepHid (HEND.out _ _ _ _ _ _ HB8.out HE.out)
    go_wp2
    refine bodyPost_ret (v := .agg #[.bool true, .int .i64 (N : Int), .int .i64 (M : Int)]) ?_ rfl HEE.out
    rw [results_cell_one rfl]
    go_simp
end Go.Proofs.Ytlmjijejgfhmmaa
