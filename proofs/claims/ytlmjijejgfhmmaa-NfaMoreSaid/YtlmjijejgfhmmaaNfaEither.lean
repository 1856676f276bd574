/-
  nfa's either, by contract.
-/
import Derived.Test.YtlmjijejgfhmmaaNfaThen
namespace Go.Proofs.Ytlmjijejgfhmmaa
open Go.RowKit
set_option linter.unusedVariables false

/-- Two parts, as they lie. -/
def Ab (w : World) (s : Nat) (a b : Prt) : Prop := Blk w s 61 (partC a) ∧ Blk w (s + 1) 61 (partC b)
theorem Ab.six {w : World} {s : Nat} {a b : Prt} (h : Ab w s a b) : w.cell? ⟨s, 0, none⟩ = some (.bool a.e) ∧ w.cell? ⟨s + 1, 0, none⟩ = some (.bool b.e) ∧ w.cell? ⟨s, 1, none⟩ = some (.int .i64 (a.f : Int)) ∧
    w.cell? ⟨s + 1, 1, none⟩ = some (.int .i64 (b.f : Int)) ∧ w.cell? ⟨s, 2, none⟩ = some (.int .i64 (a.l : Int)) ∧ w.cell? ⟨s + 1, 2, none⟩ = some (.int .i64 (b.l : Int)) :=
  ⟨h.1.cell 0, h.2.cell 0, h.1.cell 1, h.2.cell 1, h.1.cell 2, h.2.cell 2⟩
theorem Loc.ab {w : World} {s : Nat} {a b : Prt} (h : Loc w s a b) : Ab w s a b := ⟨h.a, h.b⟩
theorem Ab.three {w : World} {s : Nat} {a b : Prt} (h : Ab w s a b) (u0 u1 u2 : Value) : Ab (((w.setCell ⟨s + 1 + 1, 0, none⟩ u0).setCell ⟨s + 1 + 1, 1, none⟩ u1).setCell ⟨s + 1 + 1, 2, none⟩ u2) s a b :=
  ⟨((h.1.far (by simp; omega) u0).far (by simp; omega) u1).far (by simp; omega) u2, ((h.2.far (by simp) u0).far (by simp) u1).far (by simp) u2⟩
set_option maxHeartbeats 4000000 in
theorem either_part {lo g : Nat} {v3 v4 v5 : Value} {T : TbD} (a b : Prt) {P1 P2 Q1 Q2 : List Nat} (haf : T.groups[a.f]? = some P1) (hal : T.groups[a.l]? = some P2) (hbf : T.groups[b.f]? = some Q1) (hbl : T.groups[b.l]? = some Q2) {w : World} (ht : Tab w lo g v3 v4 v5 T)
    (hlo : lo ≤ w.heap.size) (hn : T.groups.length < 999999) (l1 : P1.length ≤ 1000000) (l2 : P2.length ≤ 1000000) (l3 : Q1.length ≤ 1000000) (l4 : Q2.length ≤ 1000000) :
    Calls Try.prog 38 #[.pointer (some ⟨g, 0, none⟩), partV a, partV b] w (PartPost lo g v3 v4 v5 (eitherF a b T) w) := by
  obtain ⟨w2, hw2⟩ : ∃ w2, ((w.alloc (.cells (partC a) 61)).alloc (.cells (partC b) 61)).alloc (.cells prt0 61) = w2 := ⟨_, rfl⟩
  have hb : Below w.heap.size w w2 := by rw [← hw2]; exact (((Below.refl _ _).alloc (Nat.le_refl _) _).alloc (by simp) _).alloc (by simp; omega) _
  have hc : Loc w2 w.heap.size a b := by
    rw [← hw2]
    exact ⟨((Blk.new _ _ _).alloc _).alloc _, (Blk.new_at _ _ _ _ (by simp)).alloc _, Blk.new_at _ _ _ _ (by simp)⟩
  have HU1 : Hid (UnionAt lo g v3 v4 v5 T a.f b.f) := keepHid (union_at haf hbf (by omega) l1 l3)
  have HU2 : Hid (UnionAt lo g v3 v4 v5 (unionF a.f b.f T).2 a.l b.l) := keepHid (by
    obtain ⟨u, _⟩ := up_union (T := T) (m := 2000000) haf hbf (by rw [List.length_append]; omega)
    obtain ⟨gs, e1, e2, _⟩ := u.groups
    exact union_at (u.keep hal) (u.keep hbl) (by rw [e1, List.length_append]; omega) l2 l4)
  unfold UnionAt at HU1 HU2
  have HLO2 : Hid (lo ≤ w2.drew.heap.size) := keepHid (Nat.le_trans hlo hb.size)
  have HC : Hid (Loc w2.drew w.heap.size a b) := keepHid (hc.tn (lo := lo) (Tn.refl _ _).drew)
  have HB : Hid (Tn lo w w2.drew) := keepHid (Tn.of_below hb.drew)
  have HT : Hid (Tab w2.drew lo g v3 v4 v5 T) := keepHid ((ht.keep hb).keep (Below.drew (Below.refl _ _)))
  have HW := keepHid hw2
  have HAB := keepHid hc.ab
  clear hc hb hw2 ht hlo hn l1 l2 l3 l4 haf hal hbf hbl
  unfold partC prt0 at HW
  unfold partV at *
  obtain ⟨ae, af, al⟩ := a
  obtain ⟨be, bf, bl⟩ := b
  simp only at HU1 HU2 HW ⊢
  have HEND : Hid (∀ (w' : World) (e : Bool) (f l : Nat) (T' : TbD), Tab w' lo g v3 v4 v5 T' → Tn lo w w' → Loc w' w.heap.size ⟨ae, af, al⟩ ⟨be, bf, bl⟩ → (⟨e, f, l⟩, T') = eitherF ⟨ae, af, al⟩ ⟨be, bf, bl⟩ T →
      PartPost lo g v3 v4 v5 (eitherF ⟨ae, af, al⟩ ⟨be, bf, bl⟩ T) w (.returned (.agg #[.bool e, .int .i64 (f : Int), .int .i64 (l : Int)])) (((w'.setCell ⟨w.heap.size + 1 + 1, 0, none⟩ (.bool e)).setCell ⟨w.heap.size + 1 + 1, 1, none⟩ (.int .i64 (f : Int))).setCell ⟨w.heap.size + 1 + 1, 2, none⟩ (.int .i64 (l : Int)))) := keepHid (fun w' e f l T' h1 h2 h3 he => by
    rw [← he]
    exact ⟨rfl, part_fin h1 h2 h3.r (by omega) _ _ _⟩)
  generalize hT1 : (unionF af bf T).2 = T1 at *
  generalize hN : (unionF af bf T).1 = N at *
  generalize hT2 : (unionF al bl T1).2 = T2 at *
  generalize hM : (unionF al bl T1).1 = M at *
  have HE : Hid (eitherF ⟨ae, af, al⟩ ⟨be, bf, bl⟩ T = (⟨ae || be, N, M⟩, T2)) := keepHid (by unfold eitherF; simp only; rw [hT1, hN, hM, hT2])
  clear hT1 hN hT2 hM
  cases ae
  · go_enter Try.func38, Try.ntmps38
    go_wp2
    rw [HW.out]
    go_region_held3 (fun w' => w'.cell? ⟨w.heap.size, 0, none⟩ = some (.bool false) ∧ w'.cell? ⟨w.heap.size + 1, 0, none⟩ = some (.bool be) ∧ w'.cell? ⟨w.heap.size, 1, none⟩ = some (.int .i64 (af : Int)) ∧ w'.cell? ⟨w.heap.size + 1, 1, none⟩ = some (.int .i64 (bf : Int)) ∧ w'.cell? ⟨w.heap.size, 2, none⟩ = some (.int .i64 (al : Int)) ∧ w'.cell? ⟨w.heap.size + 1, 2, none⟩ = some (.int .i64 (bl : Int)))
      (first | exact Ab.six HAB.out | exact Ab.six HAB3.out | exact Ab.six HAB4.out | exact Ab.six (Ab.three HAB4.out _ _ _))
      (first | ((with_reducible refine (HU1.out _ HT.out HLO2.out).mono ?_); rintro e w3 ⟨rfl, ht3, hn3⟩; have HL3 := keepHid (HC.out.tn hn3); have HAB3 := keepHid HL3.out.ab; have HT3 := keepHid ht3; have HN3 := keepHid (HB.out.trans hn3); have HLO3 := keepHid (Nat.le_trans HLO2.out hn3.size); clear ht3 hn3) | ((with_reducible refine (HU2.out _ HT3.out HLO3.out).mono ?_); rintro e w4 ⟨rfl, ht4, hn4⟩; have HL4 := keepHid (HL3.out.tn hn4); have HAB4 := keepHid HL4.out.ab; have HT4 := keepHid ht4; have HN4 := keepHid (HN3.out.trans hn4); clear ht4 hn4; obtain ⟨r0, r1, r2, rf⟩ := blk3 (show Blk w4 _ _ #[.bool false, .int .i64 0, .int .i64 0] from HL4.out.r)))
    all_goals
      have HEE := keepHid (HEND.out _ _ _ _ _ HT4.out HN4.out HL4.out HE.out.symm)
      go_wp2
      refine bodyPost_ret (v := .agg #[.bool be, .int .i64 (N : Int), .int .i64 (M : Int)]) ?_ rfl HEE.out
      rw [results_cell_one rfl]
      go_simp
  · go_enter Try.func38, Try.ntmps38
    go_wp2
    rw [HW.out]
    refine wp_region_held_drew (S := (fun w' => w'.cell? ⟨w.heap.size, 0, none⟩ = some (.bool true) ∧ w'.cell? ⟨w.heap.size + 1, 0, none⟩ = some (.bool be) ∧ w'.cell? ⟨w.heap.size, 1, none⟩ = some (.int .i64 (af : Int)) ∧ w'.cell? ⟨w.heap.size + 1, 1, none⟩ = some (.int .i64 (bf : Int)) ∧ w'.cell? ⟨w.heap.size, 2, none⟩ = some (.int .i64 (al : Int)) ∧ w'.cell? ⟨w.heap.size + 1, 2, none⟩ = some (.int .i64 (bl : Int)))) (by kernel_rfl) (Ab.six HAB.out) (fun hHeld => ?_)
    refine wpAnyH_take (i := 0) (v := ?v0) rfl (by kernel_rfl) (by kernel_rfl) (by kernel_rfl) (fun _ _ _ h => h) (Or.inl ⟨by rfl, ?hy0⟩) (by assumption) ?rest0
    case hy0 => (intro w hSw; try dsimp only at hSw); go_simp; first | done | (with_reducible rfl)
    try simp only [Act.put]
    refine wpAnyH_take (i := 1) (v := ?v1) rfl (by kernel_rfl) (by kernel_rfl) (by kernel_rfl) (fun _ _ _ h => h) (Or.inl ⟨by rfl, ?hy1⟩) (by assumption) ?rest1
    case hy1 => (intro w hSw; try dsimp only at hSw); go_simp; first | done | (with_reducible rfl)
    try simp only [Act.put]
    refine wpAnyH_take (i := 2) (v := ?v2) rfl (by kernel_rfl) (by kernel_rfl) (by kernel_rfl) (fun _ _ _ h => h) (Or.inl ⟨by rfl, ?hy2⟩) (by assumption) ?rest2
    case hy2 => (intro w hSw; try dsimp only at hSw); go_simp; first | done | (with_reducible rfl)
    try simp only [Act.put]
    refine wpAnyH_take (i := 3) (v := undef) rfl (by kernel_rfl) (by kernel_rfl) (by kernel_rfl) (fun _ _ _ h => h) (Or.inr ⟨by rfl, rfl⟩) (by assumption) ?rest3
    try simp only [Act.put]
    refine wpAnyH_take (i := 4) (v := undef) rfl (by kernel_rfl) (by kernel_rfl) (by kernel_rfl) (fun _ _ _ h => h) (Or.inr ⟨by rfl, rfl⟩) (by assumption) ?rest4
    try simp only [Act.put]
    refine wpAnyH_take (i := 5) (v := ?v5) rfl (by kernel_rfl) (by kernel_rfl) (by kernel_rfl) (fun _ _ _ h => h) (Or.inl ⟨by rfl, ?hy5⟩) (by assumption) ?rest5
    case hy5 => (intro w hSw; try dsimp only at hSw); go_simp; first | done | (with_reducible rfl)
    try simp only [Act.put]
    refine wpAnyH_take (i := 6) (v := ?v6) rfl (by kernel_rfl) (by kernel_rfl) (by kernel_rfl) (fun _ _ _ h => h) (Or.inl ⟨by rfl, ?hy6⟩) (by assumption) ?rest6
    case hy6 => (intro w hSw; try dsimp only at hSw); go_simp; first | done | (with_reducible rfl)
    try simp only [Act.put]
    refine wpAnyH_take (i := 7) (v := ?v7) rfl (by kernel_rfl) (by kernel_rfl) (by kernel_rfl) (fun _ _ _ h => h) (Or.inl ⟨by rfl, ?hy7⟩) (by assumption) ?rest7
    case hy7 => (intro w hSw; try dsimp only at hSw); go_simp; first | done | (with_reducible rfl)
    try simp only [Act.put]
    refine wpAnyH_take (i := 8) (v := ?v8) rfl (by kernel_rfl) (by kernel_rfl) (by kernel_rfl) (fun _ _ _ h => h) (Or.inl ⟨by rfl, ?hy8⟩) (by assumption) ?rest8
    case hy8 => (intro w hSw; try dsimp only at hSw); go_simp; first | done | (with_reducible rfl)
    try simp only [Act.put]
    refine wpAnyH_take (i := 9) (v := ?v9) rfl (by kernel_rfl) (by kernel_rfl) (by kernel_rfl) (fun _ _ _ h => h) (Or.inl ⟨by rfl, ?hy9⟩) (by assumption) ?rest9
    case hy9 => (intro w hSw; try dsimp only at hSw); go_simp; first | done | (with_reducible rfl)
    try simp only [Act.put]
    refine wpAnyH_take (i := 10) (v := ?v10) rfl (by kernel_rfl) (by kernel_rfl) (by kernel_rfl) (fun _ _ _ h => h) (Or.inl ⟨by rfl, ?hy10⟩) (by assumption) ?rest10
    case hy10 => (intro w hSw; try dsimp only at hSw); go_simp; first | done | (with_reducible rfl)
    try simp only [Act.put]
    refine wpAnyH_take (i := 12) (v := ?v12) rfl (by kernel_rfl) (by kernel_rfl) (by kernel_rfl) (fun _ _ _ h => h) (Or.inl ⟨by rfl, ?hy12⟩) (by assumption) ?rest12
    case hy12 => (intro w hSw; try dsimp only at hSw); go_simp; first | done | (with_reducible rfl)
    try simp only [Act.put]
    refine wpAnyH_take (i := 13) (v := ?v13) rfl (by kernel_rfl) (by kernel_rfl) (by kernel_rfl) (fun _ _ _ h => h) (Or.inl ⟨by rfl, ?hy13⟩) (by assumption) ?rest13
    case hy13 => (intro w hSw; try dsimp only at hSw); go_simp; first | done | (with_reducible rfl)
    try simp only [Act.put]
    refine wpAnyH_take (i := 14) (v := ?v14) rfl (by kernel_rfl) (by kernel_rfl) (by kernel_rfl) (fun _ _ _ h => h) (Or.inl ⟨by rfl, ?hy14⟩) (by assumption) ?rest14
    case hy14 => (intro w hSw; try dsimp only at hSw); go_simp; first | done | (with_reducible rfl)
    try simp only [Act.put]
    refine wpAnyH_take (i := 15) (v := ?v15) rfl (by kernel_rfl) (by kernel_rfl) (by kernel_rfl) (fun _ _ _ h => h) (Or.inl ⟨by rfl, ?hy15⟩) (by assumption) ?rest15
    case hy15 => (intro w hSw; try dsimp only at hSw); go_simp; first | done | (with_reducible rfl)
    try simp only [Act.put]
    refine wpAnyH_take (i := 16) (v := ?v16) rfl (by kernel_rfl) (by kernel_rfl) (by kernel_rfl) (fun _ _ _ h => h) (Or.inl ⟨by rfl, ?hy16⟩) (by assumption) ?rest16
    case hy16 => (intro w hSw; try dsimp only at hSw); go_simp; first | done | (with_reducible rfl)
    try simp only [Act.put]
    clear hHeld
    refine wpAnyH_ready (rs := [11]) (by kernel_rfl) (by simp) ?_
    refine AllReadyH.cons rfl (fun K hK => ?_) AllReadyH.nil
    go_simp
    (with_reducible refine (HU1.out _ HT.out HLO2.out).mono ?_)
    rintro e w3 ⟨rfl, ht3, hn3⟩
    have HL3 := keepHid (HC.out.tn hn3)
    have HAB3 := keepHid HL3.out.ab
    have HT3 := keepHid ht3
    have HN3 := keepHid (HB.out.trans hn3)
    have HLO3 := keepHid (Nat.le_trans HLO2.out hn3.size)
    clear ht3 hn3
    go_wp2_with fail
    refine hK.out _ _ (Ab.six HAB3.out) (fun hHeld => ?_)
    clear hK K
    try simp only [Act.put]
    refine wpAnyH_ready (rs := [17]) (by kernel_rfl) (by simp) ?_
    refine AllReadyH.cons rfl (fun K hK => ?_) AllReadyH.nil
    clear hHeld
    go_simp
    (with_reducible refine (HU2.out _ HT3.out HLO3.out).mono ?_)
    rintro e w4 ⟨rfl, ht4, hn4⟩
    have HL4 := keepHid (HL3.out.tn hn4)
    have HAB4 := keepHid HL4.out.ab
    have HT4 := keepHid ht4
    have HN4 := keepHid (HN3.out.trans hn4)
    clear ht4 hn4
    go_wp2_with fail
    refine hK.out _ _ (Ab.six HAB4.out) (fun hHeld => ?_)
    clear hK K
    try simp only [Act.put]
    refine wpAnyH_take (i := 18) (v := ?v18) rfl (by kernel_rfl) (by kernel_rfl) (by kernel_rfl) (fun _ _ _ h => h) (Or.inl ⟨by rfl, ?hy18⟩) (by assumption) ?rest18
    case hy18 => (intro w hSw; try dsimp only at hSw); go_simp; first | done | (with_reducible rfl)
    try simp only [Act.put]
    obtain ⟨r0, r1, r2, rf⟩ := blk3 (show Blk w4 _ _ #[.bool false, .int .i64 0, .int .i64 0] from HL4.out.r)
    refine wpAnyH_ready (rs := [19]) (by kernel_rfl) (by simp) ?_
    refine AllReadyH.cons rfl (fun K hK => ?_) AllReadyH.nil
    clear hHeld
    go_simp
    refine hK.out _ _ (Ab.six (Ab.three HAB4.out _ _ _)) (fun hHeld => ?_)
    clear hK K hHeld
    try simp only [Act.put]
    refine wpAnyH_done (by kernel_rfl) ?_ _
    have HEE := keepHid (HEND.out _ _ _ _ _ HT4.out HN4.out HL4.out HE.out.symm)
    go_wp2
    refine bodyPost_ret (v := .agg #[.bool true, .int .i64 (N : Int), .int .i64 (M : Int)]) ?_ rfl HEE.out
    rw [results_cell_one rfl]
    go_simp
end Go.Proofs.Ytlmjijejgfhmmaa
