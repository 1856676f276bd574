/-
  nfa's add, by contract: two parts, one behind the other.
-/
import Derived.Test.YtlmjijejgfhmmaaNfaAdd
import Derived.Deep.RegionHeld3
namespace Go.Proofs.Ytlmjijejgfhmmaa
open Go.RowKit
set_option linter.unusedVariables false

theorem sm_sub {T T' : TbD} (h : Sm T') (h1 : T.sets = T'.sets) (h2 : ∃ gs, T'.groups = T.groups ++ gs) (h3 : ∃ ls, T'.leads = T.leads ++ ls) : Sm T := by
  obtain ⟨gs, e1⟩ := h2
  obtain ⟨ls, e2⟩ := h3
  refine ⟨by rw [h1]; exact h.sets, ?_, ?_, fun q hq => h.rows q (by rw [e1]; exact List.mem_append_left _ hq)⟩
  · have := h.groups; rw [e1, List.length_append] at this; omega
  · have := h.leads; rw [e2, List.length_append] at this; omega
theorem unionIf_sub (c : Bool) (a b d : Nat) (T : TbD) : (unionIf c a b d T).2.sets = T.sets ∧ (unionIf c a b d T).2.leads = T.leads ∧ ∃ gs, (unionIf c a b d T).2.groups = T.groups ++ gs := by
  cases c
  · exact ⟨rfl, rfl, [], by simp [unionIf]⟩
  · exact ⟨rfl, rfl, _, rfl⟩
theorem sm_then {p q : Prt} {T : TbD} (h : Sm (thenF p q T).2) : Sm T := by
  obtain ⟨a1, a2, gs, a3⟩ := unionIf_sub p.e p.f q.f p.f (leadF p q T)
  obtain ⟨b1, b2, gt, b3⟩ := unionIf_sub q.e p.l q.l q.l (unionIf p.e p.f q.f p.f (leadF p q T)).2
  refine sm_sub h ?_ ⟨gs ++ gt, ?_⟩ ⟨[(p.l, q.f)], ?_⟩
  · show T.sets = (unionIf q.e p.l q.l q.l (unionIf p.e p.f q.f p.f (leadF p q T)).2).2.sets
    rw [b1, a1]; rfl
  · show (unionIf q.e p.l q.l q.l (unionIf p.e p.f q.f p.f (leadF p q T)).2).2.groups = _
    rw [b3, a3]; simp [leadF]
  · show (unionIf q.e p.l q.l q.l (unionIf p.e p.f q.f p.f (leadF p q T)).2).2.leads = _
    rw [b2, a2]; rfl
theorem sm_either {p q : Prt} {T : TbD} (h : Sm (eitherF p q T).2) : Sm T :=
  sm_sub h rfl ⟨[T.grp p.f ++ T.grp q.f, (unionF p.f q.f T).2.grp p.l ++ (unionF p.f q.f T).2.grp q.l], by simp [eitherF, unionF, TbD.push]⟩ ⟨[], by simp [eitherF, unionF, TbD.push]⟩
/-- A node's own variable, and a part's. -/
def Nb (w : World) (s C : Nat) (k : Int) (G c : Nat) (pe : Bool) (pf pl : Nat) : Prop := Blk w s 30 #[.int .i64 k, .int .u64 0, .int .u64 0, .int .u64 0, .int .u64 0, .slice (some ⟨G, 0, none⟩) 2 c] ∧ Blk w C 61 #[.bool pe, .int .i64 (pf : Int), .int .i64 (pl : Int)]
theorem Nb.nine {w : World} {s C : Nat} {k : Int} {G c : Nat} {pe : Bool} {pf pl : Nat} (h : Nb w s C k G c pe pf pl) : w.cell? ⟨s, 0, none⟩ = some (.int .i64 k) ∧ w.cell? ⟨s, 1, none⟩ = some (.int .u64 0) ∧ w.cell? ⟨s, 2, none⟩ = some (.int .u64 0) ∧ w.cell? ⟨s, 3, none⟩ = some (.int .u64 0) ∧ w.cell? ⟨s, 4, none⟩ = some (.int .u64 0) ∧
    w.cell? ⟨s, 5, none⟩ = some (.slice (some ⟨G, 0, none⟩) 2 c) ∧ w.cell? ⟨C, 0, none⟩ = some (.bool pe) ∧ w.cell? ⟨C, 1, none⟩ = some (.int .i64 (pf : Int)) ∧ w.cell? ⟨C, 2, none⟩ = some (.int .i64 (pl : Int)) :=
  ⟨h.1.cell 0, h.1.cell 1, h.1.cell 2, h.1.cell 3, h.1.cell 4, h.1.cell 5, h.2.cell 0, h.2.cell 1, h.2.cell 2⟩
theorem Nb.tn {lo : Nat} {w w' : World} {s C : Nat} {k : Int} {G c : Nat} {pe : Bool} {pf pl : Nat} (h : Nb w s C k G c pe pf pl) (t : Tn lo w w') : Nb w' s C k G c pe pf pl := ⟨t.blk h.1 (by decide), t.blk h.2 (by decide)⟩
theorem Nb.three {w : World} {s C : Nat} {k : Int} {G c : Nat} {pe : Bool} {pf pl : Nat} (h : Nb w s C k G c pe pf pl) (hC : s + 1 < C) (u0 u1 u2 : Value) : Nb (((w.setCell ⟨s + 1, 0, none⟩ u0).setCell ⟨s + 1, 1, none⟩ u1).setCell ⟨s + 1, 2, none⟩ u2) s C k G c pe pf pl :=
  ⟨((h.1.far (by simp) u0).far (by simp) u1).far (by simp) u2, ((h.2.far (by simp; omega) u0).far (by simp; omega) u1).far (by simp; omega) u2⟩
set_option maxHeartbeats 4000000 in
theorem add_thn {a b : Re} (HA : AddAt a) (HB0 : AddAt b) : AddAt (.thn a b) := by
  intro lo g v3 v4 v5 T h w ht hlo hi hs
  obtain ⟨G, c, x, y, rfl, hc1, hcm, hG, hx, hy, hix, hiy⟩ := hi
  have hgb := add_grown b (addF a T).2
  have hga := add_grown a T
  rw [show addF (.thn a b) T = thenF (addF a T).1 (addF b (addF a T).2).1 (addF b (addF a T).2).2 from rfl] at *
  have haf := hgb.up.keep hga.f
  have hal := hgb.up.keep hga.l
  have hbf := hgb.f
  have hbl := hgb.l
  have hsm : Sm (addF b (addF a T).2).2 := by
    exact sm_then hs
  have hsa : Sm (addF a T).2 := hsm.up hgb.up
  have hl : (addF b (addF a T).2).2.leads.length < 1000000 := by have := hsm.leads; omega
  have hg2 : (addF b (addF a T).2).2.groups.length < 999999 := by have := hsm.groups; omega
  have q1 := Nat.le_trans (hsm.row haf) (show 900000 ≤ 1000000 by omega)
  have q2 := Nat.le_trans (hsm.row hal) (show 900000 ≤ 1000000 by omega)
  have q3 := Nat.le_trans (hsm.row hbf) (show 900000 ≤ 1000000 by omega)
  have q4 := Nat.le_trans (hsm.row hbl) (show 900000 ≤ 1000000 by omega)
  obtain ⟨w2, hw2⟩ : ∃ w2, (w.alloc (.cells #[.int .i64 2, .int .u64 0, .int .u64 0, .int .u64 0, .int .u64 0, .slice (some ⟨G, 0, none⟩) 2 c] 30)).alloc (.cells #[.bool false, .int .i64 0, .int .i64 0] 61) = w2 := ⟨_, rfl⟩
  have hb2 : Below w.heap.size w w2 := by rw [← hw2]; exact ((Below.refl _ _).alloc (Nat.le_refl _) _).alloc (by simp) _
  have kn : Blk w2 w.heap.size 30 #[.int .i64 2, .int .u64 0, .int .u64 0, .int .u64 0, .int .u64 0, .slice (some ⟨G, 0, none⟩) 2 c] := by rw [← hw2]; exact (Blk.new _ _ _).alloc _
  have HK : Hid (Blk w2 (w.heap.size + 1) 61 #[.bool false, .int .i64 0, .int .i64 0]) := keepHid (by rw [← hw2]; exact Blk.new_at _ _ _ _ (by simp))
  have HKID := keepHid (kid0_any 2 st0 G 2 c x w2 (by omega) (hx.keep (hb2.block G hx.lt)))
  have HB := keepHid hb2
  have HW := keepHid hw2
  have HN2 := keepHid kn
  have HA' : Hid (∀ w3, Below w2.heap.size w2 w3 → Calls Try.prog 22 #[.pointer (some ⟨g, 0, none⟩), hdV x] w3 (PartPost lo g v3 v4 v5 (addF a T) w3)) := keepHid (fun w3 hb3 => by
    have hw3 := hb2.trans (hb3.mono hb2.size)
    exact HA lo g v3 v4 v5 T x w3 (ht.keep hw3) (Nat.le_trans hlo hw3.size) (hix.keep fun i hi hl => hw3.block i (by omega)) hsa)
  have HKID2 : Hid (∀ w4, Tn lo w w4 → Calls Try.prog 36 #[hdV ⟨2, st0, some ⟨G, 0, none⟩, 2, c⟩, .int .i64 1] w4 fun e w' => e = .returned (hdV y) ∧ Below w4.heap.size w4 w') := keepHid (fun w4 h4 =>
    kid1_any 2 st0 G 2 c y w4 (by omega) (hy.keep (h4.block G hy.lt fun hm => by have := hm.1; omega)))
  have HA2 : Hid (∀ w5, Tab w5 lo g v3 v4 v5 (addF a T).2 → Tn lo w w5 → Calls Try.prog 22 #[.pointer (some ⟨g, 0, none⟩), hdV y] w5 (PartPost lo g v3 v4 v5 (addF b (addF a T).2) w5)) := keepHid (fun w5 h5 t5 =>
    HB0 lo g v3 v4 v5 (addF a T).2 y w5 h5 (Nat.le_trans hlo t5.size) (IsRe.tn hiy t5 (fun _ hg => hg)) hsm)
  have HS : Hid (∀ w6, Tab w6 lo g v3 v4 v5 (addF b (addF a T).2).2 → Tn lo w w6 → Calls Try.prog 37 #[.pointer (some ⟨g, 0, none⟩), partV (addF a T).1, partV (addF b (addF a T).2).1] w6 (PartPost lo g v3 v4 v5 (thenF (addF a T).1 (addF b (addF a T).2).1 (addF b (addF a T).2).2) w6)) := keepHid (fun w6 h6 t6 =>
    then_part _ _ haf hal hbf hbl h6 (Nat.le_trans hlo t6.size) hg2 hl q1 q2 q3 q4)
  obtain ⟨n0, n1, n2, n3, n4, n5, nf⟩ := blk6 kn
  generalize thenF (addF a T).1 (addF b (addF a T).2).1 (addF b (addF a T).2).2 = R at *
  generalize addF b (addF a T).2 = Rb at *
  generalize addF a T = Ra at *
  clear ht hlo hs hw2 hb2 kn hga hgb hsm hsa hl hg2 q1 q2 q3 q4 haf hal hbf hbl hx hy hix hiy
  rw [hdV_st0]
  rw [hdV_st0] at HKID HKID2
  obtain ⟨⟨pe, pf, pl⟩, Ta⟩ := Ra
  simp only at *
  go_enter Try.func22, Try.ntmps22
  go_wp2_with fail
  rw [HW.out]
  go_wp2_with fail
  with_reducible refine HKID.out.mono ?_
  rintro e w3 ⟨rfl, hb3⟩
  have HA3 := keepHid (HA'.out w3 hb3)
  have HB3 := keepHid hb3
  clear hb3
  go_wp2_with fail
  with_reducible refine HA3.out.mono ?_
  rintro e w4 ⟨rfl, ht4, hn4⟩
  obtain ⟨w5, hw5⟩ : ∃ w5, w4.alloc (.cells #[.bool pe, .int .i64 (pf : Int), .int .i64 (pl : Int)] 61) = w5 := ⟨_, rfl⟩
  have hb45 : Below w4.heap.size w4 w5 := by rw [← hw5]; exact (Below.refl _ _).alloc (Nat.le_refl _) _
  have HN5 := keepHid (((Tn.of_below (HB.out.trans (HB3.out.mono HB.out.size))).trans hn4).trans (Tn.of_below hb45))
  have HK5 := keepHid ((hn4.blk (HK.out.below HB3.out HK.out.lt) (by decide)).below hb45 (hn4.blk (HK.out.below HB3.out HK.out.lt) (by decide)).lt)
  have HNB5 := keepHid ((hn4.blk (HN2.out.below HB3.out HN2.out.lt) (by decide)).below hb45 (hn4.blk (HN2.out.below HB3.out HN2.out.lt) (by decide)).lt)
  have HP5 : Hid (Blk w5 w4.heap.size 61 #[.bool pe, .int .i64 (pf : Int), .int .i64 (pl : Int)]) := keepHid (by rw [← hw5]; exact Blk.new _ _ _)
  have HT5 := keepHid (Tab.keep ht4 hb45)
  have hlt : w.heap.size + 1 < w4.heap.size := by have := HK.out.lt; have := HB3.out.size; have := hn4.size; omega
  have HLT := keepHid hlt
  clear ht4 hn4 n0 n1 n2 n3 n4 n5 hb45 hlt nf
  unfold partV
  go_upto_region 6 with fail
  clear hw5
  generalize w4.heap.size = C at *
  have HB5 : Hid (Nb w5.drew w.heap.size C 2 G c pe pf pl) := keepHid ⟨HNB5.out, HP5.out⟩
  have HN5' : Hid (Tn lo w w5.drew) := keepHid HN5.out.drew
  have HT5' : Hid (Tab w5.drew lo g v3 v4 v5 Ta) := keepHid (HT5.out.keep (Below.drew (Below.refl _ _)))
  have HR5 : Hid (Blk w5.drew (w.heap.size + 1) 61 #[.bool false, .int .i64 0, .int .i64 0]) := keepHid HK5.out
  have e1 : partV ⟨pe, pf, pl⟩ = .agg #[.bool pe, .int .i64 (pf : Int), .int .i64 (pl : Int)] := rfl
  rw [e1] at HS
  clear e1 HNB5 HP5 HN5 HT5 HK5
  go_region_held3 (fun w' => w'.cell? ⟨w.heap.size, 0, none⟩ = some (.int .i64 2) ∧ w'.cell? ⟨w.heap.size, 1, none⟩ = some (.int .u64 0) ∧ w'.cell? ⟨w.heap.size, 2, none⟩ = some (.int .u64 0) ∧ w'.cell? ⟨w.heap.size, 3, none⟩ = some (.int .u64 0) ∧ w'.cell? ⟨w.heap.size, 4, none⟩ = some (.int .u64 0) ∧ w'.cell? ⟨w.heap.size, 5, none⟩ = some (.slice (some ⟨G, 0, none⟩) 2 c) ∧ w'.cell? ⟨C, 0, none⟩ = some (.bool pe) ∧ w'.cell? ⟨C, 1, none⟩ = some (.int .i64 (pf : Int)) ∧ w'.cell? ⟨C, 2, none⟩ = some (.int .i64 (pl : Int))) (first | exact HB5.out.nine | exact HB6.out.nine | exact HB7.out.nine | exact HB8.out.nine | exact (HB8.out.three HLT.out _ _ _).nine) (first | (go_at_call 36; (with_reducible refine (HKID2.out _ HN5'.out).mono ?_); rintro e w6 ⟨rfl, hb6⟩; have HB6 := keepHid (HB5.out.tn (lo := lo) (Tn.of_below hb6)); have HN6 := keepHid (HN5'.out.trans (Tn.of_below hb6)); have HT6 := keepHid (HT5'.out.keep hb6); have HR6 := keepHid (HR5.out.below hb6 HR5.out.lt); clear hb6) | (go_at_call 22; (with_reducible refine (HA2.out _ HT6.out HN6.out).mono ?_); rintro e w7 ⟨rfl, ht7, hn7⟩; have HB7 := keepHid (HB6.out.tn hn7); have HN7 := keepHid (HN6.out.trans hn7); have HT7 := keepHid ht7; have HR7 := keepHid (hn7.blk HR6.out (by decide)); clear ht7 hn7) | (go_at_call 37; (with_reducible refine (HS.out _ HT7.out HN7.out).mono ?_); rintro e w8 ⟨rfl, ht8, hn8⟩; unfold partV; have HB8 := keepHid (HB7.out.tn hn8); have HR8 := keepHid (hn8.blk HR7.out (by decide)); have HE := keepHid (add_end ht8 (HN7.out.trans hn8) HR8.out (Nat.le_succ _)); clear ht8 hn8; obtain ⟨z0, z1, z2, zf⟩ := blk3 HR8.out))
  all_goals
    go_wp2
    refine bodyPost_ret (v := .agg #[.bool R.1.e, .int .i64 (R.1.f : Int), .int .i64 (R.1.l : Int)]) ?_ rfl HE.out
    rw [results_cell_one rfl]
    go_simp


set_option maxHeartbeats 4000000 in
theorem add_alt {a b : Re} (HA : AddAt a) (HB0 : AddAt b) : AddAt (.alt a b) := by
  intro lo g v3 v4 v5 T h w ht hlo hi hs
  obtain ⟨G, c, x, y, rfl, hc1, hcm, hG, hx, hy, hix, hiy⟩ := hi
  have hgb := add_grown b (addF a T).2
  have hga := add_grown a T
  rw [show addF (.alt a b) T = eitherF (addF a T).1 (addF b (addF a T).2).1 (addF b (addF a T).2).2 from rfl] at *
  have haf := hgb.up.keep hga.f
  have hal := hgb.up.keep hga.l
  have hbf := hgb.f
  have hbl := hgb.l
  have hsm : Sm (addF b (addF a T).2).2 := by
    exact sm_either hs
  have hsa : Sm (addF a T).2 := hsm.up hgb.up
  have hg2 : (addF b (addF a T).2).2.groups.length < 999999 := by have := hsm.groups; omega
  have q1 := Nat.le_trans (hsm.row haf) (show 900000 ≤ 1000000 by omega)
  have q2 := Nat.le_trans (hsm.row hal) (show 900000 ≤ 1000000 by omega)
  have q3 := Nat.le_trans (hsm.row hbf) (show 900000 ≤ 1000000 by omega)
  have q4 := Nat.le_trans (hsm.row hbl) (show 900000 ≤ 1000000 by omega)
  obtain ⟨w2, hw2⟩ : ∃ w2, (w.alloc (.cells #[.int .i64 3, .int .u64 0, .int .u64 0, .int .u64 0, .int .u64 0, .slice (some ⟨G, 0, none⟩) 2 c] 30)).alloc (.cells #[.bool false, .int .i64 0, .int .i64 0] 61) = w2 := ⟨_, rfl⟩
  have hb2 : Below w.heap.size w w2 := by rw [← hw2]; exact ((Below.refl _ _).alloc (Nat.le_refl _) _).alloc (by simp) _
  have kn : Blk w2 w.heap.size 30 #[.int .i64 3, .int .u64 0, .int .u64 0, .int .u64 0, .int .u64 0, .slice (some ⟨G, 0, none⟩) 2 c] := by rw [← hw2]; exact (Blk.new _ _ _).alloc _
  have HK : Hid (Blk w2 (w.heap.size + 1) 61 #[.bool false, .int .i64 0, .int .i64 0]) := keepHid (by rw [← hw2]; exact Blk.new_at _ _ _ _ (by simp))
  have HKID := keepHid (kid0_any 3 st0 G 2 c x w2 (by omega) (hx.keep (hb2.block G hx.lt)))
  have HB := keepHid hb2
  have HW := keepHid hw2
  have HN2 := keepHid kn
  have HA' : Hid (∀ w3, Below w2.heap.size w2 w3 → Calls Try.prog 22 #[.pointer (some ⟨g, 0, none⟩), hdV x] w3 (PartPost lo g v3 v4 v5 (addF a T) w3)) := keepHid (fun w3 hb3 => by
    have hw3 := hb2.trans (hb3.mono hb2.size)
    exact HA lo g v3 v4 v5 T x w3 (ht.keep hw3) (Nat.le_trans hlo hw3.size) (hix.keep fun i hi hl => hw3.block i (by omega)) hsa)
  have HKID2 : Hid (∀ w4, Tn lo w w4 → Calls Try.prog 36 #[hdV ⟨3, st0, some ⟨G, 0, none⟩, 2, c⟩, .int .i64 1] w4 fun e w' => e = .returned (hdV y) ∧ Below w4.heap.size w4 w') := keepHid (fun w4 h4 =>
    kid1_any 3 st0 G 2 c y w4 (by omega) (hy.keep (h4.block G hy.lt fun hm => by have := hm.1; omega)))
  have HA2 : Hid (∀ w5, Tab w5 lo g v3 v4 v5 (addF a T).2 → Tn lo w w5 → Calls Try.prog 22 #[.pointer (some ⟨g, 0, none⟩), hdV y] w5 (PartPost lo g v3 v4 v5 (addF b (addF a T).2) w5)) := keepHid (fun w5 h5 t5 =>
    HB0 lo g v3 v4 v5 (addF a T).2 y w5 h5 (Nat.le_trans hlo t5.size) (IsRe.tn hiy t5 (fun _ hg => hg)) hsm)
  have HS : Hid (∀ w6, Tab w6 lo g v3 v4 v5 (addF b (addF a T).2).2 → Tn lo w w6 → Calls Try.prog 38 #[.pointer (some ⟨g, 0, none⟩), partV (addF a T).1, partV (addF b (addF a T).2).1] w6 (PartPost lo g v3 v4 v5 (eitherF (addF a T).1 (addF b (addF a T).2).1 (addF b (addF a T).2).2) w6)) := keepHid (fun w6 h6 t6 =>
    either_part _ _ haf hal hbf hbl h6 (Nat.le_trans hlo t6.size) hg2 q1 q2 q3 q4)
  obtain ⟨n0, n1, n2, n3, n4, n5, nf⟩ := blk6 kn
  generalize eitherF (addF a T).1 (addF b (addF a T).2).1 (addF b (addF a T).2).2 = R at *
  generalize addF b (addF a T).2 = Rb at *
  generalize addF a T = Ra at *
  clear ht hlo hs hw2 hb2 kn hga hgb hsm hsa hg2 q1 q2 q3 q4 haf hal hbf hbl hx hy hix hiy
  rw [hdV_st0]
  rw [hdV_st0] at HKID HKID2
  obtain ⟨⟨pe, pf, pl⟩, Ta⟩ := Ra
  simp only at *
  go_enter Try.func22, Try.ntmps22
  go_wp2_with fail
  rw [HW.out]
  go_wp2_with fail
  with_reducible refine HKID.out.mono ?_
  rintro e w3 ⟨rfl, hb3⟩
  have HA3 := keepHid (HA'.out w3 hb3)
  have HB3 := keepHid hb3
  clear hb3
  go_wp2_with fail
  with_reducible refine HA3.out.mono ?_
  rintro e w4 ⟨rfl, ht4, hn4⟩
  obtain ⟨w5, hw5⟩ : ∃ w5, w4.alloc (.cells #[.bool pe, .int .i64 (pf : Int), .int .i64 (pl : Int)] 61) = w5 := ⟨_, rfl⟩
  have hb45 : Below w4.heap.size w4 w5 := by rw [← hw5]; exact (Below.refl _ _).alloc (Nat.le_refl _) _
  have HN5 := keepHid (((Tn.of_below (HB.out.trans (HB3.out.mono HB.out.size))).trans hn4).trans (Tn.of_below hb45))
  have HK5 := keepHid ((hn4.blk (HK.out.below HB3.out HK.out.lt) (by decide)).below hb45 (hn4.blk (HK.out.below HB3.out HK.out.lt) (by decide)).lt)
  have HNB5 := keepHid ((hn4.blk (HN2.out.below HB3.out HN2.out.lt) (by decide)).below hb45 (hn4.blk (HN2.out.below HB3.out HN2.out.lt) (by decide)).lt)
  have HP5 : Hid (Blk w5 w4.heap.size 61 #[.bool pe, .int .i64 (pf : Int), .int .i64 (pl : Int)]) := keepHid (by rw [← hw5]; exact Blk.new _ _ _)
  have HT5 := keepHid (Tab.keep ht4 hb45)
  have hlt : w.heap.size + 1 < w4.heap.size := by have := HK.out.lt; have := HB3.out.size; have := hn4.size; omega
  have HLT := keepHid hlt
  clear ht4 hn4 n0 n1 n2 n3 n4 n5 hb45 hlt nf
  unfold partV
  go_upto_region 9 with fail
  clear hw5
  generalize w4.heap.size = C at *
  have HB5 : Hid (Nb w5.drew w.heap.size C 3 G c pe pf pl) := keepHid ⟨HNB5.out, HP5.out⟩
  have HN5' : Hid (Tn lo w w5.drew) := keepHid HN5.out.drew
  have HT5' : Hid (Tab w5.drew lo g v3 v4 v5 Ta) := keepHid (HT5.out.keep (Below.drew (Below.refl _ _)))
  have HR5 : Hid (Blk w5.drew (w.heap.size + 1) 61 #[.bool false, .int .i64 0, .int .i64 0]) := keepHid HK5.out
  have e1 : partV ⟨pe, pf, pl⟩ = .agg #[.bool pe, .int .i64 (pf : Int), .int .i64 (pl : Int)] := rfl
  rw [e1] at HS
  clear e1 HNB5 HP5 HN5 HT5 HK5
  go_region_held3 (fun w' => w'.cell? ⟨w.heap.size, 0, none⟩ = some (.int .i64 3) ∧ w'.cell? ⟨w.heap.size, 1, none⟩ = some (.int .u64 0) ∧ w'.cell? ⟨w.heap.size, 2, none⟩ = some (.int .u64 0) ∧ w'.cell? ⟨w.heap.size, 3, none⟩ = some (.int .u64 0) ∧ w'.cell? ⟨w.heap.size, 4, none⟩ = some (.int .u64 0) ∧ w'.cell? ⟨w.heap.size, 5, none⟩ = some (.slice (some ⟨G, 0, none⟩) 2 c) ∧ w'.cell? ⟨C, 0, none⟩ = some (.bool pe) ∧ w'.cell? ⟨C, 1, none⟩ = some (.int .i64 (pf : Int)) ∧ w'.cell? ⟨C, 2, none⟩ = some (.int .i64 (pl : Int))) (first | exact HB5.out.nine | exact HB6.out.nine | exact HB7.out.nine | exact HB8.out.nine | exact (HB8.out.three HLT.out _ _ _).nine) (first | (go_at_call 36; (with_reducible refine (HKID2.out _ HN5'.out).mono ?_); rintro e w6 ⟨rfl, hb6⟩; have HB6 := keepHid (HB5.out.tn (lo := lo) (Tn.of_below hb6)); have HN6 := keepHid (HN5'.out.trans (Tn.of_below hb6)); have HT6 := keepHid (HT5'.out.keep hb6); have HR6 := keepHid (HR5.out.below hb6 HR5.out.lt); clear hb6) | (go_at_call 22; (with_reducible refine (HA2.out _ HT6.out HN6.out).mono ?_); rintro e w7 ⟨rfl, ht7, hn7⟩; have HB7 := keepHid (HB6.out.tn hn7); have HN7 := keepHid (HN6.out.trans hn7); have HT7 := keepHid ht7; have HR7 := keepHid (hn7.blk HR6.out (by decide)); clear ht7 hn7) | (go_at_call 38; (with_reducible refine (HS.out _ HT7.out HN7.out).mono ?_); rintro e w8 ⟨rfl, ht8, hn8⟩; unfold partV; have HB8 := keepHid (HB7.out.tn hn8); have HR8 := keepHid (hn8.blk HR7.out (by decide)); have HE := keepHid (add_end ht8 (HN7.out.trans hn8) HR8.out (Nat.le_succ _)); clear ht8 hn8; obtain ⟨z0, z1, z2, zf⟩ := blk3 HR8.out))
  all_goals
    go_wp2
    refine bodyPost_ret (v := .agg #[.bool R.1.e, .int .i64 (R.1.f : Int), .int .i64 (R.1.l : Int)]) ?_ rfl HE.out
    rw [results_cell_one rfl]
    go_simp
theorem add_any : ∀ r, AddAt r
  | .nil => add_nil
  | .one x => add_one x
  | .thn a b => add_thn (add_any a) (add_any b)
  | .alt a b => add_alt (add_any a) (add_any b)
  | .star a => add_star (add_any a)
end Go.Proofs.Ytlmjijejgfhmmaa
