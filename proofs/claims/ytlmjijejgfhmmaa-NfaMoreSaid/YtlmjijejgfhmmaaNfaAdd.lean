/-
  nfa's add, by contract: the ways that call no add.
-/
import Derived.Test.YtlmjijejgfhmmaaNfaEither
import Derived.Test.YtlmjijejgfhmmaaNfaSet
namespace Go.Proofs.Ytlmjijejgfhmmaa
open Go.RowKit
set_option linter.unusedVariables false

structure Sm (T : TbD) : Prop where
  sets : T.sets.length ≤ 900000
  groups : T.groups.length ≤ 900000
  leads : T.leads.length ≤ 900000
  rows : ∀ q ∈ T.groups, q.length ≤ 900000
theorem Sm.up {T T' : TbD} {os : List St} {k m : Nat} {F : Nat → Nat → Prop} (h : Sm T') (u : Up T T' os k m F) : Sm T := by
  obtain ⟨gs, e1, _⟩ := u.groups
  obtain ⟨ls, e2, _⟩ := u.leads
  refine ⟨?_, ?_, ?_, fun q hq => h.rows q (by rw [e1]; exact List.mem_append_left _ hq)⟩
  · have := h.sets; rw [u.sets, List.length_append] at this; omega
  · have := h.groups; rw [e1, List.length_append] at this; omega
  · have := h.leads; rw [e2, List.length_append] at this; omega
theorem Sm.row {T : TbD} (h : Sm T) {i : Nat} {q : List Nat} (hi : T.groups[i]? = some q) : q.length ≤ 900000 := h.rows q (List.mem_of_getElem? hi)
def AddAt (r : Re) : Prop := ∀ (lo g : Nat) (v3 v4 v5 : Value) (T : TbD) (h : Hd) (w : World), Tab w lo g v3 v4 v5 T → lo ≤ w.heap.size → IsS w (fun i => i < lo) h r → Sm (addF r T).2 →
  Calls Try.prog 22 #[.pointer (some ⟨g, 0, none⟩), hdV h] w (PartPost lo g v3 v4 v5 (addF r T) w)
theorem add_end {lo g : Nat} {v3 v4 v5 : Value} {R : Prt × TbD} {w w' : World} {b : Nat} {cs : Array Value} (ht : Tab w' lo g v3 v4 v5 R.2) (hn : Tn lo w w') (hb : Blk w' b 61 cs) (hlb : w.heap.size ≤ b) :
    PartPost lo g v3 v4 v5 R w (.returned (.agg #[.bool R.1.e, .int .i64 (R.1.f : Int), .int .i64 (R.1.l : Int)])) (((w'.setCell ⟨b, 0, none⟩ (.bool R.1.e)).setCell ⟨b, 1, none⟩ (.int .i64 (R.1.f : Int))).setCell ⟨b, 2, none⟩ (.int .i64 (R.1.l : Int))) :=
  ⟨rfl, part_fin ht hn hb hlb _ _ _⟩
set_option maxHeartbeats 4000000 in
theorem add_nil : AddAt .nil := by
  intro lo g v3 v4 v5 T h w ht hlo hi hs
  obtain rfl : h = hd0 := hi
  have hT : T.groups.length < 1000000 := by have := hs.groups; simp [addF, nothingF, TbD.push] at this; omega
  obtain ⟨w2, hw2⟩ : ∃ w2, (w.alloc (.cells #[.int .i64 0, .int .u64 0, .int .u64 0, .int .u64 0, .int .u64 0, .slice none 0 0] 30)).alloc (.cells #[.bool false, .int .i64 0, .int .i64 0] 61) = w2 := ⟨_, rfl⟩
  have hb2 : Below w.heap.size w w2 := by rw [← hw2]; exact ((Below.refl _ _).alloc (Nat.le_refl _) _).alloc (by simp) _
  have kn : Blk w2 w.heap.size 30 #[.int .i64 0, .int .u64 0, .int .u64 0, .int .u64 0, .int .u64 0, .slice none 0 0] := by rw [← hw2]; exact (Blk.new _ _ _).alloc _
  have HK : Hid (Blk w2 (w.heap.size + 1) 61 #[.bool false, .int .i64 0, .int .i64 0]) := keepHid (by rw [← hw2]; exact Blk.new_at _ _ _ _ (by simp))
  have HC := keepHid (nothing_any (ht.keep hb2) (Nat.le_trans hlo hb2.size) hT)
  have HB := keepHid hb2
  have HW := keepHid hw2
  obtain ⟨n0, n1, n2, n3, n4, n5, nf⟩ := blk6 kn
  rw [show addF .nil T = nothingF T from rfl, hdV_hd0]
  generalize nothingF T = R at *
  clear ht hlo hs hT hw2 hb2 kn
  go_enter Try.func22, Try.ntmps22
  go_wp2_with fail
  rw [HW.out]
  go_wp2_with fail
  with_reducible refine HC.out.mono ?_
  rintro e w3 ⟨rfl, ht3, hn3⟩
  have hk3 := hn3.blk HK.out (by decide)
  have HE := keepHid (add_end ht3 ((Tn.of_below HB.out).trans hn3) hk3 (Nat.le_succ _))
  obtain ⟨z0, z1, z2, zf⟩ := blk3 hk3
  clear ht3 hn3 hk3
  unfold partV
  go_wp2
  refine bodyPost_ret (v := .agg #[.bool R.1.e, .int .i64 (R.1.f : Int), .int .i64 (R.1.l : Int)]) ?_ rfl HE.out
  rw [results_cell_one rfl]
  go_simp

set_option maxHeartbeats 4000000 in
theorem add_one (x : St) : AddAt (.one x) := by
  intro lo g v3 v4 v5 T h w ht hlo hi hs
  obtain rfl : h = ⟨1, x, none, 0, 0⟩ := hi
  have hT : T.groups.length < 1000000 := by have := hs.groups; simp [addF, oneF, TbD.push] at this; omega
  have hT2 : T.sets.length < 1000000 := by have := hs.sets; simp [addF, oneF, TbD.push] at this; omega
  obtain ⟨w2, hw2⟩ : ∃ w2, (w.alloc (.cells #[.int .i64 1, .int .u64 (x.a.toNat : Int), .int .u64 (x.b.toNat : Int), .int .u64 (x.c.toNat : Int), .int .u64 (x.d.toNat : Int), .slice none 0 0] 30)).alloc (.cells #[.bool false, .int .i64 0, .int .i64 0] 61) = w2 := ⟨_, rfl⟩
  have hb2 : Below w.heap.size w w2 := by rw [← hw2]; exact ((Below.refl _ _).alloc (Nat.le_refl _) _).alloc (by simp) _
  have kn : Blk w2 w.heap.size 30 #[.int .i64 1, .int .u64 (x.a.toNat : Int), .int .u64 (x.b.toNat : Int), .int .u64 (x.c.toNat : Int), .int .u64 (x.d.toNat : Int), .slice none 0 0] := by rw [← hw2]; exact (Blk.new _ _ _).alloc _
  have HK : Hid (Blk w2 (w.heap.size + 1) 61 #[.bool false, .int .i64 0, .int .i64 0]) := keepHid (by rw [← hw2]; exact Blk.new_at _ _ _ _ (by simp))
  have hc := one_part x (ht.keep hb2) (Nat.le_trans hlo hb2.size) hT hT2
  have HB := keepHid hb2
  have HW := keepHid hw2
  obtain ⟨n0, n1, n2, n3, n4, n5, nf⟩ := blk6 kn
  rw [show addF (.one x) T = oneF x T from rfl]
  generalize oneF x T = R at *
  unfold stV at hc
  have HC := keepHid hc
  clear ht hlo hs hT hw2 hb2 kn hc hT2
  unfold hdV
  go_enter Try.func22, Try.ntmps22
  go_wp2_with fail
  rw [HW.out]
  go_wp2_with fail
  with_reducible refine HC.out.mono ?_
  rintro e w3 ⟨rfl, ht3, hn3⟩
  have hk3 := hn3.blk HK.out (by decide)
  have HE := keepHid (add_end ht3 ((Tn.of_below HB.out).trans hn3) hk3 (Nat.le_succ _))
  obtain ⟨z0, z1, z2, zf⟩ := blk3 hk3
  clear ht3 hn3 hk3
  unfold partV
  go_wp2
  refine bodyPost_ret (v := .agg #[.bool R.1.e, .int .i64 (R.1.f : Int), .int .i64 (R.1.l : Int)]) ?_ rfl HE.out
  rw [results_cell_one rfl]
  go_simp
set_option maxHeartbeats 4000000 in
theorem add_star {a : Re} (HA : AddAt a) : AddAt (.star a) := by
  intro lo g v3 v4 v5 T h w ht hlo hi hs
  obtain ⟨G, c, x, rfl, hc1, hcm, hG, hx, hix⟩ := hi
  rw [show addF (.star a) T = starF (addF a T).1 (addF a T).2 from rfl] at *
  have hgr := add_grown a T
  have hsm : Sm (addF a T).2 := hs.up (Up.lead hgr.l hgr.f 0)
  have hl : (addF a T).2.leads.length < 1000000 := by have := hsm.leads; omega
  have hlf : (addF a T).1.f < 1000000 := by have := lt_of_get hgr.f; have := hsm.groups; omega
  have hll : (addF a T).1.l < 1000000 := by have := lt_of_get hgr.l; have := hsm.groups; omega
  obtain ⟨w2, hw2⟩ : ∃ w2, (w.alloc (.cells #[.int .i64 4, .int .u64 0, .int .u64 0, .int .u64 0, .int .u64 0, .slice (some ⟨G, 0, none⟩) 1 c] 30)).alloc (.cells #[.bool false, .int .i64 0, .int .i64 0] 61) = w2 := ⟨_, rfl⟩
  have hb2 : Below w.heap.size w w2 := by rw [← hw2]; exact ((Below.refl _ _).alloc (Nat.le_refl _) _).alloc (by simp) _
  have kn : Blk w2 w.heap.size 30 #[.int .i64 4, .int .u64 0, .int .u64 0, .int .u64 0, .int .u64 0, .slice (some ⟨G, 0, none⟩) 1 c] := by rw [← hw2]; exact (Blk.new _ _ _).alloc _
  have HK : Hid (Blk w2 (w.heap.size + 1) 61 #[.bool false, .int .i64 0, .int .i64 0]) := keepHid (by rw [← hw2]; exact Blk.new_at _ _ _ _ (by simp))
  have HKID := keepHid (kid0_any 4 st0 G 1 c x w2 (Nat.le_refl _) (hx.keep (hb2.block G hx.lt)))
  have HB := keepHid hb2
  have HW := keepHid hw2
  have HA' : Hid (∀ w3, Below w2.heap.size w2 w3 → Calls Try.prog 22 #[.pointer (some ⟨g, 0, none⟩), hdV x] w3 (PartPost lo g v3 v4 v5 (addF a T) w3)) := keepHid (fun w3 hb3 => by
    have hw3 := hb2.trans (hb3.mono hb2.size)
    exact HA lo g v3 v4 v5 T x w3 (ht.keep hw3) (Nat.le_trans hlo hw3.size) (hix.keep fun i hi hl => hw3.block i (by omega)) hsm)
  have HS : Hid (∀ w4, Tab w4 lo g v3 v4 v5 (addF a T).2 → w.heap.size ≤ w4.heap.size → Calls Try.prog 39 #[.pointer (some ⟨g, 0, none⟩), partV (addF a T).1] w4 (PartPost lo g v3 v4 v5 (starF (addF a T).1 (addF a T).2) w4)) := keepHid (fun w4 h4 hs4 =>
    star_part _ h4 (Nat.le_trans hlo hs4) hl hlf hll)
  obtain ⟨n0, n1, n2, n3, n4, n5, nf⟩ := blk6 kn
  generalize starF (addF a T).1 (addF a T).2 = R at *
  clear ht hlo hs hw2 hb2 kn hgr hsm hl hlf hll hx hix
  rw [hdV_st0]
  rw [hdV_st0] at HKID
  go_enter Try.func22, Try.ntmps22
  go_wp2_with fail
  rw [HW.out]
  go_wp2_with fail
  with_reducible refine HKID.out.mono ?_
  rintro e w3 ⟨rfl, hb3⟩
  have HA3 := keepHid (HA'.out w3 hb3)
  have HB3 := keepHid hb3
  clear hb3
  go_wp2_with fail
  with_reducible refine HA3.out.mono ?_
  rintro e w4 ⟨rfl, ht4, hn4⟩
  have HN4 := keepHid ((Tn.of_below (HB.out.trans (HB3.out.mono HB.out.size))).trans hn4)
  have HS4 := keepHid (HS.out w4 ht4 HN4.out.size)
  have HK4 := keepHid (hn4.blk (HK.out.below HB3.out HK.out.lt) (by decide))
  clear ht4 hn4
  go_wp2_with fail
  with_reducible refine HS4.out.mono ?_
  rintro e w5 ⟨rfl, ht5, hn5⟩
  have hk5 := hn5.blk HK4.out (by decide)
  have HE := keepHid (add_end ht5 (HN4.out.trans hn5) hk5 (Nat.le_succ _))
  obtain ⟨z0, z1, z2, zf⟩ := blk3 hk5
  clear ht5 hn5 hk5 n0 n1 n2 n3 n4 n5
  unfold partV
  go_wp2
  refine bodyPost_ret (v := .agg #[.bool R.1.e, .int .i64 (R.1.f : Int), .int .i64 (R.1.l : Int)]) ?_ rfl HE.out
  rw [results_cell_one rfl]
  go_simp
end Go.Proofs.Ytlmjijejgfhmmaa
