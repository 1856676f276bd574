/-
  The reader of patterns: a tree is copied.
-/
import Derived.Test.YtgidoieppplhpaaDoorRegexMembers
import Derived.Test.YtgidoieppplhpaaDoorApp
import Derived.WalkKit
import Derived.OwnWalk
import Derived.ProofKit
import Derived.WalkLawsBesides
import Derived.IntWalk
import Derived.RegionTactic
import Derived.BigRegion
import Derived.ChangeAlike
import Derived.Deep.QuietTactic
import Derived.BigQuiet
import Derived.Deep.RegionHeld3
import Derived.Deep.DrawnRows
import Derived.Outline
import Derived.Deep.DeepCutAuto
namespace Go.Proofs.YtgidoieppplhpaaDoor
open Go.RowKit
set_option linter.unusedVariables false





def hdL (h : Hd) : List Value := [.int .i64 h.k, .int .u64 (h.s.a.toNat : Int), .int .u64 (h.s.b.toNat : Int), .int .u64 (h.s.c.toNat : Int), .int .u64 (h.s.d.toNat : Int), .slice h.A h.n h.c]
theorem infoN : (Tryd.prog.info? 32).map (fun i => (i.zero, i.size, i.bytes)) = some (some (.agg nd0), 6, 64) := by kernel_rfl
theorem at6 {w : World} {g : Nat} {h : Hd} (a : AtHd w g 6 h) : w.cell? ⟨g, 6, none⟩ = some (.int .i64 h.k) ∧ w.cell? ⟨g, 7, none⟩ = some (.int .u64 (h.s.a.toNat : Int)) ∧ w.cell? ⟨g, 8, none⟩ = some (.int .u64 (h.s.b.toNat : Int)) ∧
    w.cell? ⟨g, 9, none⟩ = some (.int .u64 (h.s.c.toNat : Int)) ∧ w.cell? ⟨g, 10, none⟩ = some (.int .u64 (h.s.d.toNat : Int)) ∧ w.cell? ⟨g, 11, none⟩ = some (.slice h.A h.n h.c) := ⟨a.c0, a.c1, a.c2, a.c3, a.c4, a.c5⟩
theorem at0 {w : World} {g : Nat} {h : Hd} (a : AtHd w g 0 h) : w.cell? ⟨g, 0, none⟩ = some (.int .i64 h.k) ∧ w.cell? ⟨g, 1, none⟩ = some (.int .u64 (h.s.a.toNat : Int)) ∧ w.cell? ⟨g, 2, none⟩ = some (.int .u64 (h.s.b.toNat : Int)) ∧
    w.cell? ⟨g, 3, none⟩ = some (.int .u64 (h.s.c.toNat : Int)) ∧ w.cell? ⟨g, 4, none⟩ = some (.int .u64 (h.s.d.toNat : Int)) ∧ w.cell? ⟨g, 5, none⟩ = some (.slice h.A h.n h.c) := ⟨a.c0, a.c1, a.c2, a.c3, a.c4, a.c5⟩
theorem zero_add_ad (g k : Nat) : (⟨g, 0, none⟩ : Addr).add k = ⟨g, k, none⟩ := by unfold Addr.add; split <;> simp_all
theorem AtHd.list {w : World} {g : Nat} {h : Hd} (a : AtHd w g 0 h) : ∀ j u, (hdL h)[j]? = some u → w.cell? ((⟨g, 0, none⟩ : Addr).add j) = some u := by
  intro j u hu
  rw [zero_add_ad]
  obtain ⟨c0, c1, c2, c3, c4, c5⟩ := at0 a
  match j with
  | 0 => exact c0.trans hu
  | 1 => exact c1.trans hu
  | 2 => exact c2.trans hu
  | 3 => exact c3.trans hu
  | 4 => exact c4.trans hu
  | 5 => exact c5.trans hu
  | n + 6 => simp [hdL] at hu
theorem own_at0 {w : World} {base g n cap : Nat} {h : Hd} {xs : List Value} (o : w.ownsRow base 32 6 (.slice (some ⟨g, 0, none⟩) n cap) n (hdL h ++ xs)) (hn : 1 ≤ n) : AtHd w g 0 h := by
  have k := fun j (hj : j < 6) => o.cellAt j (by omega)
  exact ⟨k 0 (by omega), k 1 (by omega), k 2 (by omega), k 3 (by omega), k 4 (by omega), k 5 (by omega)⟩
theorem own_at6 {w : World} {base g n cap : Nat} {h k : Hd} (o : w.ownsRow base 32 6 (.slice (some ⟨g, 0, none⟩) n cap) n (hdL h ++ hdL k)) (hn : 2 ≤ n) : AtHd w g 6 k := by
  have q := fun j (hj : j < 12) => o.cellAt j (by omega)
  exact ⟨q 6 (by omega), q 7 (by omega), q 8 (by omega), q 9 (by omega), q 10 (by omega), q 11 (by omega)⟩
section
variable (w : World)
/-- 'append(kids, kid)'. -/
theorem wpList_append_node {ops : Array Oper} {rest : List Oper} {o : Oper} {a : Act} {Q : Exit → Act → World → Prop} (hgd : o.guard = none) (s x : Operand)
    (ho : o.op = .call { callee := .builtin .append, args := #[s, x], argTypes := #[26, 26] })
    (base : Nat) (v : Value) (n : Nat) (xs : List Value) (hs : a.eval s = v) (hown : w.ownsRow base 32 6 v n xs)
    (g : Nat) (hx : a.eval x = .slice (some ⟨g, 0, none⟩) 1 1) (k : Hd) (hk : AtHd w g 0 k)
    (hbytes : (n + 1) * 64 ≤ 140737488355328) (hbase : base ≤ w.heap.size)
    (h : ∀ G cap w', w'.ownsRow base 32 6 (.slice (some ⟨G, 0, none⟩) (n + 1) cap) (n + 1) (xs ++ hdL k) → base ≤ G → n + 1 ≤ cap → cap ≤ maxLen → Turn (fun i => v.ownBlock = some i) w w' → wpList Tryd.prog ops Q rest (a.put o.dst (.slice (some ⟨G, 0, none⟩) (n + 1) cap)) w') : wpList Tryd.prog ops Q (o :: rest) a w := by
  obtain ⟨i, hi⟩ := Option.isSome_iff_exists.1 (show (Tryd.prog.info? 32).isSome = true by kernel_rfl)
  have h0 := infoN
  rw [hi] at h0
  simp only [Option.map_some, Option.some.injEq, Prod.mk.injEq] at h0
  obtain ⟨hz, hsz, hby⟩ := h0
  refine wpList_append_own_at w hgd s x 26 ho base 32 i (.agg nd0) 6 64 Tryd.underlying26 hi hz hsz hby rfl (by omega) v n xs hs hown ⟨g, 0, none⟩ 1 1 (hdL k) hx rfl hk.list ?_ (by unfold maxLen; omega) hbytes hbase ?_
  · intro u hu
    simp [hdL] at hu
    rcases hu with rfl | rfl | rfl | rfl | rfl | rfl <;> rfl
  · intro v' w' ho' hg' _ hv'
    rcases ho'.2 with ⟨_, h0⟩ | ⟨G, cap, cur, rfl, hb, hgg, h1, h2, _⟩
    · omega
    · exact h G cap w' ho' hb h1 h2 (turn_grown hg')
end

theorem six_far {w : World} {b j : Nat} {u0 u1 u2 u3 u4 u5 : Value} (h : j ≠ b) :
    ((((((w.setCell ⟨b, 0, none⟩ u0).setCell ⟨b, 1, none⟩ u1).setCell ⟨b, 2, none⟩ u2).setCell ⟨b, 3, none⟩ u3).setCell ⟨b, 4, none⟩ u4).setCell ⟨b, 5, none⟩ u5).heap[j]? = w.heap[j]? := by
  rw [heap_setCell_other _ _ _ _ h, heap_setCell_other _ _ _ _ h, heap_setCell_other _ _ _ _ h, heap_setCell_other _ _ _ _ h, heap_setCell_other _ _ _ _ h, heap_setCell_other _ _ _ _ h]
def ClonePost (r : Re) (w : World) (e : Ending) (w' : World) : Prop := ∃ h, e = .returned (hdV h) ∧ IsRe w' w.heap.size h r ∧ Below w.heap.size w w'
set_option maxHeartbeats 2000000 in
theorem clone0 (k : Int) (s : St) (w : World) : Calls Tryd.prog 64 #[hdV ⟨k, s, none, 0, 0⟩] w fun e w' => e = .returned (hdV ⟨k, s, none, 0, 0⟩) ∧ Below w.heap.size w w' := by
  unfold hdV
  generalize s.a.toNat = a at *
  generalize s.b.toNat = b at *
  generalize s.c.toNat = c at *
  generalize s.d.toNat = d at *
  go_enter Tryd.func64, Tryd.ntmps64
  go_wp2_with fail
  refine wp_loop_rounds 1 ?_
  rw [rounds_succ]
  go_wp2_with fail
  refine bodyPost_ret (v := .agg #[.int .i64 k, .int .u64 (a : Int), .int .u64 (b : Int), .int .u64 (c : Int), .int .u64 (d : Int), .slice none 0 0]) (by rw [results_cell_one rfl]; go_simp) rfl ⟨rfl, ?_⟩
  (repeat' (first | exact Below.refl _ _ | refine Below.setCell ?_ (by simp <;> omega) _ | refine Below.alloc ?_ (by simp <;> omega) _))

set_option maxHeartbeats 2000000 in
theorem clone1 (k : Int) (s : St) (g c lo : Nat) (x : Hd) (a : Re) (w : World) (HX : ∀ w, IsRe w lo x a → Calls Tryd.prog 64 #[hdV x] w (ClonePost a w)) (hc : 1 ≤ c) (hcm : c ≤ maxLen) (ax : AtHd w g 0 x) (ix : IsRe w lo x a) :
    Calls Tryd.prog 64 #[hdV ⟨k, s, some ⟨g, 0, none⟩, 1, c⟩] w fun e w' => ∃ g' c' x', e = .returned (hdV ⟨k, s, some ⟨g', 0, none⟩, 1, c'⟩) ∧ 1 ≤ c' ∧ c' ≤ maxLen ∧ w.heap.size ≤ g' ∧ AtHd w' g' 0 x' ∧ IsRe w' w.heap.size x' a ∧ Below w.heap.size w w' := by
  obtain ⟨w1, hw1⟩ : ∃ w1, (w.alloc (.cells #[.int .i64 k, .int .u64 (s.a.toNat : Int), .int .u64 (s.b.toNat : Int), .int .u64 (s.c.toNat : Int), .int .u64 (s.d.toNat : Int), .slice (some ⟨g, 0, none⟩) 1 c] 32)).alloc (.cells #[.int .i64 0, .int .u64 0, .int .u64 0, .int .u64 0, .int .u64 0, .slice none 0 0] 32) = w1 := ⟨_, rfl⟩
  have hb1 : Below w.heap.size w w1 := by rw [← hw1]; exact ((Below.refl _ _).alloc (Nat.le_refl _) _).alloc (by simp) _
  have HZ1 : Hid (Blk w1 (w.heap.size + 1) 32 nd0) := keepHid (by rw [← hw1]; exact Blk.new_at _ _ _ _ (by simp))
  have hk1 : Blk w1 w.heap.size 32 #[.int .i64 k, .int .u64 (s.a.toNat : Int), .int .u64 (s.b.toNat : Int), .int .u64 (s.c.toNat : Int), .int .u64 (s.d.toNat : Int), .slice (some ⟨g, 0, none⟩) 1 c] := by rw [← hw1]; exact (Blk.new _ _ _).alloc _
  have HK1 := keepHid hk1
  obtain ⟨k0, k1, k2, k3, k4, k5, kf⟩ := blk6 hk1
  have HB1 := keepHid hb1
  have hgl := ax.lt
  have HA1 : Hid (AtHd w1 g 0 x) := keepHid (ax.keep (hb1.block g hgl))
  have HI1 : Hid (IsRe w1 lo x a) := keepHid (ix.below hb1)
  obtain ⟨x0, x1, x2, x3, x4, x5⟩ := at0 HA1.out
  have hc' : (1 : Int) ≤ (c : Int) := by omega
  have HXX := keepHid HX
  clear hb1 hk1 ax ix hgl HX
  unfold hdV
  go_enter Tryd.func64, Tryd.ntmps64
  go_wp2_with fail
  refine wp_loop_rounds 2 ?_
  rw [rounds_succ]
  go_wp2_with (go_at_call 64; fail)
  have HT1 : Hid (w1.heap.size = w.heap.size + 2) := keepHid (by rw [← hw1]; simp)
  clear hw1
  obtain ⟨w2, hw2⟩ : ∃ w2, w1.alloc (.cells #[.int .i64 x.k, .int .u64 (x.s.a.toNat : Int), .int .u64 (x.s.b.toNat : Int), .int .u64 (x.s.c.toNat : Int), .int .u64 (x.s.d.toNat : Int), .slice x.A x.n x.c] 32) = w2 := ⟨_, rfl⟩
  have hb12 : Below w1.heap.size w1 w2 := by rw [← hw2]; exact (Below.refl _ _).alloc (Nat.le_refl _) _
  rw [hw2]
  have hsz2 : w2.heap.size = w.heap.size + 3 := by rw [← hw2]; have := HT1.out; simp; omega
  refine (HXX.out w2 (HI1.out.below hb12)).mono ?_
  rintro e w3 ⟨x', rfl, ix', hb23⟩
  have hb13 := hb12.trans (hb23.mono hb12.size)
  have hk3 := HK1.out.below hb13 HK1.out.lt
  have hz3 := HZ1.out.below hb13 HZ1.out.lt
  have HB3 := keepHid (HB1.out.trans (hb13.mono HB1.out.size))
  have hsz3 := hb23.size
  obtain ⟨w4, hw4⟩ : ∃ w4, w3.alloc (.cells #[.int .i64 x'.k, .int .u64 (x'.s.a.toNat : Int), .int .u64 (x'.s.b.toNat : Int), .int .u64 (x'.s.c.toNat : Int), .int .u64 (x'.s.d.toNat : Int), .slice x'.A x'.n x'.c] 32) = w4 := ⟨_, rfl⟩
  have HW4 := keepHid hw4
  have HA4 : Hid (AtHd w4 w3.heap.size 0 x') := keepHid (by rw [← hw4]; exact blk_at (Blk.new _ _ _))
  have hb34 : Below w3.heap.size w3 w4 := by rw [← hw4]; exact (Below.refl _ _).alloc (Nat.le_refl _) _
  have HI4 : Hid (IsRe w4 (w.heap.size + 2) x' a) := keepHid ((ix'.low (by omega)).below hb34)
  have hsz4 : w4.heap.size = w3.heap.size + 1 := by rw [← hw4]; simp
  have HZ4 := keepHid (hz3.below hb34 hz3.lt)
  have HK4 := keepHid (hk3.below hb34 hk3.lt)
  have HB4 := keepHid (HB3.out.trans (hb34.mono HB3.out.size))
  have HS4 : Hid (w.heap.size + 4 ≤ w4.heap.size) := keepHid (by omega)
  clear hb12 hb23 hb13 hk3 hz3 hsz2 hsz3 hw2 hw4 hb34 hsz4 ix' k0 k1 k2 k3 k4 k5 kf x0 x1 x2 x3 x4 x5
  obtain ⟨k0, k1, k2, k3, k4, k5, kf⟩ := blk6 HK4.out
  unfold hdV
  go_wp2_with (at_builtin; rw [HW4.out]; go_loud (refine wpList_append_node _ rfl _ _ rfl w4.heap.size (.slice none 0 0) 0 [] (by rfl) (World.ownsRow_nil _ _ _ _) w3.heap.size (by rfl) x' HA4.out (by omega) (Nat.le_refl _) ?_))
  intro G cap w5 ho5 hG5 hc5 hm5 ht5
  have hb45 : Below w4.heap.size w4 w5 := ht5.below (fun i hi => by simp [Value.ownBlock] at hi) (Nat.le_refl _)
  have HO5 := keepHid ho5
  have HG5 := keepHid hG5
  have HC5 := keepHid hc5
  have HM5 := keepHid hm5
  have HI5 := keepHid (HI4.out.below hb45)
  have HZ5 := keepHid (HZ4.out.below hb45 HZ4.out.lt)
  have HK5 := keepHid (HK4.out.below hb45 HK4.out.lt)
  have HB5 := keepHid (HB4.out.trans (hb45.mono HB4.out.size))
  have hsz5 := hb45.size
  clear ho5 hG5 hc5 hm5 ht5 hb45 k0 k1 k2 k3 k4 k5 kf
  obtain ⟨k0, k1, k2, k3, k4, k5, kf⟩ := blk6 HK5.out
  obtain ⟨z0, z1, z2, z3, z4, z5, zf⟩ := blk6 HZ5.out
  go_wp2_with fail
  rw [rounds_succ]
  go_wp2_with fail
  refine bodyPost_ret (v := hdV ⟨k, s, some ⟨G, 0, none⟩, 1, cap⟩) (by rw [results_cell_one rfl]; go_simp; rfl) rfl ?_
  have hs4 := HS4.out
  have hg5 := HG5.out
  have hGl : G < w5.heap.size := (own_at0 (xs := []) (by simpa using HO5.out) (Nat.le_refl _)).lt
  refine ⟨G, cap, x', rfl, HC5.out, HM5.out, by omega, ?_, ?_, ?_⟩
  · exact (own_at0 (xs := []) (by simpa using HO5.out) (Nat.le_refl _)).keep (six_far (by omega))
  · exact (HI5.out.keep (fun j hj hl => six_far (by omega))).low (by omega)
  · exact ((((((HB5.out.setCell (by show w.heap.size ≤ w.heap.size + 1; omega) _).setCell (by show w.heap.size ≤ w.heap.size + 1; omega) _).setCell (by show w.heap.size ≤ w.heap.size + 1; omega) _).setCell (by show w.heap.size ≤ w.heap.size + 1; omega) _).setCell (by show w.heap.size ≤ w.heap.size + 1; omega) _).setCell (by show w.heap.size ≤ w.heap.size + 1; omega) _)
set_option maxHeartbeats 2000000 in
theorem clone2 (k : Int) (s : St) (g c lo : Nat) (x y : Hd) (a b : Re) (w : World) (HX : ∀ w, IsRe w lo x a → Calls Tryd.prog 64 #[hdV x] w (ClonePost a w)) (HY : ∀ w, IsRe w lo y b → Calls Tryd.prog 64 #[hdV y] w (ClonePost b w)) (hc : 2 ≤ c) (hcm : c ≤ maxLen) (ax : AtHd w g 0 x) (ay : AtHd w g 6 y) (ix : IsRe w lo x a) (iy : IsRe w lo y b) :
    Calls Tryd.prog 64 #[hdV ⟨k, s, some ⟨g, 0, none⟩, 2, c⟩] w fun e w' => ∃ g' c' x' y', e = .returned (hdV ⟨k, s, some ⟨g', 0, none⟩, 2, c'⟩) ∧ 2 ≤ c' ∧ c' ≤ maxLen ∧ w.heap.size ≤ g' ∧ AtHd w' g' 0 x' ∧ AtHd w' g' 6 y' ∧ IsRe w' w.heap.size x' a ∧ IsRe w' w.heap.size y' b ∧ Below w.heap.size w w' := by
  obtain ⟨w1, hw1⟩ : ∃ w1, (w.alloc (.cells #[.int .i64 k, .int .u64 (s.a.toNat : Int), .int .u64 (s.b.toNat : Int), .int .u64 (s.c.toNat : Int), .int .u64 (s.d.toNat : Int), .slice (some ⟨g, 0, none⟩) 2 c] 32)).alloc (.cells #[.int .i64 0, .int .u64 0, .int .u64 0, .int .u64 0, .int .u64 0, .slice none 0 0] 32) = w1 := ⟨_, rfl⟩
  have hb1 : Below w.heap.size w w1 := by rw [← hw1]; exact ((Below.refl _ _).alloc (Nat.le_refl _) _).alloc (by simp) _
  have HZ1 : Hid (Blk w1 (w.heap.size + 1) 32 nd0) := keepHid (by rw [← hw1]; exact Blk.new_at _ _ _ _ (by simp))
  have hk1 : Blk w1 w.heap.size 32 #[.int .i64 k, .int .u64 (s.a.toNat : Int), .int .u64 (s.b.toNat : Int), .int .u64 (s.c.toNat : Int), .int .u64 (s.d.toNat : Int), .slice (some ⟨g, 0, none⟩) 2 c] := by rw [← hw1]; exact (Blk.new _ _ _).alloc _
  have HK1 := keepHid hk1
  obtain ⟨k0, k1, k2, k3, k4, k5, kf⟩ := blk6 hk1
  have HB1 := keepHid hb1
  have hgl := ax.lt
  have HA1 : Hid (AtHd w1 g 0 x) := keepHid (ax.keep (hb1.block g hgl))
  have HI1 : Hid (IsRe w1 lo x a) := keepHid (ix.below hb1)
  have HAY1 : Hid (AtHd w1 g 6 y) := keepHid (ay.keep (hb1.block g hgl))
  have HIY1 : Hid (IsRe w1 lo y b) := keepHid (iy.below hb1)
  obtain ⟨x0, x1, x2, x3, x4, x5⟩ := at0 HA1.out
  have hc' : (2 : Int) ≤ (c : Int) := by omega
  have HXX := keepHid HX
  have HYY := keepHid HY
  clear hb1 hk1 ax ix ay iy hgl HX HY
  unfold hdV
  go_enter Tryd.func64, Tryd.ntmps64
  go_wp2_with fail
  refine wp_loop_rounds 3 ?_
  rw [rounds_succ]
  go_wp2_with (go_at_call 64; fail)
  have HT1 : Hid (w1.heap.size = w.heap.size + 2) := keepHid (by rw [← hw1]; simp)
  clear hw1
  obtain ⟨w2, hw2⟩ : ∃ w2, w1.alloc (.cells #[.int .i64 x.k, .int .u64 (x.s.a.toNat : Int), .int .u64 (x.s.b.toNat : Int), .int .u64 (x.s.c.toNat : Int), .int .u64 (x.s.d.toNat : Int), .slice x.A x.n x.c] 32) = w2 := ⟨_, rfl⟩
  have hb12 : Below w1.heap.size w1 w2 := by rw [← hw2]; exact (Below.refl _ _).alloc (Nat.le_refl _) _
  rw [hw2]
  have hsz2 : w2.heap.size = w.heap.size + 3 := by rw [← hw2]; have := HT1.out; simp; omega
  refine (HXX.out w2 (HI1.out.below hb12)).mono ?_
  rintro e w3 ⟨x', rfl, ix', hb23⟩
  have hb13 := hb12.trans (hb23.mono hb12.size)
  have HAY3 := keepHid (HAY1.out.keep (hb13.block g HAY1.out.lt))
  have HIY3 := keepHid (HIY1.out.below hb13)
  have hk3 := HK1.out.below hb13 HK1.out.lt
  have hz3 := HZ1.out.below hb13 HZ1.out.lt
  have HB3 := keepHid (HB1.out.trans (hb13.mono HB1.out.size))
  have hsz3 := hb23.size
  obtain ⟨w4, hw4⟩ : ∃ w4, w3.alloc (.cells #[.int .i64 x'.k, .int .u64 (x'.s.a.toNat : Int), .int .u64 (x'.s.b.toNat : Int), .int .u64 (x'.s.c.toNat : Int), .int .u64 (x'.s.d.toNat : Int), .slice x'.A x'.n x'.c] 32) = w4 := ⟨_, rfl⟩
  have HW4 := keepHid hw4
  have HA4 : Hid (AtHd w4 w3.heap.size 0 x') := keepHid (by rw [← hw4]; exact blk_at (Blk.new _ _ _))
  have hb34 : Below w3.heap.size w3 w4 := by rw [← hw4]; exact (Below.refl _ _).alloc (Nat.le_refl _) _
  have HI4 : Hid (IsRe w4 (w.heap.size + 2) x' a) := keepHid ((ix'.low (by omega)).below hb34)
  have hsz4 : w4.heap.size = w3.heap.size + 1 := by rw [← hw4]; simp
  have HZ4 := keepHid (hz3.below hb34 hz3.lt)
  have HK4 := keepHid (hk3.below hb34 hk3.lt)
  have HB4 := keepHid (HB3.out.trans (hb34.mono HB3.out.size))
  have HAY4 := keepHid (HAY3.out.keep (hb34.block g HAY3.out.lt))
  have HIY4 := keepHid (HIY3.out.below hb34)
  have HS4 : Hid (w.heap.size + 4 ≤ w4.heap.size) := keepHid (by omega)
  clear hb12 hb23 hb13 hk3 hz3 hsz2 hsz3 hw2 hw4 hb34 hsz4 ix' k0 k1 k2 k3 k4 k5 kf x0 x1 x2 x3 x4 x5
  obtain ⟨k0, k1, k2, k3, k4, k5, kf⟩ := blk6 HK4.out
  unfold hdV
  go_wp2_with (at_builtin; rw [HW4.out]; go_loud (refine wpList_append_node _ rfl _ _ rfl w4.heap.size (.slice none 0 0) 0 [] (by rfl) (World.ownsRow_nil _ _ _ _) w3.heap.size (by rfl) x' HA4.out (by omega) (Nat.le_refl _) ?_))
  intro G cap w5 ho5 hG5 hc5 hm5 ht5
  have hb45 : Below w4.heap.size w4 w5 := ht5.below (fun i hi => by simp [Value.ownBlock] at hi) (Nat.le_refl _)
  have HO5 := keepHid ho5
  have HG5 := keepHid hG5
  have HI5 := keepHid (HI4.out.below hb45)
  have HZ5 := keepHid (HZ4.out.below hb45 HZ4.out.lt)
  have HK5 := keepHid (HK4.out.below hb45 HK4.out.lt)
  have HB5 := keepHid (HB4.out.trans (hb45.mono HB4.out.size))
  have HAY5 := keepHid (HAY4.out.keep (hb45.block g HAY4.out.lt))
  have HIY5 := keepHid (HIY4.out.below hb45)
  have hsz5 := hb45.size
  have HS5 : Hid (w.heap.size + 4 ≤ w5.heap.size) := keepHid (by have := HS4.out; omega)
  have HGL5 : Hid (G < w5.heap.size) := keepHid (own_at0 (xs := []) (by simpa using ho5) (Nat.le_refl _)).lt
  have HL5 := keepHid hsz5
  have HB45 := keepHid hb45
  clear ho5 hG5 hc5 hm5 ht5 hb45 hsz5 k0 k1 k2 k3 k4 k5 kf
  obtain ⟨k0, k1, k2, k3, k4, k5, kf⟩ := blk6 HK5.out
  obtain ⟨x0, x1, x2, x3, x4, x5⟩ := at6 HAY5.out
  go_wp2_with fail
  rw [rounds_succ]
  go_wp2_with (go_at_call 64; fail)
  obtain ⟨w6, hw6⟩ : ∃ w6, w5.alloc (.cells #[.int .i64 y.k, .int .u64 (y.s.a.toNat : Int), .int .u64 (y.s.b.toNat : Int), .int .u64 (y.s.c.toNat : Int), .int .u64 (y.s.d.toNat : Int), .slice y.A y.n y.c] 32) = w6 := ⟨_, rfl⟩
  have hb56 : Below w5.heap.size w5 w6 := by rw [← hw6]; exact (Below.refl _ _).alloc (Nat.le_refl _) _
  rw [hw6]
  have hsz6 := hb56.size
  refine (HYY.out w6 (HIY5.out.below hb56)).mono ?_
  rintro e w7 ⟨y', rfl, iy', hb67⟩
  have hb57 := hb56.trans (hb67.mono hb56.size)
  have hk7 := HK5.out.below hb57 HK5.out.lt
  have hz7 := HZ5.out.below hb57 HZ5.out.lt
  have hi7 := HI5.out.below hb57
  have HB7 := keepHid (HB5.out.trans (hb57.mono HB5.out.size))
  have ho7 := HO5.out.kept (w' := w7) (row := none) ⟨hb57.os, hb57.tape, hb57.output, hb57.size, fun i hi _ => hb57.block i hi⟩ (.inr (by simp [Value.ownBlock]))
  have hsz7 := hb67.size
  obtain ⟨w8, hw8⟩ : ∃ w8, w7.alloc (.cells #[.int .i64 y'.k, .int .u64 (y'.s.a.toNat : Int), .int .u64 (y'.s.b.toNat : Int), .int .u64 (y'.s.c.toNat : Int), .int .u64 (y'.s.d.toNat : Int), .slice y'.A y'.n y'.c] 32) = w8 := ⟨_, rfl⟩
  have HW8 := keepHid hw8
  have HA8 : Hid (AtHd w8 w7.heap.size 0 y') := keepHid (by rw [← hw8]; exact blk_at (Blk.new _ _ _))
  have hb78 : Below w7.heap.size w7 w8 := by rw [← hw8]; exact (Below.refl _ _).alloc (Nat.le_refl _) _
  have HO8 : Hid (w8.ownsRow w4.heap.size 32 6 (.slice (some ⟨G, 0, none⟩) 1 cap) 1 ([] ++ hdL x')) := keepHid (by rw [← hw8]; exact ho7.alloc _)
  have HI8 := keepHid (hi7.below hb78)
  have HIY8 : Hid (IsRe w8 w5.heap.size y' b) := keepHid ((iy'.low hsz6).below hb78)
  have hsz8 : w8.heap.size = w7.heap.size + 1 := by rw [← hw8]; simp
  have HZ8 := keepHid (hz7.below hb78 hz7.lt)
  have HK8 := keepHid (hk7.below hb78 hk7.lt)
  have HB8 := keepHid (HB7.out.trans (hb78.mono HB7.out.size))
  have HB48 : Hid (Below w4.heap.size w4 w8) := keepHid (HB45.out.trans ((hb57.mono HL5.out).trans (hb78.mono (by have := HL5.out; omega))))
  have HS8 : Hid (w5.heap.size ≤ w8.heap.size) := keepHid (by omega)
  have hbs8 : w4.heap.size ≤ w8.heap.size := by have := HL5.out; omega
  clear hb56 hb67 hb57 hk7 hz7 hi7 ho7 hsz6 hsz7 hw6 hw8 hb78 hsz8 iy' k0 k1 k2 k3 k4 k5 kf x0 x1 x2 x3 x4 x5
  obtain ⟨k0, k1, k2, k3, k4, k5, kf⟩ := blk6 HK8.out
  unfold hdV
  go_wp2_with (at_builtin; rw [HW8.out]; go_loud (refine wpList_append_node _ rfl _ _ rfl w4.heap.size (.slice (some ⟨G, 0, none⟩) 1 cap) 1 ([] ++ hdL x') (by rfl) HO8.out w7.heap.size (by rfl) y' HA8.out (by omega) hbs8 ?_))
  intro G2 cap2 w9 ho9 hG9 hc9 hm9 ht9
  have hb89 : Below w4.heap.size w8 w9 := ht9.below (fun i hi => by have := HG5.out; simp [Value.ownBlock] at hi; omega) hbs8
  have HO9 := keepHid ho9
  have HG9 := keepHid hG9
  have HC9 := keepHid hc9
  have HM9 := keepHid hm9
  have hgg5 := HG5.out
  have HI9 : Hid (IsRe w9 (w.heap.size + 2) x' a) := keepHid (HI4.out.below (HB48.out.trans hb89))
  have HIY9 : Hid (IsRe w9 w5.heap.size y' b) := keepHid (HIY8.out.keep fun j hj hl => ht9.block j hl (by have := HGL5.out; simp [Value.ownBlock]; omega))
  have HK9 := keepHid (HK8.out.below hb89 (by have := HS4.out; omega))
  have HZ9 := keepHid (HZ8.out.below hb89 (by have := HS4.out; omega))
  have HB9 := keepHid (HB8.out.trans (hb89.mono (by have := HS4.out; omega)))
  clear ho9 hG9 hc9 hm9 ht9 hb89 k0 k1 k2 k3 k4 k5 kf
  obtain ⟨k0, k1, k2, k3, k4, k5, kf⟩ := blk6 HK9.out
  obtain ⟨z0, z1, z2, z3, z4, z5, zf⟩ := blk6 HZ9.out
  go_wp2_with fail
  rw [rounds_succ]
  go_wp2_with fail
  refine bodyPost_ret (v := hdV ⟨k, s, some ⟨G2, 0, none⟩, 2, cap2⟩) (by rw [results_cell_one rfl]; go_simp; rfl) rfl ?_
  have hs4 := HS4.out
  have hs5 := HS5.out
  have hg9 := HG9.out
  refine ⟨G2, cap2, x', y', rfl, HC9.out, HM9.out, by omega, ?_, ?_, ?_, ?_, ?_⟩
  · exact (own_at0 HO9.out (by omega)).keep (six_far (by omega))
  · exact (own_at6 HO9.out (by omega)).keep (six_far (by omega))
  · exact (HI9.out.keep (fun j hj hl => six_far (by omega))).low (by omega)
  · exact (HIY9.out.keep (fun j hj hl => six_far (by omega))).low (by omega)
  · exact ((((((HB9.out.setCell (by show w.heap.size ≤ w.heap.size + 1; omega) _).setCell (by show w.heap.size ≤ w.heap.size + 1; omega) _).setCell (by show w.heap.size ≤ w.heap.size + 1; omega) _).setCell (by show w.heap.size ≤ w.heap.size + 1; omega) _).setCell (by show w.heap.size ≤ w.heap.size + 1; omega) _).setCell (by show w.heap.size ≤ w.heap.size + 1; omega) _)

theorem clone_any : ∀ (r : Re) (h : Hd) (lo : Nat) (w : World), IsRe w lo h r → Calls Tryd.prog 64 #[hdV h] w (ClonePost r w)
  | .nil, h, lo, w, hi => by
    obtain rfl : h = hd0 := hi
    exact (clone0 0 st0 w).mono fun e w' ⟨he, hb⟩ => ⟨hd0, he, rfl, hb⟩
  | .one s, h, lo, w, hi => by
    obtain rfl : h = ⟨1, s, none, 0, 0⟩ := hi
    exact (clone0 1 s w).mono fun e w' ⟨he, hb⟩ => ⟨_, he, rfl, hb⟩
  | .star a, h, lo, w, hi => by
    obtain ⟨g, c, x, rfl, h1, h2, hl, ax, ix⟩ := hi
    exact (clone1 4 st0 g c lo x a w (fun w => clone_any a x lo w) h1 h2 ax ix).mono fun e w' ⟨g', c', x', he, q1, q2, q3, q4, q5, hb⟩ => ⟨_, he, ⟨g', c', x', rfl, q1, q2, q3, q4, q5⟩, hb⟩
  | .thn a b, h, lo, w, hi => by
    obtain ⟨g, c, x, y, rfl, h1, h2, hl, ax, ay, ix, iy⟩ := hi
    exact (clone2 2 st0 g c lo x y a b w (fun w => clone_any a x lo w) (fun w => clone_any b y lo w) h1 h2 ax ay ix iy).mono fun e w' ⟨g', c', x', y', he, q1, q2, q3, q4, q5, q6, q7, hb⟩ => ⟨_, he, ⟨g', c', x', y', rfl, q1, q2, q3, q4, q5, q6, q7⟩, hb⟩
  | .alt a b, h, lo, w, hi => by
    obtain ⟨g, c, x, y, rfl, h1, h2, hl, ax, ay, ix, iy⟩ := hi
    exact (clone2 3 st0 g c lo x y a b w (fun w => clone_any a x lo w) (fun w => clone_any b y lo w) h1 h2 ax ay ix iy).mono fun e w' ⟨g', c', x', y', he, q1, q2, q3, q4, q5, q6, q7, hb⟩ => ⟨_, he, ⟨g', c', x', y', rfl, q1, q2, q3, q4, q5, q6, q7⟩, hb⟩
end Go.Proofs.YtgidoieppplhpaaDoor
