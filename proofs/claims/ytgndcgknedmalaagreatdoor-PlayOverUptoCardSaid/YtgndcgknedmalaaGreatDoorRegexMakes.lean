/-
  The statements' own build: patterns that numbers make.
-/
import Derived.Test.YtgndcgknedmalaaGreatDoorRegexBuild
import Derived.Test.YtgndcgknedmalaaGreatDoorRegexAtom
import Derived.WalkKit
import Derived.OwnWalk
import Derived.ProofKit
import Derived.WalkLawsBesides
import Derived.IntWalk
import Derived.RegionTactic
import Derived.BigRegion
import Derived.ChangeAlike
import Derived.Deep.QuietTactic
import Derived.BigQuiet
import Derived.Deep.RegionHeld3
import Derived.Deep.DrawnRows
import Derived.Outline
import Derived.Deep.DeepCutAuto
import Derived.Test.YtgndcgknedmalaaGreatDoorRegexMembers
namespace Go.Proofs.YtgndcgknedmalaaGreatDoor
open Go.RowKit
set_option linter.unusedVariables false





theorem results_tct {fn : Func} {s p u : Tmp} {ty : TypeId} (h : fn.results = #[.tmp s, .cell p ty, .tmp u]) (tmps : Array Value) (P : Program) (w : World) :
    (results fn tmps).run P w = ((asAddr (tmps.getD p undef)).run P w).andThen fun a w₁ => ((loadVar ty a).run P w₁).andThen fun v w₂ => .ok (.tuple #[tmps.getD s undef, v, tmps.getD u undef]) w₂ := by
  simp only [results, h]
  simp [Sem.run_bind, Result.andThen]
set_option maxHeartbeats 800000 in
theorem byteNode_any (c : Nat) (hc : c < 256) (w : World) : Calls Tryz.prog 55 #[.int .u8 (c : Int)] w fun e w' => e = .returned (hdV ⟨1, withS st0 c, none, 0, 0⟩) ∧ Below w.heap.size w w' := by
  obtain ⟨w1, hw1⟩ : ∃ w1, w.alloc (.cells #[.int .i64 0, .int .u64 0, .int .u64 0, .int .u64 0, .int .u64 0, .slice none 0 0] 76) = w1 := ⟨_, rfl⟩
  have HZ1 := keepHid (node_new hw1)
  have HB1 : Hid (Below w.heap.size w w1) := keepHid (by rw [← hw1]; exact (Below.refl _ _).alloc (Nat.le_refl _) _)
  have HW := keepHid (with0 c hc w1)
  go_enter Tryz.func55, Tryz.ntmps55
  go_wp2_with fail
  refine HW.out.mono ?_
  rintro e w2 ⟨rfl, hb2⟩
  have HB2 := keepHid (HB1.out.trans (hb2.mono HB1.out.size))
  obtain ⟨z0, z1, z2, z3, z4, z5, zf⟩ := blk6 (HZ1.out.below hb2 HZ1.out.lt)
  clear hb2 hw1
  unfold stV
  go_wp2
  refine bodyPost_ret (v := hdV ⟨1, withS st0 c, none, 0, 0⟩) (by rw [results_cell_one rfl]; go_simp; rfl) rfl ⟨rfl, ?_⟩
  exact (((((HB2.out.setCell (Nat.le_refl _) _).setCell (Nat.le_refl _) _).setCell (Nat.le_refl _) _).setCell (Nat.le_refl _) _).setCell (Nat.le_refl _) _).setCell (Nat.le_refl _) _
theorem run_tail1 (A : Option Addr) (n c : Nat) (hn : 1 ≤ n) (hc : n ≤ c) (W : World) :
    (Instr.slice 31 (.slice A n c) (some (.int .i64 1)) none none).run Tryz.prog W = .ok (.slice (if c = 1 then A else A.map (·.add 1)) (n - 1) (c - 1)) W := by
  rw [run_slice_l W 31 A n c (by kernel_rfl) .i64 1 (by omega) (by omega)]
  have hs : ∀ W, (sizeOf (Tryz.prog.elem 31)).run Tryz.prog W = .ok 1 W := fun W => by kernel_rfl
  rw [hs]
  simp [sliced]
def BuildPost (B d : Nat) (ns : List UInt8) (w : World) (e : Ending) (w' : World) : Prop :=
  ∃ (h : Hd) (A : Option Addr) (n c : Nat), e = .returned (.tuple #[.string (strB (bldL d ns).1), hdV h, .slice A n c]) ∧ IsRe w' w.heap.size h (bldL d ns).2.1 ∧ Bys w' B A n (bldL d ns).2.2 ∧ n ≤ c ∧ c ≤ 9223372036854775807 ∧ Below w.heap.size w w'
def BuildSpec (d : Nat) : Prop := ∀ (B : Nat) (A : Option Addr) (n c : Nat) (ns : List UInt8) (w : World), B ≤ w.heap.size → Bys w B A n ns → n ≤ c → c ≤ 9223372036854775807 →
  Calls Tryz.prog 34 #[.slice A n c, .int .i64 (d : Int)] w (BuildPost B d ns w)
theorem build_fin {w w1 w2 : World} {B d : Nat} (hB : B ≤ w.heap.size) {ns : List UInt8} {h : Hd} {A : Option Addr} {n c : Nat} (h1 : w.heap.size < w1.heap.size) (hb1 : Below w.heap.size w w1) (hb : Below w1.heap.size w1 w2) (hi : IsRe w2 w1.heap.size h (bldL d ns).2.1)
    (hy : Bys w B A n (bldL d ns).2.2) (hn : n ≤ c) (hc : c ≤ 9223372036854775807) (u0 u1 u2 u3 u4 u5 : Value) :
    BuildPost B d ns w (.returned (.tuple #[.string (strB (bldL d ns).1), hdV h, .slice A n c])) ((((((w2.setCell ⟨w.heap.size, 0, none⟩ u0).setCell ⟨w.heap.size, 1, none⟩ u1).setCell ⟨w.heap.size, 2, none⟩ u2).setCell ⟨w.heap.size, 3, none⟩ u3).setCell ⟨w.heap.size, 4, none⟩ u4).setCell ⟨w.heap.size, 5, none⟩ u5) := by
  have hbb : Below w.heap.size w ((((((w2.setCell ⟨w.heap.size, 0, none⟩ u0).setCell ⟨w.heap.size, 1, none⟩ u1).setCell ⟨w.heap.size, 2, none⟩ u2).setCell ⟨w.heap.size, 3, none⟩ u3).setCell ⟨w.heap.size, 4, none⟩ u4).setCell ⟨w.heap.size, 5, none⟩ u5) := below_six (hb1.trans (hb.mono hb1.size)) (Nat.le_refl _) _ _ _ _ _ _
  exact ⟨h, A, n, c, rfl, (hi.keep fun b hb _ => six_far (by have : w1.heap.size ≤ b := hb; omega)).low (Nat.le_of_lt h1), hy.below (hbb.mono hB), hn, hc, hbb⟩
theorem build_post {w WF : World} {B d : Nat} {ns t rest : List UInt8} {r : Re} {S : ByteArray} {h : Hd} {A : Option Addr} {n c : Nat} (hE : bldL d ns = (t, r, rest)) (hS : strB t = S) (hi : IsRe WF w.heap.size h r) (hy : Bys WF B A n rest)
    (hn : n ≤ c) (hc : c ≤ 9223372036854775807) (hb : Below w.heap.size w WF) : BuildPost B d ns w (.returned (.tuple #[.string S, hdV h, .slice A n c])) WF := by
  subst hS
  exact ⟨h, A, n, c, by rw [hE], by rw [hE]; exact hi, by rw [hE]; exact hy, hn, hc, hb⟩
theorem fin_one {w w1 w5 : World} (hb1 : Below w.heap.size w w1) (h15 : Below w1.heap.size w1 w5) (hl : w.heap.size < w5.heap.size) (cs : Array Value) (u0 u1 u2 u3 u4 u5 : Value) :
    Below w.heap.size w (((((((((w5.setCell ⟨w.heap.size, 0, none⟩ u0).setCell ⟨w.heap.size, 1, none⟩ u1).setCell ⟨w.heap.size, 2, none⟩ u2).setCell ⟨w.heap.size, 3, none⟩ u3).setCell ⟨w.heap.size, 4, none⟩ u4).setCell ⟨w.heap.size, 5, none⟩ u5).alloc (.cells cs 76)).drew)) ∧
    (∀ j, j ≠ w.heap.size → j < w5.heap.size → (((((((((w5.setCell ⟨w.heap.size, 0, none⟩ u0).setCell ⟨w.heap.size, 1, none⟩ u1).setCell ⟨w.heap.size, 2, none⟩ u2).setCell ⟨w.heap.size, 3, none⟩ u3).setCell ⟨w.heap.size, 4, none⟩ u4).setCell ⟨w.heap.size, 5, none⟩ u5).alloc (.cells cs 76)).drew)).heap[j]? = w5.heap[j]?) ∧
    Blk (((((((((w5.setCell ⟨w.heap.size, 0, none⟩ u0).setCell ⟨w.heap.size, 1, none⟩ u1).setCell ⟨w.heap.size, 2, none⟩ u2).setCell ⟨w.heap.size, 3, none⟩ u3).setCell ⟨w.heap.size, 4, none⟩ u4).setCell ⟨w.heap.size, 5, none⟩ u5).alloc (.cells cs 76)).drew)) w5.heap.size 76 cs := by
  have hs : ((((((w5.setCell ⟨w.heap.size, 0, none⟩ u0).setCell ⟨w.heap.size, 1, none⟩ u1).setCell ⟨w.heap.size, 2, none⟩ u2).setCell ⟨w.heap.size, 3, none⟩ u3).setCell ⟨w.heap.size, 4, none⟩ u4).setCell ⟨w.heap.size, 5, none⟩ u5).heap.size = w5.heap.size := by simp
  have hb6 := below_six (hb1.trans (h15.mono hb1.size)) (Nat.le_refl _) u0 u1 u2 u3 u4 u5
  refine ⟨(hb6.alloc hb6.size _).drew, fun j h1 h2 => ?_, (Blk.new_at _ _ _ _ hs.symm).drew⟩
  show (World.alloc _ _).heap[j]? = _
  rw [Below.heap_alloc _ _ _ (by rw [hs]; exact h2), six_far h1]
set_option maxRecDepth 100000 in
set_option maxHeartbeats 800000 in
theorem build_none (B d : Nat) (A : Option Addr) (c : Nat) (ns : List UInt8) (w : World) (hB : B ≤ w.heap.size) (hy : Bys w B A 0 ns) :
    Calls Tryz.prog 34 #[.slice A 0 c, .int .i64 (d : Int)] w (BuildPost B d ns w) := by
  obtain ⟨w1, hw1⟩ : ∃ w1, w.alloc (.cells #[.int .i64 0, .int .u64 0, .int .u64 0, .int .u64 0, .int .u64 0, .slice none 0 0] 76) = w1 := ⟨_, rfl⟩
  have HZ1 := keepHid (node_new hw1)
  have HL1 : Hid (w.heap.size < w1.heap.size) := keepHid (by rw [← hw1]; simp)
  have hb1 : Below w.heap.size w w1 := by rw [← hw1]; exact (Below.refl _ _).alloc (Nat.le_refl _) _
  have HB1 := keepHid hb1
  have HY := keepHid hy
  have HLN := keepHid hy.len
  obtain rfl : ns = [] := List.eq_nil_of_length_eq_zero HLN.out
  have HE : Hid (bldL d [] = ([97], .one (withS st0 97), [])) := keepHid (by unfold bldL; rfl)
  have HBN := keepHid (byteNode_any 97 (by omega) w1)
  clear hy hb1
  go_enter Tryz.func34, Tryz.ntmps34
  go_wp2_with fail
  refine HBN.out.mono ?_
  rintro e w2 ⟨rfl, hb2⟩
  have HB2 := keepHid hb2
  obtain ⟨z0, z1, z2, z3, z4, z5, zf⟩ := blk6 (HZ1.out.below hb2 HZ1.out.lt)
  clear hb2 hw1
  unfold hdV
  go_wp2
  have K := build_fin (B := B) (d := d) (ns := []) (A := none) (n := 0) (c := 0) (h := ⟨1, withS st0 97, none, 0, 0⟩) hB HL1.out HB1.out HB2.out (by rw [HE.out]; rfl) (by rw [HE.out]; exact Bys.none_) (Nat.le_refl _) (by omega)
  exact ⟨by rfl, .tuple #[.string (strB [97]), hdV ⟨1, withS st0 97, none, 0, 0⟩, .slice none 0 0], by rw [results_tct rfl]; go_simp; exact ⟨rfl, rfl⟩, by have k := K (.int .i64 1) (.int .u64 ((withS st0 97).a.toNat : Int)) (.int .u64 ((withS st0 97).b.toNat : Int)) (.int .u64 ((withS st0 97).c.toNat : Int)) (.int .u64 ((withS st0 97).d.toNat : Int)) (.slice none 0 0); rw [HE.out] at k; exact k⟩
set_option maxRecDepth 100000 in
set_option maxHeartbeats 2000000 in
theorem build_thn (B d : Nat) (hd : d ≤ 2) (H : BuildSpec d) (A : Option Addr) (n c : Nat) (ns : List UInt8) (w : World) (hB : B ≤ w.heap.size) (hy : Bys w B A n ns) (hn : 1 ≤ n) (hnc : n ≤ c) (hcm : c ≤ 9223372036854775807) (x0 : UInt8) (h0 : ns[0]? = some x0) (hj : x0.toNat % 9 < 2) :
    Calls Tryz.prog 34 #[.slice A n c, .int .i64 ((d : Int) + 1)] w (BuildPost B (d + 1) ns w) := by
  obtain ⟨w1, hw1⟩ : ∃ w1, w.alloc (.cells #[.int .i64 0, .int .u64 0, .int .u64 0, .int .u64 0, .int .u64 0, .slice none 0 0] 76) = w1 := ⟨_, rfl⟩
  have HZ1 := keepHid (node_new hw1)
  have HL1 : Hid (w.heap.size < w1.heap.size) := keepHid (by rw [← hw1]; simp)
  have hb1 : Below w.heap.size w w1 := by rw [← hw1]; exact (Below.refl _ _).alloc (Nat.le_refl _) _
  have HB1 := keepHid hb1
  have HY := keepHid hy
  have HLN := keepHid hy.len
  obtain ⟨ad, x, rfl, had, hx, hcell⟩ := hy.at_ (k := 0) (by omega)
  have hca : w1.cell? ad = some (.int .u8 (x.toNat : Int)) := by
    have h0 : ad.add 0 = ad := by unfold Addr.add; simp
    have := (hb1.cell (show (ad.add 0).block < w.heap.size by rw [ad_block]; omega)).trans hcell
    rwa [h0] at this
  obtain ⟨ns', hns⟩ : ∃ ns', ns = x :: ns' := by
    cases ns with
    | nil => simp at hx
    | cons a r => simp at hx; subst hx; exact ⟨r, rfl⟩
  subst hns
  have hsl := run_tail1 (some ad) n c hn hnc
  obtain ⟨A2, hA2⟩ : ∃ A2, (if c = 1 then some ad else (some ad).map (·.add 1)) = A2 := ⟨_, rfl⟩
  rw [hA2] at hsl
  have HB0 := keepHid hB
  have HY2 : Hid (Bys w B A2 (n - 1) ns') := keepHid (by
    have := hy.cut hn hnc
    rw [hA2] at this
    exact this)
  obtain ⟨n2, hn2⟩ : ∃ n2, n - 1 = n2 := ⟨_, rfl⟩
  obtain ⟨c2, hc2⟩ : ∃ c2, c - 1 = c2 := ⟨_, rfl⟩
  rw [hn2, hc2] at hsl
  rw [hn2] at HY2
  have HNC2 : Hid (n2 ≤ c2) := keepHid (by omega)
  have HCM2 : Hid (c2 ≤ 9223372036854775807) := keepHid (by omega)
  obtain ⟨y, hyx⟩ : ∃ y, x.toNat = y := ⟨_, rfl⟩
  have hy256 : y < 256 := by rw [← hyx]; exact u8lt x
  rw [hyx] at hca
  have hn' : (1 : Int) ≤ (n : Int) := by omega
  have hn'' : ((n : Int) == 0) = false := by simp; omega
  obtain rfl : x0 = x := by simpa using h0.symm
  have HE : Hid (bldL (d + 1) (x0 :: ns') = ([40] ++ (bldL d ns').1 ++ [41, 40] ++ (bldL d (bldL d ns').2.2).1 ++ [41], .thn (bldL d ns').2.1 (bldL d (bldL d ns').2.2).2.1, (bldL d (bldL d ns').2.2).2.2)) := keepHid (by rw [bldL, if_pos hj])
  have hl1 := bld_len d ns'
  have hl2 := bld_len d (bldL d ns').2.2
  have hM : bldM d ≤ 43 := by rcases (by omega : d = 0 ∨ d = 1 ∨ d = 2) with rfl | rfl | rfl <;> decide
  have HR1 := keepHid (H B A2 n2 c2 ns')
  have HH := keepHid H
  have a1 : ∀ w, (Op.stringOp .add ⟨#[40]⟩ (strB (bldL d ns').1)).run Tryz.prog w = .ok (.string (strB ([40] ++ (bldL d ns').1))) w := fun w => run_strAdd [40] _ (by simp; omega) w
  have a2 : ∀ w, (Op.stringOp .add (strB ([40] ++ (bldL d ns').1)) ⟨#[41, 40]⟩).run Tryz.prog w = .ok (.string (strB ([40] ++ (bldL d ns').1 ++ [41, 40]))) w := fun w => run_strAdd _ [41, 40] (by simp; omega) w
  have a3 : ∀ w, (Op.stringOp .add (strB ([40] ++ (bldL d ns').1 ++ [41, 40])) (strB (bldL d (bldL d ns').2.2).1)).run Tryz.prog w = .ok (.string (strB ([40] ++ (bldL d ns').1 ++ [41, 40] ++ (bldL d (bldL d ns').2.2).1))) w := fun w => run_strAdd _ _ (by simp; omega) w
  have a4 : ∀ w, (Op.stringOp .add (strB ([40] ++ (bldL d ns').1 ++ [41, 40] ++ (bldL d (bldL d ns').2.2).1)) ⟨#[41]⟩).run Tryz.prog w = .ok (.string (strB ([40] ++ (bldL d ns').1 ++ [41, 40] ++ (bldL d (bldL d ns').2.2).1 ++ [41]))) w := fun w => run_strAdd _ [41] (by simp; omega) w
  rw [hyx] at hj
  have e1 : (y : Int) % 9 = ((y % 9 : Nat) : Int) := by omega
  have HJ : Hid (y % 9 < 2) := keepHid hj
  clear hy hb1 hx hcell had hA2 hn2 hc2 hyx hl1 hl2 hM H h0 hj
  generalize y % 9 = j at *
  have hjj := HJ.out
  rcases (by omega : j = 0 ∨ j = 1) with rfl | rfl
  all_goals
    clear HJ hjj
    go_enter Tryz.func34, Tryz.ntmps34
    go_wp2_with fail
    refine (HR1.out w1 (Nat.le_trans HB0.out HB1.out.size) (HY2.out.below (HB1.out.mono HB0.out)) HNC2.out HCM2.out).mono ?_
    rintro e w2 ⟨h1, A3, n3, c3, rfl, hi1, hy3, hnc3, hcm3, hb2⟩
    clear hw1 hca hsl
    have HI1 := keepHid hi1
    have HY3 := keepHid hy3
    have HB2 := keepHid hb2
    have HZ2 := keepHid (HZ1.out.below hb2 HZ1.out.lt)
    obtain ⟨w3, hw3⟩ : ∃ w3, w2.alloc (.cells (hdC h1) 76) = w3 := ⟨_, rfl⟩
    have hb23 : Below w2.heap.size w2 w3 := by rw [← hw3]; exact (Below.refl _ _).alloc (Nat.le_refl _) _
    have HN3 : Hid (Blk w3 w2.heap.size 76 (hdC h1)) := keepHid (by rw [← hw3]; exact Blk.new _ _ _)
    have HB3 := keepHid (hb2.trans (hb23.mono hb2.size))
    have HI3 := keepHid (hi1.below hb23)
    have HZ3 := keepHid (HZ2.out.below hb23 HZ2.out.lt)
    have HR2 := keepHid (HH.out B A3 n3 c3 _ w3 (by have := HB0.out; have := HB3.out.size; have := HL1.out; omega) (hy3.below (hb23.mono (by have := HB0.out; have := HL1.out; have := hb2.size; omega))) hnc3 hcm3)
    clear hi1 hy3 hb2 hb23
    unfold hdV
    unfold hdC at hw3
    go_wp2_with fail
    refine HR2.out.mono ?_
    rintro e w4 ⟨h2, A4, n4, c4, rfl, hi2, hy4, hnc4, hcm4, hb4⟩
    clear hw3
    obtain ⟨q2, hq2⟩ : ∃ q, w2.heap.size = q := ⟨_, rfl⟩
    have HQ2 := keepHid hq2
    rw [hq2] at HN3
    have hs12 := HB3.out.size
    have hs34 := hb4.size
    have hs1 := HL1.out
    obtain ⟨w5, hw5⟩ : ∃ w5, w4.alloc (.cells (hdC h2) 76) = w5 := ⟨_, rfl⟩
    have hb45 : Below w4.heap.size w4 w5 := by rw [← hw5]; exact (Below.refl _ _).alloc (Nat.le_refl _) _
    have hm5 : Blk w5 w4.heap.size 76 (hdC h2) := by rw [← hw5]; exact Blk.new _ _ _
    have hb35 := hb4.trans (hb45.mono hb4.size)
    have hn5 := HN3.out.below hb35 HN3.out.lt
    have hz5 := HZ3.out.below hb35 HZ3.out.lt
    have HB5 := keepHid (HB3.out.trans (hb35.mono HB3.out.size))
    have HI5 := keepHid (HI3.out.below hb35)
    have HJ5 := keepHid ((hi2.below hb45).low (HB3.out.size))
    have HY5 := keepHid (hy4.below (hb45.mono (by have := HB0.out; omega)))
    have HNC5 := keepHid hnc4
    have HCM5 := keepHid hcm4
    have HS5 : Hid (w1.heap.size ≤ w5.heap.size) := keepHid HB5.out.size
    obtain ⟨q4, hq4⟩ : ∃ q, w4.heap.size = q := ⟨_, rfl⟩
    rw [hq4] at hm5
    clear hi2 hy4 hb4 hb45 hb35 HR1 HR2 HI1 HY3 HB2 HZ2 HN3 HI3 HZ3 HB3
    unfold hdV
    unfold hdC at hw5
    go_upto_region 13 with fail
    try rw [hw5]
    try rw [hq2]
    try rw [hq4]
    clear hw5 hq2 hq4
    obtain ⟨k0, k1, k2, k3, k4, k5, kf⟩ := blk6 hn5
    obtain ⟨l0, l1, l2, l3, l4, l5, lf⟩ := blk6 hm5
    obtain ⟨z0, z1, z2, z3, z4, z5, zf⟩ := blk6 hz5
    have hlt5 : w.heap.size < w5.heap.size := hz5.lt
    clear hn5 hm5 hz5 hs12 hs34 hs1
    generalize strB (bldL d ns').1 = S1 at *
    generalize strB (bldL d (bldL d ns').2.2).1 = S2 at *
    generalize strB ([40] ++ (bldL d ns').1) = S3 at *
    generalize strB ([40] ++ (bldL d ns').1 ++ [41, 40]) = S4 at *
    generalize strB ([40] ++ (bldL d ns').1 ++ [41, 40] ++ (bldL d (bldL d ns').2.2).1) = S5 at *
    obtain ⟨S6, hS6⟩ : ∃ S, strB ([40] ++ (bldL d ns').1 ++ [41, 40] ++ (bldL d (bldL d ns').2.2).1 ++ [41]) = S := ⟨_, rfl⟩
    rw [hS6] at a4
    have HS6 := keepHid hS6
    clear hS6
    go_region
    all_goals
      go_wp2
      obtain ⟨f1, f2, f3⟩ := fin_one HB1.out HB5.out hlt5 #[.int .i64 h1.k, .int .u64 (h1.s.a.toNat : Int), .int .u64 (h1.s.b.toNat : Int), .int .u64 (h1.s.c.toNat : Int), .int .u64 (h1.s.d.toNat : Int), .slice h1.A h1.n h1.c, .int .i64 h2.k, .int .u64 (h2.s.a.toNat : Int), .int .u64 (h2.s.b.toNat : Int), .int .u64 (h2.s.c.toNat : Int), .int .u64 (h2.s.d.toNat : Int), .slice h2.A h2.n h2.c] (.int .i64 2) (.int .u64 0) (.int .u64 0) (.int .u64 0) (.int .u64 0) (.slice (some ⟨w5.heap.size, 0, none⟩) 2 2)
      have hlo := HL1.out
      have hs5 := HS5.out
      refine ⟨by rfl, .tuple #[.string S6, hdV ⟨2, st0, some ⟨w5.heap.size, 0, none⟩, 2, 2⟩, .slice A4 n4 c4], by rw [results_tct rfl]; go_simp; rfl, build_post HE.out HS6.out ?_ ?_ HNC5.out HCM5.out f1⟩
      · refine ⟨w5.heap.size, 2, h1, h2, rfl, Nat.le_refl _, by unfold maxLen; omega, Nat.le_of_lt hlt5, (blk_at1 f3).1, (blk_at1 f3).2, ?_, ?_⟩
        · exact HI5.out.move (fun b hb hl => f2 b (by have : w1.heap.size ≤ b := hb; omega) hl) (fun b hb _ => by have : w1.heap.size ≤ b := hb; show w.heap.size ≤ b; omega)
        · exact HJ5.out.move (fun b hb hl => f2 b (by have : w1.heap.size ≤ b := hb; omega) hl) (fun b hb _ => by have : w1.heap.size ≤ b := hb; show w.heap.size ≤ b; omega)
      · exact HY5.out.keep fun p hp => World.cell?_of_block (f2 p.block (by have := HB0.out; omega) (by have := HB0.out; omega))





set_option maxRecDepth 100000 in
set_option maxHeartbeats 2000000 in
theorem build_alt (B d : Nat) (hd : d ≤ 2) (H : BuildSpec d) (A : Option Addr) (n c : Nat) (ns : List UInt8) (w : World) (hB : B ≤ w.heap.size) (hy : Bys w B A n ns) (hn : 1 ≤ n) (hnc : n ≤ c) (hcm : c ≤ 9223372036854775807) (x0 : UInt8) (h0 : ns[0]? = some x0) (hj : 2 ≤ x0.toNat % 9 ∧ x0.toNat % 9 < 4) :
    Calls Tryz.prog 34 #[.slice A n c, .int .i64 ((d : Int) + 1)] w (BuildPost B (d + 1) ns w) := by
  obtain ⟨w1, hw1⟩ : ∃ w1, w.alloc (.cells #[.int .i64 0, .int .u64 0, .int .u64 0, .int .u64 0, .int .u64 0, .slice none 0 0] 76) = w1 := ⟨_, rfl⟩
  have HZ1 := keepHid (node_new hw1)
  have HL1 : Hid (w.heap.size < w1.heap.size) := keepHid (by rw [← hw1]; simp)
  have hb1 : Below w.heap.size w w1 := by rw [← hw1]; exact (Below.refl _ _).alloc (Nat.le_refl _) _
  have HB1 := keepHid hb1
  have HY := keepHid hy
  have HLN := keepHid hy.len
  obtain ⟨ad, x, rfl, had, hx, hcell⟩ := hy.at_ (k := 0) (by omega)
  have hca : w1.cell? ad = some (.int .u8 (x.toNat : Int)) := by
    have h0 : ad.add 0 = ad := by unfold Addr.add; simp
    have := (hb1.cell (show (ad.add 0).block < w.heap.size by rw [ad_block]; omega)).trans hcell
    rwa [h0] at this
  obtain ⟨ns', hns⟩ : ∃ ns', ns = x :: ns' := by
    cases ns with
    | nil => simp at hx
    | cons a r => simp at hx; subst hx; exact ⟨r, rfl⟩
  subst hns
  have hsl := run_tail1 (some ad) n c hn hnc
  obtain ⟨A2, hA2⟩ : ∃ A2, (if c = 1 then some ad else (some ad).map (·.add 1)) = A2 := ⟨_, rfl⟩
  rw [hA2] at hsl
  have HB0 := keepHid hB
  have HY2 : Hid (Bys w B A2 (n - 1) ns') := keepHid (by
    have := hy.cut hn hnc
    rw [hA2] at this
    exact this)
  obtain ⟨n2, hn2⟩ : ∃ n2, n - 1 = n2 := ⟨_, rfl⟩
  obtain ⟨c2, hc2⟩ : ∃ c2, c - 1 = c2 := ⟨_, rfl⟩
  rw [hn2, hc2] at hsl
  rw [hn2] at HY2
  have HNC2 : Hid (n2 ≤ c2) := keepHid (by omega)
  have HCM2 : Hid (c2 ≤ 9223372036854775807) := keepHid (by omega)
  obtain ⟨y, hyx⟩ : ∃ y, x.toNat = y := ⟨_, rfl⟩
  have hy256 : y < 256 := by rw [← hyx]; exact u8lt x
  rw [hyx] at hca
  have hn' : (1 : Int) ≤ (n : Int) := by omega
  have hn'' : ((n : Int) == 0) = false := by simp; omega
  obtain rfl : x0 = x := by simpa using h0.symm
  have HE : Hid (bldL (d + 1) (x0 :: ns') = ([40] ++ (bldL d ns').1 ++ [124, 40] ++ (bldL d (bldL d ns').2.2).1 ++ [41, 41], .alt (bldL d ns').2.1 (bldL d (bldL d ns').2.2).2.1, (bldL d (bldL d ns').2.2).2.2)) := keepHid (by rw [bldL, if_neg (by omega), if_pos (by omega)])
  have hl1 := bld_len d ns'
  have hl2 := bld_len d (bldL d ns').2.2
  have hM : bldM d ≤ 43 := by rcases (by omega : d = 0 ∨ d = 1 ∨ d = 2) with rfl | rfl | rfl <;> decide
  have HR1 := keepHid (H B A2 n2 c2 ns')
  have HH := keepHid H
  have a1 : ∀ w, (Op.stringOp .add ⟨#[40]⟩ (strB (bldL d ns').1)).run Tryz.prog w = .ok (.string (strB ([40] ++ (bldL d ns').1))) w := fun w => run_strAdd [40] _ (by simp; omega) w
  have a2 : ∀ w, (Op.stringOp .add (strB ([40] ++ (bldL d ns').1)) ⟨#[124, 40]⟩).run Tryz.prog w = .ok (.string (strB ([40] ++ (bldL d ns').1 ++ [124, 40]))) w := fun w => run_strAdd _ [124, 40] (by simp; omega) w
  have a3 : ∀ w, (Op.stringOp .add (strB ([40] ++ (bldL d ns').1 ++ [124, 40])) (strB (bldL d (bldL d ns').2.2).1)).run Tryz.prog w = .ok (.string (strB ([40] ++ (bldL d ns').1 ++ [124, 40] ++ (bldL d (bldL d ns').2.2).1))) w := fun w => run_strAdd _ _ (by simp; omega) w
  have a4 : ∀ w, (Op.stringOp .add (strB ([40] ++ (bldL d ns').1 ++ [124, 40] ++ (bldL d (bldL d ns').2.2).1)) ⟨#[41, 41]⟩).run Tryz.prog w = .ok (.string (strB ([40] ++ (bldL d ns').1 ++ [124, 40] ++ (bldL d (bldL d ns').2.2).1 ++ [41, 41]))) w := fun w => run_strAdd _ [41, 41] (by simp; omega) w
  rw [hyx] at hj
  have e1 : (y : Int) % 9 = ((y % 9 : Nat) : Int) := by omega
  have HJ : Hid (2 ≤ y % 9 ∧ y % 9 < 4) := keepHid hj
  clear hy hb1 hx hcell had hA2 hn2 hc2 hyx hl1 hl2 hM H h0 hj
  generalize y % 9 = j at *
  have hjj := HJ.out
  rcases (by omega : j = 2 ∨ j = 3) with rfl | rfl
  all_goals
    clear HJ hjj
    go_enter Tryz.func34, Tryz.ntmps34
    go_wp2_with fail
    refine (HR1.out w1 (Nat.le_trans HB0.out HB1.out.size) (HY2.out.below (HB1.out.mono HB0.out)) HNC2.out HCM2.out).mono ?_
    rintro e w2 ⟨h1, A3, n3, c3, rfl, hi1, hy3, hnc3, hcm3, hb2⟩
    clear hw1 hca hsl
    have HI1 := keepHid hi1
    have HY3 := keepHid hy3
    have HB2 := keepHid hb2
    have HZ2 := keepHid (HZ1.out.below hb2 HZ1.out.lt)
    obtain ⟨w3, hw3⟩ : ∃ w3, w2.alloc (.cells (hdC h1) 76) = w3 := ⟨_, rfl⟩
    have hb23 : Below w2.heap.size w2 w3 := by rw [← hw3]; exact (Below.refl _ _).alloc (Nat.le_refl _) _
    have HN3 : Hid (Blk w3 w2.heap.size 76 (hdC h1)) := keepHid (by rw [← hw3]; exact Blk.new _ _ _)
    have HB3 := keepHid (hb2.trans (hb23.mono hb2.size))
    have HI3 := keepHid (hi1.below hb23)
    have HZ3 := keepHid (HZ2.out.below hb23 HZ2.out.lt)
    have HR2 := keepHid (HH.out B A3 n3 c3 _ w3 (by have := HB0.out; have := HB3.out.size; have := HL1.out; omega) (hy3.below (hb23.mono (by have := HB0.out; have := HL1.out; have := hb2.size; omega))) hnc3 hcm3)
    clear hi1 hy3 hb2 hb23
    unfold hdV
    unfold hdC at hw3
    go_wp2_with fail
    refine HR2.out.mono ?_
    rintro e w4 ⟨h2, A4, n4, c4, rfl, hi2, hy4, hnc4, hcm4, hb4⟩
    clear hw3
    obtain ⟨q2, hq2⟩ : ∃ q, w2.heap.size = q := ⟨_, rfl⟩
    have HQ2 := keepHid hq2
    rw [hq2] at HN3
    have hs12 := HB3.out.size
    have hs34 := hb4.size
    have hs1 := HL1.out
    obtain ⟨w5, hw5⟩ : ∃ w5, w4.alloc (.cells (hdC h2) 76) = w5 := ⟨_, rfl⟩
    have hb45 : Below w4.heap.size w4 w5 := by rw [← hw5]; exact (Below.refl _ _).alloc (Nat.le_refl _) _
    have hm5 : Blk w5 w4.heap.size 76 (hdC h2) := by rw [← hw5]; exact Blk.new _ _ _
    have hb35 := hb4.trans (hb45.mono hb4.size)
    have hn5 := HN3.out.below hb35 HN3.out.lt
    have hz5 := HZ3.out.below hb35 HZ3.out.lt
    have HB5 := keepHid (HB3.out.trans (hb35.mono HB3.out.size))
    have HI5 := keepHid (HI3.out.below hb35)
    have HJ5 := keepHid ((hi2.below hb45).low (HB3.out.size))
    have HY5 := keepHid (hy4.below (hb45.mono (by have := HB0.out; omega)))
    have HNC5 := keepHid hnc4
    have HCM5 := keepHid hcm4
    have HS5 : Hid (w1.heap.size ≤ w5.heap.size) := keepHid HB5.out.size
    obtain ⟨q4, hq4⟩ : ∃ q, w4.heap.size = q := ⟨_, rfl⟩
    rw [hq4] at hm5
    clear hi2 hy4 hb4 hb45 hb35 HR1 HR2 HI1 HY3 HB2 HZ2 HN3 HI3 HZ3 HB3
    unfold hdV
    unfold hdC at hw5
    go_upto_region 18 with fail
    try rw [hw5]
    try rw [hq2]
    try rw [hq4]
    clear hw5 hq2 hq4
    obtain ⟨k0, k1, k2, k3, k4, k5, kf⟩ := blk6 hn5
    obtain ⟨l0, l1, l2, l3, l4, l5, lf⟩ := blk6 hm5
    obtain ⟨z0, z1, z2, z3, z4, z5, zf⟩ := blk6 hz5
    have hlt5 : w.heap.size < w5.heap.size := hz5.lt
    clear hn5 hm5 hz5 hs12 hs34 hs1
    generalize strB (bldL d ns').1 = S1 at *
    generalize strB (bldL d (bldL d ns').2.2).1 = S2 at *
    generalize strB ([40] ++ (bldL d ns').1) = S3 at *
    generalize strB ([40] ++ (bldL d ns').1 ++ [124, 40]) = S4 at *
    generalize strB ([40] ++ (bldL d ns').1 ++ [124, 40] ++ (bldL d (bldL d ns').2.2).1) = S5 at *
    obtain ⟨S6, hS6⟩ : ∃ S, strB ([40] ++ (bldL d ns').1 ++ [124, 40] ++ (bldL d (bldL d ns').2.2).1 ++ [41, 41]) = S := ⟨_, rfl⟩
    rw [hS6] at a4
    have HS6 := keepHid hS6
    clear hS6
    go_region
    all_goals
      go_wp2
      obtain ⟨f1, f2, f3⟩ := fin_one HB1.out HB5.out hlt5 #[.int .i64 h1.k, .int .u64 (h1.s.a.toNat : Int), .int .u64 (h1.s.b.toNat : Int), .int .u64 (h1.s.c.toNat : Int), .int .u64 (h1.s.d.toNat : Int), .slice h1.A h1.n h1.c, .int .i64 h2.k, .int .u64 (h2.s.a.toNat : Int), .int .u64 (h2.s.b.toNat : Int), .int .u64 (h2.s.c.toNat : Int), .int .u64 (h2.s.d.toNat : Int), .slice h2.A h2.n h2.c] (.int .i64 3) (.int .u64 0) (.int .u64 0) (.int .u64 0) (.int .u64 0) (.slice (some ⟨w5.heap.size, 0, none⟩) 2 2)
      have hlo := HL1.out
      have hs5 := HS5.out
      refine ⟨by rfl, .tuple #[.string S6, hdV ⟨3, st0, some ⟨w5.heap.size, 0, none⟩, 2, 2⟩, .slice A4 n4 c4], by rw [results_tct rfl]; go_simp; rfl, build_post HE.out HS6.out ?_ ?_ HNC5.out HCM5.out f1⟩
      · refine ⟨w5.heap.size, 2, h1, h2, rfl, Nat.le_refl _, by unfold maxLen; omega, Nat.le_of_lt hlt5, (blk_at1 f3).1, (blk_at1 f3).2, ?_, ?_⟩
        · exact HI5.out.move (fun b hb hl => f2 b (by have : w1.heap.size ≤ b := hb; omega) hl) (fun b hb _ => by have : w1.heap.size ≤ b := hb; show w.heap.size ≤ b; omega)
        · exact HJ5.out.move (fun b hb hl => f2 b (by have : w1.heap.size ≤ b := hb; omega) hl) (fun b hb _ => by have : w1.heap.size ≤ b := hb; show w.heap.size ≤ b; omega)
      · exact HY5.out.keep fun p hp => World.cell?_of_block (f2 p.block (by have := HB0.out; omega) (by have := HB0.out; omega))





set_option maxRecDepth 100000 in
set_option maxHeartbeats 2000000 in
theorem build_star (B d : Nat) (hd : d ≤ 2) (H : BuildSpec d) (A : Option Addr) (n c : Nat) (ns : List UInt8) (w : World) (hB : B ≤ w.heap.size) (hy : Bys w B A n ns) (hn : 1 ≤ n) (hnc : n ≤ c) (hcm : c ≤ 9223372036854775807) (x0 : UInt8) (h0 : ns[0]? = some x0) (hj : x0.toNat % 9 = 4) :
    Calls Tryz.prog 34 #[.slice A n c, .int .i64 ((d : Int) + 1)] w (BuildPost B (d + 1) ns w) := by
  obtain ⟨w1, hw1⟩ : ∃ w1, w.alloc (.cells #[.int .i64 0, .int .u64 0, .int .u64 0, .int .u64 0, .int .u64 0, .slice none 0 0] 76) = w1 := ⟨_, rfl⟩
  have HZ1 := keepHid (node_new hw1)
  have HL1 : Hid (w.heap.size < w1.heap.size) := keepHid (by rw [← hw1]; simp)
  have hb1 : Below w.heap.size w w1 := by rw [← hw1]; exact (Below.refl _ _).alloc (Nat.le_refl _) _
  have HB1 := keepHid hb1
  have HY := keepHid hy
  have HLN := keepHid hy.len
  obtain ⟨ad, x, rfl, had, hx, hcell⟩ := hy.at_ (k := 0) (by omega)
  have hca : w1.cell? ad = some (.int .u8 (x.toNat : Int)) := by
    have h0 : ad.add 0 = ad := by unfold Addr.add; simp
    have := (hb1.cell (show (ad.add 0).block < w.heap.size by rw [ad_block]; omega)).trans hcell
    rwa [h0] at this
  obtain ⟨ns', hns⟩ : ∃ ns', ns = x :: ns' := by
    cases ns with
    | nil => simp at hx
    | cons a r => simp at hx; subst hx; exact ⟨r, rfl⟩
  subst hns
  have hsl := run_tail1 (some ad) n c hn hnc
  obtain ⟨A2, hA2⟩ : ∃ A2, (if c = 1 then some ad else (some ad).map (·.add 1)) = A2 := ⟨_, rfl⟩
  rw [hA2] at hsl
  have HB0 := keepHid hB
  have HY2 : Hid (Bys w B A2 (n - 1) ns') := keepHid (by
    have := hy.cut hn hnc
    rw [hA2] at this
    exact this)
  obtain ⟨n2, hn2⟩ : ∃ n2, n - 1 = n2 := ⟨_, rfl⟩
  obtain ⟨c2, hc2⟩ : ∃ c2, c - 1 = c2 := ⟨_, rfl⟩
  rw [hn2, hc2] at hsl
  rw [hn2] at HY2
  have HNC2 : Hid (n2 ≤ c2) := keepHid (by omega)
  have HCM2 : Hid (c2 ≤ 9223372036854775807) := keepHid (by omega)
  obtain ⟨y, hyx⟩ : ∃ y, x.toNat = y := ⟨_, rfl⟩
  have hy256 : y < 256 := by rw [← hyx]; exact u8lt x
  rw [hyx] at hca
  have hn' : (1 : Int) ≤ (n : Int) := by omega
  have hn'' : ((n : Int) == 0) = false := by simp; omega
  obtain rfl : x0 = x := by simpa using h0.symm
  have HE : Hid (bldL (d + 1) (x0 :: ns') = ([40] ++ (bldL d ns').1 ++ [41, 42], .star (bldL d ns').2.1, (bldL d ns').2.2)) := keepHid (by rw [bldL, if_neg (by omega), if_neg (by omega), if_pos hj])
  have hl1 := bld_len d ns'
  have hM : bldM d ≤ 43 := by rcases (by omega : d = 0 ∨ d = 1 ∨ d = 2) with rfl | rfl | rfl <;> decide
  have HR1 := keepHid (H B A2 n2 c2 ns')
  have a1 : ∀ w, (Op.stringOp .add ⟨#[40]⟩ (strB (bldL d ns').1)).run Tryz.prog w = .ok (.string (strB ([40] ++ (bldL d ns').1))) w := fun w => run_strAdd [40] _ (by simp; omega) w
  have a2 : ∀ w, (Op.stringOp .add (strB ([40] ++ (bldL d ns').1)) ⟨#[41, 42]⟩).run Tryz.prog w = .ok (.string (strB ([40] ++ (bldL d ns').1 ++ [41, 42]))) w := fun w => run_strAdd _ [41, 42] (by simp; omega) w
  rw [hyx] at hj
  have e1 : (y : Int) % 9 = 4 := by omega
  clear hy hb1 hx hcell had hA2 hn2 hc2 hyx hl1 hM H h0 hj
  go_enter Tryz.func34, Tryz.ntmps34
  go_wp2_with fail
  refine (HR1.out w1 (Nat.le_trans HB0.out HB1.out.size) (HY2.out.below (HB1.out.mono HB0.out)) HNC2.out HCM2.out).mono ?_
  rintro e w2 ⟨h1, A3, n3, c3, rfl, hi1, hy3, hnc3, hcm3, hb2⟩
  clear hw1 hca hsl
  obtain ⟨w5, hw5⟩ : ∃ w5, w2.alloc (.cells (hdC h1) 76) = w5 := ⟨_, rfl⟩
  have hb23 : Below w2.heap.size w2 w5 := by rw [← hw5]; exact (Below.refl _ _).alloc (Nat.le_refl _) _
  have hn5 : Blk w5 w2.heap.size 76 (hdC h1) := by rw [← hw5]; exact Blk.new _ _ _
  have hz5 := (HZ1.out.below hb2 HZ1.out.lt).below hb23 (HZ1.out.below hb2 HZ1.out.lt).lt
  have HB5 := keepHid (hb2.trans (hb23.mono hb2.size))
  have HI5 := keepHid (hi1.below hb23)
  have HY5 := keepHid (hy3.below (hb23.mono (by have := HB0.out; have := HL1.out; have := hb2.size; omega)))
  have HS5 : Hid (w1.heap.size ≤ w5.heap.size) := keepHid HB5.out.size
  obtain ⟨q2, hq2⟩ : ∃ q, w2.heap.size = q := ⟨_, rfl⟩
  rw [hq2] at hn5
  clear hi1 hy3 hb2 hb23 HR1
  unfold hdV
  unfold hdC at hw5
  go_upto_region 21 with fail
  try rw [hw5]
  try rw [hq2]
  clear hw5 hq2
  obtain ⟨k0, k1, k2, k3, k4, k5, kf⟩ := blk6 hn5
  obtain ⟨z0, z1, z2, z3, z4, z5, zf⟩ := blk6 hz5
  have hlt5 : w.heap.size < w5.heap.size := hz5.lt
  have hq5 : q2 < w5.heap.size := hn5.lt
  clear hn5 hz5
  generalize strB (bldL d ns').1 = S1 at *
  generalize strB ([40] ++ (bldL d ns').1) = S3 at *
  obtain ⟨S6, hS6⟩ : ∃ S, strB ([40] ++ (bldL d ns').1 ++ [41, 42]) = S := ⟨_, rfl⟩
  rw [hS6] at a2
  have HS6 := keepHid hS6
  clear hS6
  go_region
  all_goals
    go_wp2
    obtain ⟨f1, f2, f3⟩ := fin_one HB1.out HB5.out hlt5 #[.int .i64 h1.k, .int .u64 (h1.s.a.toNat : Int), .int .u64 (h1.s.b.toNat : Int), .int .u64 (h1.s.c.toNat : Int), .int .u64 (h1.s.d.toNat : Int), .slice h1.A h1.n h1.c] (.int .i64 4) (.int .u64 0) (.int .u64 0) (.int .u64 0) (.int .u64 0) (.slice (some ⟨w5.heap.size, 0, none⟩) 1 1)
    have hlo := HL1.out
    have hs5 := HS5.out
    refine ⟨by rfl, .tuple #[.string S6, hdV ⟨4, st0, some ⟨w5.heap.size, 0, none⟩, 1, 1⟩, .slice A3 n3 c3], by rw [results_tct rfl]; go_simp; rfl, build_post HE.out HS6.out ?_ ?_ hnc3 hcm3 f1⟩
    · refine ⟨w5.heap.size, 1, h1, rfl, Nat.le_refl _, by unfold maxLen; omega, Nat.le_of_lt hlt5, blk_at f3, ?_⟩
      exact HI5.out.move (fun b hb hl => f2 b (by have : w1.heap.size ≤ b := hb; omega) hl) (fun b hb _ => by have : w1.heap.size ≤ b := hb; show w.heap.size ≤ b; omega)
    · exact HY5.out.keep fun p hp => World.cell?_of_block (f2 p.block (by have := HB0.out; omega) (by have := HB0.out; omega))
set_option maxRecDepth 100000 in
set_option maxHeartbeats 2000000 in
theorem build_opt (B d : Nat) (hd : d ≤ 2) (H : BuildSpec d) (A : Option Addr) (n c : Nat) (ns : List UInt8) (w : World) (hB : B ≤ w.heap.size) (hy : Bys w B A n ns) (hn : 1 ≤ n) (hnc : n ≤ c) (hcm : c ≤ 9223372036854775807) (x0 : UInt8) (h0 : ns[0]? = some x0) (hj : x0.toNat % 9 = 5) :
    Calls Tryz.prog 34 #[.slice A n c, .int .i64 ((d : Int) + 1)] w (BuildPost B (d + 1) ns w) := by
  obtain ⟨w1, hw1⟩ : ∃ w1, w.alloc (.cells #[.int .i64 0, .int .u64 0, .int .u64 0, .int .u64 0, .int .u64 0, .slice none 0 0] 76) = w1 := ⟨_, rfl⟩
  have HZ1 := keepHid (node_new hw1)
  have HL1 : Hid (w.heap.size < w1.heap.size) := keepHid (by rw [← hw1]; simp)
  have hb1 : Below w.heap.size w w1 := by rw [← hw1]; exact (Below.refl _ _).alloc (Nat.le_refl _) _
  have HB1 := keepHid hb1
  have HY := keepHid hy
  have HLN := keepHid hy.len
  obtain ⟨ad, x, rfl, had, hx, hcell⟩ := hy.at_ (k := 0) (by omega)
  have hca : w1.cell? ad = some (.int .u8 (x.toNat : Int)) := by
    have h0 : ad.add 0 = ad := by unfold Addr.add; simp
    have := (hb1.cell (show (ad.add 0).block < w.heap.size by rw [ad_block]; omega)).trans hcell
    rwa [h0] at this
  obtain ⟨ns', hns⟩ : ∃ ns', ns = x :: ns' := by
    cases ns with
    | nil => simp at hx
    | cons a r => simp at hx; subst hx; exact ⟨r, rfl⟩
  subst hns
  have hsl := run_tail1 (some ad) n c hn hnc
  obtain ⟨A2, hA2⟩ : ∃ A2, (if c = 1 then some ad else (some ad).map (·.add 1)) = A2 := ⟨_, rfl⟩
  rw [hA2] at hsl
  have HB0 := keepHid hB
  have HY2 : Hid (Bys w B A2 (n - 1) ns') := keepHid (by
    have := hy.cut hn hnc
    rw [hA2] at this
    exact this)
  obtain ⟨n2, hn2⟩ : ∃ n2, n - 1 = n2 := ⟨_, rfl⟩
  obtain ⟨c2, hc2⟩ : ∃ c2, c - 1 = c2 := ⟨_, rfl⟩
  rw [hn2, hc2] at hsl
  rw [hn2] at HY2
  have HNC2 : Hid (n2 ≤ c2) := keepHid (by omega)
  have HCM2 : Hid (c2 ≤ 9223372036854775807) := keepHid (by omega)
  obtain ⟨y, hyx⟩ : ∃ y, x.toNat = y := ⟨_, rfl⟩
  have hy256 : y < 256 := by rw [← hyx]; exact u8lt x
  rw [hyx] at hca
  have hn' : (1 : Int) ≤ (n : Int) := by omega
  have hn'' : ((n : Int) == 0) = false := by simp; omega
  obtain rfl : x0 = x := by simpa using h0.symm
  have HE : Hid (bldL (d + 1) (x0 :: ns') = ([40] ++ (bldL d ns').1 ++ [41, 63], .alt (bldL d ns').2.1 .nil, (bldL d ns').2.2)) := keepHid (by rw [bldL, if_neg (by omega), if_neg (by omega), if_neg (by omega), if_pos hj])
  have hl1 := bld_len d ns'
  have hM : bldM d ≤ 43 := by rcases (by omega : d = 0 ∨ d = 1 ∨ d = 2) with rfl | rfl | rfl <;> decide
  have HR1 := keepHid (H B A2 n2 c2 ns')
  have a1 : ∀ w, (Op.stringOp .add ⟨#[40]⟩ (strB (bldL d ns').1)).run Tryz.prog w = .ok (.string (strB ([40] ++ (bldL d ns').1))) w := fun w => run_strAdd [40] _ (by simp; omega) w
  have a2 : ∀ w, (Op.stringOp .add (strB ([40] ++ (bldL d ns').1)) ⟨#[41, 63]⟩).run Tryz.prog w = .ok (.string (strB ([40] ++ (bldL d ns').1 ++ [41, 63]))) w := fun w => run_strAdd _ [41, 63] (by simp; omega) w
  rw [hyx] at hj
  have e1 : (y : Int) % 9 = 5 := by omega
  clear hy hb1 hx hcell had hA2 hn2 hc2 hyx hl1 hM H h0 hj
  go_enter Tryz.func34, Tryz.ntmps34
  go_wp2_with fail
  refine (HR1.out w1 (Nat.le_trans HB0.out HB1.out.size) (HY2.out.below (HB1.out.mono HB0.out)) HNC2.out HCM2.out).mono ?_
  rintro e w2 ⟨h1, A3, n3, c3, rfl, hi1, hy3, hnc3, hcm3, hb2⟩
  clear hw1 hca hsl
  obtain ⟨w5, hw5⟩ : ∃ w5, w2.alloc (.cells (hdC h1) 76) = w5 := ⟨_, rfl⟩
  have hb23 : Below w2.heap.size w2 w5 := by rw [← hw5]; exact (Below.refl _ _).alloc (Nat.le_refl _) _
  have hn5 : Blk w5 w2.heap.size 76 (hdC h1) := by rw [← hw5]; exact Blk.new _ _ _
  have hz5 := (HZ1.out.below hb2 HZ1.out.lt).below hb23 (HZ1.out.below hb2 HZ1.out.lt).lt
  have HB5 := keepHid (hb2.trans (hb23.mono hb2.size))
  have HI5 := keepHid (hi1.below hb23)
  have HY5 := keepHid (hy3.below (hb23.mono (by have := HB0.out; have := HL1.out; have := hb2.size; omega)))
  have HS5 : Hid (w1.heap.size ≤ w5.heap.size) := keepHid HB5.out.size
  obtain ⟨q2, hq2⟩ : ∃ q, w2.heap.size = q := ⟨_, rfl⟩
  rw [hq2] at hn5
  clear hi1 hy3 hb2 hb23 HR1
  unfold hdV
  unfold hdC at hw5
  go_upto_region 24 with fail
  try rw [hw5]
  try rw [hq2]
  clear hw5 hq2
  obtain ⟨k0, k1, k2, k3, k4, k5, kf⟩ := blk6 hn5
  obtain ⟨z0, z1, z2, z3, z4, z5, zf⟩ := blk6 hz5
  have hlt5 : w.heap.size < w5.heap.size := hz5.lt
  have hq5 : q2 < w5.heap.size := hn5.lt
  clear hn5 hz5
  generalize strB (bldL d ns').1 = S1 at *
  generalize strB ([40] ++ (bldL d ns').1) = S3 at *
  obtain ⟨S6, hS6⟩ : ∃ S, strB ([40] ++ (bldL d ns').1 ++ [41, 63]) = S := ⟨_, rfl⟩
  rw [hS6] at a2
  have HS6 := keepHid hS6
  clear hS6
  go_region
  all_goals
    go_wp2
    obtain ⟨f1, f2, f3⟩ := fin_one HB1.out HB5.out hlt5 #[.int .i64 h1.k, .int .u64 (h1.s.a.toNat : Int), .int .u64 (h1.s.b.toNat : Int), .int .u64 (h1.s.c.toNat : Int), .int .u64 (h1.s.d.toNat : Int), .slice h1.A h1.n h1.c, .int .i64 0, .int .u64 0, .int .u64 0, .int .u64 0, .int .u64 0, .slice none 0 0] (.int .i64 3) (.int .u64 0) (.int .u64 0) (.int .u64 0) (.int .u64 0) (.slice (some ⟨w5.heap.size, 0, none⟩) 2 2)
    have hlo := HL1.out
    have hs5 := HS5.out
    refine ⟨by rfl, .tuple #[.string S6, hdV ⟨3, st0, some ⟨w5.heap.size, 0, none⟩, 2, 2⟩, .slice A3 n3 c3], by rw [results_tct rfl]; go_simp; rfl, build_post HE.out HS6.out ?_ ?_ hnc3 hcm3 f1⟩
    · refine ⟨w5.heap.size, 2, h1, hd0, rfl, Nat.le_refl _, by unfold maxLen; omega, Nat.le_of_lt hlt5, (blk_at1 (k := hd0) f3).1, (blk_at1 (h := h1) (k := hd0) f3).2, ?_, rfl⟩
      exact HI5.out.move (fun b hb hl => f2 b (by have : w1.heap.size ≤ b := hb; omega) hl) (fun b hb _ => by have : w1.heap.size ≤ b := hb; show w.heap.size ≤ b; omega)
    · exact HY5.out.keep fun p hp => World.cell?_of_block (f2 p.block (by have := HB0.out; omega) (by have := HB0.out; omega))





theorem fin_two {w w1 w5 : World} (hb1 : Below w.heap.size w w1) (h15 : Below w1.heap.size w1 w5) (hl : w.heap.size < w5.heap.size) (cs cs2 : Array Value) (u0 u1 u2 u3 u4 u5 : Value) :
    Below w.heap.size w (((((((((w5.setCell ⟨w.heap.size, 0, none⟩ u0).setCell ⟨w.heap.size, 1, none⟩ u1).setCell ⟨w.heap.size, 2, none⟩ u2).setCell ⟨w.heap.size, 3, none⟩ u3).setCell ⟨w.heap.size, 4, none⟩ u4).setCell ⟨w.heap.size, 5, none⟩ u5).alloc (.cells cs 76)).alloc (.cells cs2 76)).drew) ∧
    (∀ j, j ≠ w.heap.size → j < w5.heap.size → (((((((((w5.setCell ⟨w.heap.size, 0, none⟩ u0).setCell ⟨w.heap.size, 1, none⟩ u1).setCell ⟨w.heap.size, 2, none⟩ u2).setCell ⟨w.heap.size, 3, none⟩ u3).setCell ⟨w.heap.size, 4, none⟩ u4).setCell ⟨w.heap.size, 5, none⟩ u5).alloc (.cells cs 76)).alloc (.cells cs2 76)).drew).heap[j]? = w5.heap[j]?) ∧
    Blk (((((((((w5.setCell ⟨w.heap.size, 0, none⟩ u0).setCell ⟨w.heap.size, 1, none⟩ u1).setCell ⟨w.heap.size, 2, none⟩ u2).setCell ⟨w.heap.size, 3, none⟩ u3).setCell ⟨w.heap.size, 4, none⟩ u4).setCell ⟨w.heap.size, 5, none⟩ u5).alloc (.cells cs 76)).alloc (.cells cs2 76)).drew) w5.heap.size 76 cs ∧ Blk (((((((((w5.setCell ⟨w.heap.size, 0, none⟩ u0).setCell ⟨w.heap.size, 1, none⟩ u1).setCell ⟨w.heap.size, 2, none⟩ u2).setCell ⟨w.heap.size, 3, none⟩ u3).setCell ⟨w.heap.size, 4, none⟩ u4).setCell ⟨w.heap.size, 5, none⟩ u5).alloc (.cells cs 76)).alloc (.cells cs2 76)).drew) (w5.heap.size + 1) 76 cs2 := by
  have hs : ((((((w5.setCell ⟨w.heap.size, 0, none⟩ u0).setCell ⟨w.heap.size, 1, none⟩ u1).setCell ⟨w.heap.size, 2, none⟩ u2).setCell ⟨w.heap.size, 3, none⟩ u3).setCell ⟨w.heap.size, 4, none⟩ u4).setCell ⟨w.heap.size, 5, none⟩ u5).heap.size = w5.heap.size := by simp
  have hb6 := below_six (hb1.trans (h15.mono hb1.size)) (Nat.le_refl _) u0 u1 u2 u3 u4 u5
  have hf : ∀ j, j ≠ w.heap.size → ((((((w5.setCell ⟨w.heap.size, 0, none⟩ u0).setCell ⟨w.heap.size, 1, none⟩ u1).setCell ⟨w.heap.size, 2, none⟩ u2).setCell ⟨w.heap.size, 3, none⟩ u3).setCell ⟨w.heap.size, 4, none⟩ u4).setCell ⟨w.heap.size, 5, none⟩ u5).heap[j]? = w5.heap[j]? := fun j h => six_far h
  generalize ((((((w5.setCell ⟨w.heap.size, 0, none⟩ u0).setCell ⟨w.heap.size, 1, none⟩ u1).setCell ⟨w.heap.size, 2, none⟩ u2).setCell ⟨w.heap.size, 3, none⟩ u3).setCell ⟨w.heap.size, 4, none⟩ u4).setCell ⟨w.heap.size, 5, none⟩ u5) = W6 at hs hb6 hf ⊢
  have e1 : (W6.alloc (.cells cs 76)).heap.size = w5.heap.size + 1 := by rw [World.size_alloc, hs]
  refine ⟨((hb6.alloc hb6.size _).alloc (by rw [e1]; have := hb6.size; omega) _).drew, fun j h1 h2 => ?_, ((Blk.new_at _ _ _ _ hs.symm).alloc _).drew, (Blk.new_at _ _ _ _ e1.symm).drew⟩
  show (World.alloc _ _).heap[j]? = _
  rw [Below.heap_alloc _ _ _ (by rw [e1]; omega), Below.heap_alloc _ _ _ (by rw [hs]; exact h2), hf j h1]
set_option maxRecDepth 100000 in
set_option maxHeartbeats 2000000 in
theorem build_plus (B d : Nat) (hd : d ≤ 2) (H : BuildSpec d) (A : Option Addr) (n c : Nat) (ns : List UInt8) (w : World) (hB : B ≤ w.heap.size) (hy : Bys w B A n ns) (hn : 1 ≤ n) (hnc : n ≤ c) (hcm : c ≤ 9223372036854775807) (x0 : UInt8) (h0 : ns[0]? = some x0) (hj : x0.toNat % 9 = 6) :
    Calls Tryz.prog 34 #[.slice A n c, .int .i64 ((d : Int) + 1)] w (BuildPost B (d + 1) ns w) := by
  obtain ⟨w1, hw1⟩ : ∃ w1, w.alloc (.cells #[.int .i64 0, .int .u64 0, .int .u64 0, .int .u64 0, .int .u64 0, .slice none 0 0] 76) = w1 := ⟨_, rfl⟩
  have HZ1 := keepHid (node_new hw1)
  have HL1 : Hid (w.heap.size < w1.heap.size) := keepHid (by rw [← hw1]; simp)
  have hb1 : Below w.heap.size w w1 := by rw [← hw1]; exact (Below.refl _ _).alloc (Nat.le_refl _) _
  have HB1 := keepHid hb1
  have HY := keepHid hy
  have HLN := keepHid hy.len
  obtain ⟨ad, x, rfl, had, hx, hcell⟩ := hy.at_ (k := 0) (by omega)
  have hca : w1.cell? ad = some (.int .u8 (x.toNat : Int)) := by
    have h0 : ad.add 0 = ad := by unfold Addr.add; simp
    have := (hb1.cell (show (ad.add 0).block < w.heap.size by rw [ad_block]; omega)).trans hcell
    rwa [h0] at this
  obtain ⟨ns', hns⟩ : ∃ ns', ns = x :: ns' := by
    cases ns with
    | nil => simp at hx
    | cons a r => simp at hx; subst hx; exact ⟨r, rfl⟩
  subst hns
  have hsl := run_tail1 (some ad) n c hn hnc
  obtain ⟨A2, hA2⟩ : ∃ A2, (if c = 1 then some ad else (some ad).map (·.add 1)) = A2 := ⟨_, rfl⟩
  rw [hA2] at hsl
  have HB0 := keepHid hB
  have HY2 : Hid (Bys w B A2 (n - 1) ns') := keepHid (by
    have := hy.cut hn hnc
    rw [hA2] at this
    exact this)
  obtain ⟨n2, hn2⟩ : ∃ n2, n - 1 = n2 := ⟨_, rfl⟩
  obtain ⟨c2, hc2⟩ : ∃ c2, c - 1 = c2 := ⟨_, rfl⟩
  rw [hn2, hc2] at hsl
  rw [hn2] at HY2
  have HNC2 : Hid (n2 ≤ c2) := keepHid (by omega)
  have HCM2 : Hid (c2 ≤ 9223372036854775807) := keepHid (by omega)
  obtain ⟨y, hyx⟩ : ∃ y, x.toNat = y := ⟨_, rfl⟩
  have hy256 : y < 256 := by rw [← hyx]; exact u8lt x
  rw [hyx] at hca
  have hn' : (1 : Int) ≤ (n : Int) := by omega
  have hn'' : ((n : Int) == 0) = false := by simp; omega
  obtain rfl : x0 = x := by simpa using h0.symm
  have HE : Hid (bldL (d + 1) (x0 :: ns') = ([40] ++ (bldL d ns').1 ++ [41, 43], .thn (bldL d ns').2.1 (.star (bldL d ns').2.1), (bldL d ns').2.2)) := keepHid (by rw [bldL, if_neg (by omega), if_neg (by omega), if_neg (by omega), if_neg (by omega), if_pos hj])
  have hl1 := bld_len d ns'
  have hM : bldM d ≤ 43 := by rcases (by omega : d = 0 ∨ d = 1 ∨ d = 2) with rfl | rfl | rfl <;> decide
  have HR1 := keepHid (H B A2 n2 c2 ns')
  have a1 : ∀ w, (Op.stringOp .add ⟨#[40]⟩ (strB (bldL d ns').1)).run Tryz.prog w = .ok (.string (strB ([40] ++ (bldL d ns').1))) w := fun w => run_strAdd [40] _ (by simp; omega) w
  have a2 : ∀ w, (Op.stringOp .add (strB ([40] ++ (bldL d ns').1)) ⟨#[41, 43]⟩).run Tryz.prog w = .ok (.string (strB ([40] ++ (bldL d ns').1 ++ [41, 43]))) w := fun w => run_strAdd _ [41, 43] (by simp; omega) w
  rw [hyx] at hj
  have e1 : (y : Int) % 9 = 6 := by omega
  clear hy hb1 hx hcell had hA2 hn2 hc2 hyx hl1 hM H h0 hj
  go_enter Tryz.func34, Tryz.ntmps34
  go_wp2_with fail
  refine (HR1.out w1 (Nat.le_trans HB0.out HB1.out.size) (HY2.out.below (HB1.out.mono HB0.out)) HNC2.out HCM2.out).mono ?_
  rintro e w2 ⟨h1, A3, n3, c3, rfl, hi1, hy3, hnc3, hcm3, hb2⟩
  clear hw1 hca hsl
  obtain ⟨w5, hw5⟩ : ∃ w5, w2.alloc (.cells (hdC h1) 76) = w5 := ⟨_, rfl⟩
  have hb23 : Below w2.heap.size w2 w5 := by rw [← hw5]; exact (Below.refl _ _).alloc (Nat.le_refl _) _
  have hn5 : Blk w5 w2.heap.size 76 (hdC h1) := by rw [← hw5]; exact Blk.new _ _ _
  have hz5 := (HZ1.out.below hb2 HZ1.out.lt).below hb23 (HZ1.out.below hb2 HZ1.out.lt).lt
  have HB5 := keepHid (hb2.trans (hb23.mono hb2.size))
  have HI5 := keepHid (hi1.below hb23)
  have HY5 := keepHid (hy3.below (hb23.mono (by have := HB0.out; have := HL1.out; have := hb2.size; omega)))
  have HS5 : Hid (w1.heap.size ≤ w5.heap.size) := keepHid HB5.out.size
  obtain ⟨q2, hq2⟩ : ∃ q, w2.heap.size = q := ⟨_, rfl⟩
  rw [hq2] at hn5
  clear hi1 hy3 hb2 hb23 HR1
  unfold hdV
  unfold hdC at hw5
  go_upto_region 27 with fail
  try rw [hw5]
  try rw [hq2]
  clear hw5 hq2
  obtain ⟨k0, k1, k2, k3, k4, k5, kf⟩ := blk6 hn5
  obtain ⟨z0, z1, z2, z3, z4, z5, zf⟩ := blk6 hz5
  have hlt5 : w.heap.size < w5.heap.size := hz5.lt
  have hq5 : q2 < w5.heap.size := hn5.lt
  clear hn5 hz5
  generalize strB (bldL d ns').1 = S1 at *
  generalize strB ([40] ++ (bldL d ns').1) = S3 at *
  obtain ⟨S6, hS6⟩ : ∃ S, strB ([40] ++ (bldL d ns').1 ++ [41, 43]) = S := ⟨_, rfl⟩
  rw [hS6] at a2
  have HS6 := keepHid hS6
  clear hS6
  go_region
  all_goals
    go_wp2
    obtain ⟨f1, f2, f3, f4⟩ := fin_two HB1.out HB5.out hlt5 #[.int .i64 h1.k, .int .u64 (h1.s.a.toNat : Int), .int .u64 (h1.s.b.toNat : Int), .int .u64 (h1.s.c.toNat : Int), .int .u64 (h1.s.d.toNat : Int), .slice h1.A h1.n h1.c] #[.int .i64 h1.k, .int .u64 (h1.s.a.toNat : Int), .int .u64 (h1.s.b.toNat : Int), .int .u64 (h1.s.c.toNat : Int), .int .u64 (h1.s.d.toNat : Int), .slice h1.A h1.n h1.c, .int .i64 4, .int .u64 0, .int .u64 0, .int .u64 0, .int .u64 0, .slice (some ⟨w5.heap.size, 0, none⟩) 1 1] (.int .i64 2) (.int .u64 0) (.int .u64 0) (.int .u64 0) (.int .u64 0) (.slice (some ⟨w5.heap.size + 1, 0, none⟩) 2 2)
    have hlo := HL1.out
    have hs5 := HS5.out
    refine ⟨by rfl, .tuple #[.string S6, hdV ⟨2, st0, some ⟨w5.heap.size + 1, 0, none⟩, 2, 2⟩, .slice A3 n3 c3], by rw [results_tct rfl]; go_simp; rfl, build_post HE.out HS6.out ?_ ?_ hnc3 hcm3 f1⟩
    · refine ⟨w5.heap.size + 1, 2, h1, ⟨4, st0, some ⟨w5.heap.size, 0, none⟩, 1, 1⟩, rfl, Nat.le_refl _, by unfold maxLen; omega, by show w.heap.size ≤ _; omega, (blk_at1 (h := h1) (k := ⟨4, st0, some ⟨w5.heap.size, 0, none⟩, 1, 1⟩) f4).1, (blk_at1 (h := h1) (k := ⟨4, st0, some ⟨w5.heap.size, 0, none⟩, 1, 1⟩) f4).2, ?_, w5.heap.size, 1, h1, rfl, Nat.le_refl _, by unfold maxLen; omega, Nat.le_of_lt hlt5, blk_at f3, ?_⟩
      · exact HI5.out.move (fun b hb hl => f2 b (by have : w1.heap.size ≤ b := hb; omega) hl) (fun b hb _ => by have : w1.heap.size ≤ b := hb; show w.heap.size ≤ b; omega)
      · exact HI5.out.move (fun b hb hl => f2 b (by have : w1.heap.size ≤ b := hb; omega) hl) (fun b hb _ => by have : w1.heap.size ≤ b := hb; show w.heap.size ≤ b; omega)
    · exact HY5.out.keep fun p hp => World.cell?_of_block (f2 p.block (by have := HB0.out; omega) (by have := HB0.out; omega))





theorem not0 (w : World) : Calls Tryz.prog 56 #[.agg #[.int .u64 0, .int .u64 0, .int .u64 0, .int .u64 0]] w fun e w' => e = .returned (stV (notS st0)) ∧ Below w.heap.size w w' := not_any st0 w
set_option maxRecDepth 100000 in
set_option maxHeartbeats 2000000 in
theorem build_dot (B d : Nat) (A : Option Addr) (n c : Nat) (ns : List UInt8) (w : World) (hB : B ≤ w.heap.size) (hy : Bys w B A n ns) (hn : 1 ≤ n) (hnc : n ≤ c) (hcm : c ≤ 9223372036854775807) (x0 : UInt8) (h0 : ns[0]? = some x0) (hj : x0.toNat % 9 = 7) :
    Calls Tryz.prog 34 #[.slice A n c, .int .i64 ((d : Int) + 1)] w (BuildPost B (d + 1) ns w) := by
  obtain ⟨w1, hw1⟩ : ∃ w1, w.alloc (.cells #[.int .i64 0, .int .u64 0, .int .u64 0, .int .u64 0, .int .u64 0, .slice none 0 0] 76) = w1 := ⟨_, rfl⟩
  have HZ1 := keepHid (node_new hw1)
  have HL1 : Hid (w.heap.size < w1.heap.size) := keepHid (by rw [← hw1]; simp)
  have hb1 : Below w.heap.size w w1 := by rw [← hw1]; exact (Below.refl _ _).alloc (Nat.le_refl _) _
  have HB1 := keepHid hb1
  have HY := keepHid hy
  have HLN := keepHid hy.len
  obtain ⟨ad, x, rfl, had, hx, hcell⟩ := hy.at_ (k := 0) (by omega)
  have hca : w1.cell? ad = some (.int .u8 (x.toNat : Int)) := by
    have h0 : ad.add 0 = ad := by unfold Addr.add; simp
    have := (hb1.cell (show (ad.add 0).block < w.heap.size by rw [ad_block]; omega)).trans hcell
    rwa [h0] at this
  obtain ⟨ns', hns⟩ : ∃ ns', ns = x :: ns' := by
    cases ns with
    | nil => simp at hx
    | cons a r => simp at hx; subst hx; exact ⟨r, rfl⟩
  subst hns
  have hsl := run_tail1 (some ad) n c hn hnc
  obtain ⟨A2, hA2⟩ : ∃ A2, (if c = 1 then some ad else (some ad).map (·.add 1)) = A2 := ⟨_, rfl⟩
  rw [hA2] at hsl
  have HB0 := keepHid hB
  have HY2 : Hid (Bys w B A2 (n - 1) ns') := keepHid (by
    have := hy.cut hn hnc
    rw [hA2] at this
    exact this)
  obtain ⟨n2, hn2⟩ : ∃ n2, n - 1 = n2 := ⟨_, rfl⟩
  obtain ⟨c2, hc2⟩ : ∃ c2, c - 1 = c2 := ⟨_, rfl⟩
  rw [hn2, hc2] at hsl
  rw [hn2] at HY2
  have HNC2 : Hid (n2 ≤ c2) := keepHid (by omega)
  have HCM2 : Hid (c2 ≤ 9223372036854775807) := keepHid (by omega)
  obtain ⟨y, hyx⟩ : ∃ y, x.toNat = y := ⟨_, rfl⟩
  have hy256 : y < 256 := by rw [← hyx]; exact u8lt x
  rw [hyx] at hca
  have hn' : (1 : Int) ≤ (n : Int) := by omega
  have hn'' : ((n : Int) == 0) = false := by simp; omega
  obtain rfl : x0 = x := by simpa using h0.symm
  have HE : Hid (bldL (d + 1) (x0 :: ns') = ([46], .one (notS st0), ns')) := keepHid (by rw [bldL, if_neg (by omega), if_neg (by omega), if_neg (by omega), if_neg (by omega), if_neg (by omega), if_pos hj])
  rw [hyx] at hj
  have e1 : (y : Int) % 9 = 7 := by omega
  clear hy hb1 hx hcell had hA2 hn2 hc2 hyx h0 hj
  go_enter Tryz.func34, Tryz.ntmps34
  go_wp2_with fail
  refine (not0 w1).mono ?_
  rintro e w2 ⟨rfl, hb2⟩
  have HB2 := keepHid hb2
  obtain ⟨z0, z1, z2, z3, z4, z5, zf⟩ := blk6 (HZ1.out.below hb2 HZ1.out.lt)
  clear hb2 hw1
  unfold stV
  go_wp2
  have K := build_fin (B := B) (d := d + 1) (ns := x0 :: ns') (A := A2) (n := n2) (c := c2) (h := ⟨1, notS st0, none, 0, 0⟩) HB0.out HL1.out HB1.out HB2.out (by rw [HE.out]; rfl) (by rw [HE.out]; exact HY2.out) HNC2.out HCM2.out
  exact ⟨by rfl, .tuple #[.string (strB [46]), hdV ⟨1, notS st0, none, 0, 0⟩, .slice A2 n2 c2], by rw [results_tct rfl]; go_simp; exact ⟨rfl, rfl⟩, by have k := K (.int .i64 1) (.int .u64 ((notS st0).a.toNat : Int)) (.int .u64 ((notS st0).b.toNat : Int)) (.int .u64 ((notS st0).c.toNat : Int)) (.int .u64 ((notS st0).d.toNat : Int)) (.slice none 0 0); rw [HE.out] at k; exact k⟩
set_option maxRecDepth 100000 in
set_option maxHeartbeats 2000000 in
theorem build_cls (B d : Nat) (A : Option Addr) (n c : Nat) (ns : List UInt8) (w : World) (hB : B ≤ w.heap.size) (hy : Bys w B A n ns) (hn : 1 ≤ n) (hnc : n ≤ c) (hcm : c ≤ 9223372036854775807) (x0 : UInt8) (h0 : ns[0]? = some x0) (hj : x0.toNat % 9 = 8) :
    Calls Tryz.prog 34 #[.slice A n c, .int .i64 ((d : Int) + 1)] w (BuildPost B (d + 1) ns w) := by
  obtain ⟨w1, hw1⟩ : ∃ w1, w.alloc (.cells #[.int .i64 0, .int .u64 0, .int .u64 0, .int .u64 0, .int .u64 0, .slice none 0 0] 76) = w1 := ⟨_, rfl⟩
  have HZ1 := keepHid (node_new hw1)
  have HL1 : Hid (w.heap.size < w1.heap.size) := keepHid (by rw [← hw1]; simp)
  have hb1 : Below w.heap.size w w1 := by rw [← hw1]; exact (Below.refl _ _).alloc (Nat.le_refl _) _
  have HB1 := keepHid hb1
  have HY := keepHid hy
  have HLN := keepHid hy.len
  obtain ⟨ad, x, rfl, had, hx, hcell⟩ := hy.at_ (k := 0) (by omega)
  have hca : w1.cell? ad = some (.int .u8 (x.toNat : Int)) := by
    have h0 : ad.add 0 = ad := by unfold Addr.add; simp
    have := (hb1.cell (show (ad.add 0).block < w.heap.size by rw [ad_block]; omega)).trans hcell
    rwa [h0] at this
  obtain ⟨ns', hns⟩ : ∃ ns', ns = x :: ns' := by
    cases ns with
    | nil => simp at hx
    | cons a r => simp at hx; subst hx; exact ⟨r, rfl⟩
  subst hns
  have hsl := run_tail1 (some ad) n c hn hnc
  obtain ⟨A2, hA2⟩ : ∃ A2, (if c = 1 then some ad else (some ad).map (·.add 1)) = A2 := ⟨_, rfl⟩
  rw [hA2] at hsl
  have HB0 := keepHid hB
  have HY2 : Hid (Bys w B A2 (n - 1) ns') := keepHid (by
    have := hy.cut hn hnc
    rw [hA2] at this
    exact this)
  obtain ⟨n2, hn2⟩ : ∃ n2, n - 1 = n2 := ⟨_, rfl⟩
  obtain ⟨c2, hc2⟩ : ∃ c2, c - 1 = c2 := ⟨_, rfl⟩
  rw [hn2, hc2] at hsl
  rw [hn2] at HY2
  have HNC2 : Hid (n2 ≤ c2) := keepHid (by omega)
  have HCM2 : Hid (c2 ≤ 9223372036854775807) := keepHid (by omega)
  obtain ⟨y, hyx⟩ : ∃ y, x.toNat = y := ⟨_, rfl⟩
  have hy256 : y < 256 := by rw [← hyx]; exact u8lt x
  rw [hyx] at hca
  have hn' : (1 : Int) ≤ (n : Int) := by omega
  have hn'' : ((n : Int) == 0) = false := by simp; omega
  obtain rfl : x0 = x := by simpa using h0.symm
  have HE : Hid (bldL (d + 1) (x0 :: ns') = ([91, 94, 97, 45, 98, 93], .one (notS (withS (withS st0 97) 98)), ns')) := keepHid (by rw [bldL, if_neg (by omega), if_neg (by omega), if_neg (by omega), if_neg (by omega), if_neg (by omega), if_neg (by omega)])
  rw [hyx] at hj
  have e1 : (y : Int) % 9 = 8 := by omega
  clear hy hb1 hx hcell had hA2 hn2 hc2 hyx h0 hj
  go_enter Tryz.func34, Tryz.ntmps34
  go_wp2_with fail
  refine (with0 97 (by omega) w1).mono ?_
  rintro e w2 ⟨rfl, hb2⟩
  go_wp2_with fail
  refine (with_any (withS st0 97) 98 (by omega) w2).mono ?_
  rintro e w3 ⟨rfl, hb3⟩
  go_wp2_with fail
  refine (not_any (withS (withS st0 97) 98) w3).mono ?_
  rintro e w4 ⟨rfl, hb4⟩
  have hb24 := (hb2.trans (hb3.mono hb2.size)).trans (hb4.mono (Nat.le_trans hb2.size hb3.size))
  have HB2 := keepHid hb24
  obtain ⟨z0, z1, z2, z3, z4, z5, zf⟩ := blk6 (HZ1.out.below hb24 HZ1.out.lt)
  generalize notS (withS (withS st0 97) 98) = s at *
  clear hb2 hb3 hb4 hb24 hw1
  unfold stV
  go_wp2
  have K := build_fin (B := B) (d := d + 1) (ns := x0 :: ns') (A := A2) (n := n2) (c := c2) (h := ⟨1, s, none, 0, 0⟩) HB0.out HL1.out HB1.out HB2.out (by rw [HE.out]; rfl) (by rw [HE.out]; exact HY2.out) HNC2.out HCM2.out
  exact ⟨by rfl, .tuple #[.string (strB [91, 94, 97, 45, 98, 93]), hdV ⟨1, s, none, 0, 0⟩, .slice A2 n2 c2], by rw [results_tct rfl]; go_simp; exact ⟨rfl, rfl⟩, by have k := K (.int .i64 1) (.int .u64 (s.a.toNat : Int)) (.int .u64 (s.b.toNat : Int)) (.int .u64 (s.c.toNat : Int)) (.int .u64 (s.d.toNat : Int)) (.slice none 0 0); rw [HE.out] at k; exact k⟩





theorem BuildPost.alloc {B d : Nat} {ns : List UInt8} {w WF : World} {e : Ending} (hB : B ≤ WF.heap.size) (k : BuildPost B d ns w e WF) (o : Obj) : BuildPost B d ns w e (WF.alloc o) := by
  obtain ⟨h, A, n, c, he, hi, hy, hn, hc, hb⟩ := k
  have hbo : Below WF.heap.size WF (WF.alloc o) := (Below.refl _ _).alloc (Nat.le_refl _) _
  exact ⟨h, A, n, c, he, hi.below hbo, hy.below (hbo.mono hB), hn, hc, hb.trans (hbo.mono hb.size)⟩
theorem abc_at (j : Nat) (hj : j < 3) (w : World) : (Instr.index 9 (.string ⟨#[97, 98, 99]⟩) (.int .u8 (j : Int))).run Tryz.prog w = .ok (.int .u8 ((97 + j : Nat) : Int)) w := by
  rcases (by omega : j = 0 ∨ j = 1 ∨ j = 2) with rfl | rfl | rfl <;> kernel_rfl
theorem conv_one (c : UInt8) (W : World) (q : Nat) (h : W.cell? ⟨q, 0, none⟩ = some (.int .u8 (c.toNat : Int))) : (convert 31 9 (.slice (some ⟨q, 0, none⟩) 1 1)).run Tryz.prog W = .ok (.string (strB [c])) W :=
  run_str (B := q + 1) 31 5 9 Tryz.underlying31 Tryz.underlying5 Tryz.underlying9 ⟨rfl, by unfold maxLen; omega, fun k c' hk => by
    match k with
    | 0 => simp at hk; subst hk; exact ⟨_, rfl, Nat.lt_succ_self _, by rw [zero_add_ad]; exact h⟩
    | k + 1 => simp at hk⟩
set_option maxRecDepth 100000 in
set_option maxHeartbeats 1000000 in
theorem build_zero (B : Nat) (A : Option Addr) (n c : Nat) (ns : List UInt8) (w : World) (hB : B ≤ w.heap.size) (hy : Bys w B A n ns) (hn : 1 ≤ n) (hnc : n ≤ c) (hcm : c ≤ 9223372036854775807) :
    Calls Tryz.prog 34 #[.slice A n c, .int .i64 0] w (BuildPost B 0 ns w) := by
  obtain ⟨w1, hw1⟩ : ∃ w1, w.alloc (.cells #[.int .i64 0, .int .u64 0, .int .u64 0, .int .u64 0, .int .u64 0, .slice none 0 0] 76) = w1 := ⟨_, rfl⟩
  have HZ1 := keepHid (node_new hw1)
  have HL1 : Hid (w.heap.size < w1.heap.size) := keepHid (by rw [← hw1]; simp)
  have hb1 : Below w.heap.size w w1 := by rw [← hw1]; exact (Below.refl _ _).alloc (Nat.le_refl _) _
  have HB1 := keepHid hb1
  have HY := keepHid hy
  have HLN := keepHid hy.len
  obtain ⟨ad, x, rfl, had, hx, hcell⟩ := hy.at_ (k := 0) (by omega)
  have hca : w1.cell? ad = some (.int .u8 (x.toNat : Int)) := by
    have h0 : ad.add 0 = ad := by unfold Addr.add; simp
    have := (hb1.cell (show (ad.add 0).block < w.heap.size by rw [ad_block]; omega)).trans hcell
    rwa [h0] at this
  obtain ⟨ns', hns⟩ : ∃ ns', ns = x :: ns' := by
    cases ns with
    | nil => simp at hx
    | cons a r => simp at hx; subst hx; exact ⟨r, rfl⟩
  subst hns
  have hsl := run_tail1 (some ad) n c hn hnc
  obtain ⟨A2, hA2⟩ : ∃ A2, (if c = 1 then some ad else (some ad).map (·.add 1)) = A2 := ⟨_, rfl⟩
  rw [hA2] at hsl
  have HB0 := keepHid hB
  have HY2 : Hid (Bys w B A2 (n - 1) ns') := keepHid (by
    have := hy.cut hn hnc
    rw [hA2] at this
    exact this)
  obtain ⟨n2, hn2⟩ : ∃ n2, n - 1 = n2 := ⟨_, rfl⟩
  obtain ⟨c2, hc2⟩ : ∃ c2, c - 1 = c2 := ⟨_, rfl⟩
  rw [hn2, hc2] at hsl
  rw [hn2] at HY2
  have HNC2 : Hid (n2 ≤ c2) := keepHid (by omega)
  have HCM2 : Hid (c2 ≤ 9223372036854775807) := keepHid (by omega)
  obtain ⟨y, hyx⟩ : ∃ y, x.toNat = y := ⟨_, rfl⟩
  have hy256 : y < 256 := by rw [← hyx]; exact u8lt x
  rw [hyx] at hca
  have hn' : (1 : Int) ≤ (n : Int) := by omega
  have hn'' : ((n : Int) == 0) = false := by simp; omega
  obtain ⟨j, hj⟩ : ∃ j, y % 3 = j := ⟨_, rfl⟩
  have hj3 : j < 3 := by rw [← hj]; exact Nat.mod_lt _ (by omega)
  have HE : Hid (bldL 0 (x :: ns') = ([UInt8.ofNat (97 + j)], .one (withS st0 (97 + j)), ns')) := keepHid (by rw [bldL, hyx, hj])
  have e1 : (y : Int) % 3 = (j : Int) := by omega
  have habc := abc_at j hj3
  obtain ⟨cv, hcv⟩ : ∃ cv, 97 + j = cv := ⟨_, rfl⟩
  have hcvN : (UInt8.ofNat cv).toNat = cv := by rw [UInt8.toNat_ofNat']; exact Nat.mod_eq_of_lt (by omega)
  rw [hcv] at habc HE
  have HCV : Hid (cv < 256) := keepHid (by omega)
  have hconv : ∀ (W : World) (q : Nat), W.cell? ⟨q, 0, none⟩ = some (.int .u8 (cv : Int)) → (convert 31 9 (.slice (some ⟨q, 0, none⟩) 1 1)).run Tryz.prog W = .ok (.string (strB [UInt8.ofNat cv])) W := fun W q h => conv_one (UInt8.ofNat cv) W q (by rw [hcvN]; exact h)
  obtain ⟨S, hS⟩ : ∃ S, strB [UInt8.ofNat cv] = S := ⟨_, rfl⟩
  rw [hS] at hconv
  have HSS := keepHid hS
  have hz1 := HZ1.out
  obtain ⟨z0, z1, z2, z3, z4, z5, zf⟩ := blk6 hz1
  have hlt1 : w.heap.size < w1.heap.size := hz1.lt
  clear hy hb1 hx hcell had hA2 hn2 hc2 hyx hj hcv hcvN hS hz1
  go_enter Tryz.func34, Tryz.ntmps34
  go_upto_region 7 with fail
  clear hw1 hca hsl
  obtain ⟨wA, hwA⟩ : ∃ wA, w1.alloc (.cells #[.int .u8 (cv : Int)] 5) = wA := ⟨_, rfl⟩
  have hA1 : Below w1.heap.size w1 wA := by rw [← hwA]; exact (Below.refl _ _).alloc (Nat.le_refl _) _
  have hqA : wA.cell? ⟨w1.heap.size, 0, none⟩ = some (.int .u8 (cv : Int)) := by rw [← hwA]; simp
  have HBA := keepHid hA1
  have HQA := keepHid hqA
  have HKa := keepHid (byteNode_any cv HCV.out w1.drew)
  have HKb := keepHid (byteNode_any cv HCV.out wA.drew)
  have za := blk6 (HZ1.out.below hA1 HZ1.out.lt)
  obtain ⟨b0, b1, b2, b3, b4, b5, bf⟩ := za
  have hltA : w.heap.size < wA.heap.size := (HZ1.out.below hA1 HZ1.out.lt).lt
  clear hA1
  go_region_with
    (first
      | (go_at_call 55
         (with_reducible refine HKa.out.mono ?_)
         rintro e wK ⟨rfl, hbK⟩
         have hB1K : Below w1.heap.size w1 wK := (Below.drew (Below.refl w1.heap.size w1)).trans hbK
         have HBK := keepHid hB1K
         have hzk := HZ1.out.below hB1K HZ1.out.lt
         have hltk : w.heap.size < wK.heap.size := hzk.lt
         obtain ⟨t0, t1, t2, t3, t4, t5, tf⟩ := blk6 hzk
         clear hbK hB1K hzk
         unfold hdV)
      | (go_at_call 55
         (with_reducible refine HKb.out.mono ?_)
         rintro e wK ⟨rfl, hbK⟩
         have hBAK : Below wA.heap.size wA wK := (Below.drew (Below.refl wA.heap.size wA)).trans hbK
         have hB1K : Below w1.heap.size w1 wK := HBA.out.trans (hBAK.mono HBA.out.size)
         have HBK := keepHid hB1K
         have hq : wK.cell? ⟨w1.heap.size, 0, none⟩ = some (.int .u8 (cv : Int)) := by rw [hBAK.cell (World.block_lt_of_cell? _ _ HQA.out)]; exact HQA.out
         have hzk := HZ1.out.below hB1K HZ1.out.lt
         have hltk : w.heap.size < wK.heap.size := hzk.lt
         obtain ⟨t0, t1, t2, t3, t4, t5, tf⟩ := blk6 hzk
         clear hbK hB1K hBAK hzk
         unfold hdV))
  all_goals
    go_wp2
    have K := build_fin (B := B) (d := 0) (ns := x :: ns') (A := A2) (n := n2) (c := c2) (h := ⟨1, withS st0 cv, none, 0, 0⟩) HB0.out HL1.out HB1.out HBK.out (by rw [HE.out]; rfl) (by rw [HE.out]; exact HY2.out) HNC2.out HCM2.out
    have k := K (.int .i64 1) (.int .u64 ((withS st0 cv).a.toNat : Int)) (.int .u64 ((withS st0 cv).b.toNat : Int)) (.int .u64 ((withS st0 cv).c.toNat : Int)) (.int .u64 ((withS st0 cv).d.toNat : Int)) (.slice none 0 0)
    rw [HE.out] at k
    simp only [HSS.out] at k
    refine bodyPost_ret (v := .tuple #[.string S, hdV ⟨1, withS st0 cv, none, 0, 0⟩, .slice A2 n2 c2]) (by rw [results_tct rfl]; go_simp; rfl) rfl ?_
    first | (with_reducible exact k) | (with_reducible refine BuildPost.alloc ?_ k _; have := HB0.out; simp only [World.size_setCell]; omega)





theorem results_tc {fn : Func} {s p : Tmp} {ty : TypeId} (h : fn.results = #[.tmp s, .cell p ty]) (tmps : Array Value) (P : Program) (w : World) :
    (results fn tmps).run P w = ((asAddr (tmps.getD p undef)).run P w).andThen fun a w₁ => ((loadVar ty a).run P w₁).andThen fun v w₂ => .ok (.tuple #[tmps.getD s undef, v]) w₂ := by
  simp only [results, h]
  simp [Sem.run_bind, Result.andThen]
def MakePostD (d : Nat) (ns : List UInt8) (w : World) (e : Ending) (w' : World) : Prop :=
  ∃ h, e = .returned (.tuple #[.string (strB (bldL d ns).1), hdV h]) ∧ IsRe w' w.heap.size h (bldL d ns).2.1 ∧ Below w.heap.size w w'
def MakePost (ns : List UInt8) (w : World) (e : Ending) (w' : World) : Prop := MakePostD 3 ns w e w'
set_option maxHeartbeats 1000000 in
theorem makes_d {d : Nat} (HB0 : BuildSpec d) (A : Option Addr) (n c : Nat) (ns : List UInt8) (w : World) (hy : Bys w w.heap.size A n ns) (hnc : n ≤ c) (hcm : c ≤ 9223372036854775807) :
    Calls Tryz.prog 23 #[.slice A n c, .int .i64 (d : Int)] w (MakePostD d ns w) := by
  obtain ⟨w1, hw1⟩ : ∃ w1, w.alloc (.cells #[.int .i64 0, .int .u64 0, .int .u64 0, .int .u64 0, .int .u64 0, .slice none 0 0] 76) = w1 := ⟨_, rfl⟩
  have HZ1 := keepHid (node_new hw1)
  have HL1 : Hid (w.heap.size < w1.heap.size) := keepHid (by rw [← hw1]; simp)
  have hb1 : Below w.heap.size w w1 := by rw [← hw1]; exact (Below.refl _ _).alloc (Nat.le_refl _) _
  have HB1 := keepHid hb1
  have HR : Hid (Calls Tryz.prog 34 #[.slice A n c, .int .i64 (d : Int)] w1 (BuildPost w.heap.size d ns w1)) := keepHid (HB0 w.heap.size A n c ns w1 hb1.size (hy.below hb1) hnc hcm)
  clear hy hb1
  go_enter Tryz.func23, Tryz.ntmps23
  go_wp2_with fail
  with_reducible refine HR.out.mono ?_
  rintro e w2 ⟨h, A2, n2, c2, rfl, hi, _, _, _, hb2⟩
  obtain ⟨w3, hw3⟩ : ∃ w3, w2.alloc (.cells (hdC h) 76) = w3 := ⟨_, rfl⟩
  have hb23 : Below w2.heap.size w2 w3 := by rw [← hw3]; exact (Below.refl _ _).alloc (Nat.le_refl _) _
  have hn3 : Blk w3 w2.heap.size 76 (hdC h) := by rw [← hw3]; exact Blk.new _ _ _
  have hz3 := (HZ1.out.below hb2 HZ1.out.lt).below hb23 (HZ1.out.below hb2 HZ1.out.lt).lt
  have HB3 := keepHid (hb2.trans (hb23.mono hb2.size))
  have HI3 := keepHid (hi.below hb23)
  obtain ⟨S, hS⟩ : ∃ S, strB (bldL d ns).1 = S := ⟨_, rfl⟩
  rw [hS]
  have HSS := keepHid hS
  clear hi hb2 hb23 hw1 HR hS
  unfold hdV
  unfold hdC at hw3
  go_upto_region 2 with fail
  try rw [hw3]
  clear hw3
  obtain ⟨k0, k1, k2, k3, k4, k5, kf⟩ := blk6 hn3
  obtain ⟨z0, z1, z2, z3, z4, z5, zf⟩ := blk6 hz3
  have hlt : w.heap.size < w3.heap.size := hz3.lt
  clear hn3 hz3
  go_region
  all_goals
    go_wp2
    have hlo := HL1.out
    have hbb := below_six (HB1.out.trans (HB3.out.mono HB1.out.size)) (Nat.le_refl _) (.int .i64 h.k) (.int .u64 (h.s.a.toNat : Int)) (.int .u64 (h.s.b.toNat : Int)) (.int .u64 (h.s.c.toNat : Int)) (.int .u64 (h.s.d.toNat : Int)) (.slice h.A h.n h.c)
    have hii : IsRe _ w.heap.size h (bldL d ns).2.1 := (HI3.out.keep (fun b hb hl => six_far (u0 := .int .i64 h.k) (u1 := .int .u64 (h.s.a.toNat : Int)) (u2 := .int .u64 (h.s.b.toNat : Int)) (u3 := .int .u64 (h.s.c.toNat : Int)) (u4 := .int .u64 (h.s.d.toNat : Int)) (u5 := .slice h.A h.n h.c) (b := w.heap.size) (by have : w1.heap.size ≤ b := hb; omega))).low (Nat.le_of_lt hlo)
    have hid := hii.below (Below.drew (Below.refl _ _))
    refine bodyPost_ret (v := .tuple #[.string S, hdV h]) ?_ ?_ ?_
    case refine_2 => rfl
    case refine_1 => rw [results_tc rfl]; go_simp; rfl
    exact ⟨h, by rw [HSS.out], hid, hbb.drew⟩
theorem makes_any (HB0 : BuildSpec 3) (A : Option Addr) (n c : Nat) (ns : List UInt8) (w : World) (hy : Bys w w.heap.size A n ns) (hnc : n ≤ c) (hcm : c ≤ 9223372036854775807) :
    Calls Tryz.prog 23 #[.slice A n c, .int .i64 3] w (MakePost ns w) := makes_d HB0 A n c ns w hy hnc hcm






theorem build_all : ∀ d, d ≤ 3 → BuildSpec d
  | 0, _ => fun B A n c ns w hB hy hn hc => by
    rcases Nat.eq_zero_or_pos n with h0 | h0
    · subst h0; exact build_none B 0 A c ns w hB hy
    · exact build_zero B A n c ns w hB hy h0 hn hc
  | d + 1, hd => fun B A n c ns w hB hy hn hc => by
    rcases Nat.eq_zero_or_pos n with h0 | h0
    · subst h0; exact build_none B (d + 1) A c ns w hB hy
    · have hl := hy.len
      obtain ⟨x0, hx0⟩ : ∃ x0, ns[0]? = some x0 := ⟨_, List.getElem?_eq_getElem (by omega)⟩
      have H := build_all d (by omega)
      have h9 : x0.toNat % 9 < 9 := Nat.mod_lt _ (by omega)
      rw [show ((d + 1 : Nat) : Int) = (d : Int) + 1 by omega]
      rcases (by omega : x0.toNat % 9 < 2 ∨ (2 ≤ x0.toNat % 9 ∧ x0.toNat % 9 < 4) ∨ x0.toNat % 9 = 4 ∨ x0.toNat % 9 = 5 ∨ x0.toNat % 9 = 6 ∨ x0.toNat % 9 = 7 ∨ x0.toNat % 9 = 8) with h | h | h | h | h | h | h
      · exact build_thn B d (by omega) H A n c ns w hB hy h0 hn hc x0 hx0 h
      · exact build_alt B d (by omega) H A n c ns w hB hy h0 hn hc x0 hx0 h
      · exact build_star B d (by omega) H A n c ns w hB hy h0 hn hc x0 hx0 h
      · exact build_opt B d (by omega) H A n c ns w hB hy h0 hn hc x0 hx0 h
      · exact build_plus B d (by omega) H A n c ns w hB hy h0 hn hc x0 hx0 h
      · exact build_dot B d A n c ns w hB hy h0 hn hc x0 hx0 h
      · exact build_cls B d A n c ns w hB hy h0 hn hc x0 hx0 h
end Go.Proofs.YtgndcgknedmalaaGreatDoor
