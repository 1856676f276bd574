/-
  What 'Scan' answers.
-/
import Derived.Test.YtonloefjhofeeaaGreatDoorBlockSize
import Derived.Test.YtonloefjhofeeaaGreatDoorBytesEqual
import Derived.Test.YtonloefjhofeeaaGreatDoorBytesClone
import Derived.Test.YtonloefjhofeeaaGreatDoorGoto
import Derived.Handy
import Derived.Deep.RegionWith
namespace Go.Proofs.YtonloefjhofeeaaGreatDoor
open Go.RowKit
set_option linter.unusedVariables false

/-- What 'Scan' returns. -/
def ScanPost (w : World) (r : Nat × UInt8 × List UInt8) (e : Ending) (w' : World) : Prop :=
  ∃ A c, e = .returned (.tuple #[.agg #[.int .u8 (r.2.1.toNat : Int), .slice A r.2.2.length c], .int .i64 (r.1 : Int)]) ∧ OwnB w' w.heap.size 5 (.slice A r.2.2.length c) r.2.2.length r.2.2 ∧ r.2.2.length ≤ c ∧ c ≤ 9223372036854775807 ∧ Below w.heap.size w w'
theorem scan_no {w w' : World} (hb : Below w.heap.size w w') (s : Nat) : ScanPost w (s, 0, []) (.returned (.tuple #[.agg #[.int .u8 0, .slice none 0 0], .int .i64 (s : Int)])) w' :=
  ⟨none, 0, rfl, OwnB.nil _ _ _, Nat.le_refl _, by simp, hb⟩

theorem ScanPost.of {w w' : World} {r r' : Nat × UInt8 × List UInt8} {e : Ending} (h : ScanPost w r e w') (hr : r' = r) : ScanPost w r' e w' := by rw [hr]; exact h
/-- The block of the result, new. -/
theorem res_new (w w1 : World) (hw : w.alloc (.cells #[.int .u8 0, .slice none 0 0] 92) = w1) :
    Blk w1 w.heap.size 92 #[.int .u8 0, .slice none 0 0] ∧ Below w.heap.size w w1 := by
  rw [← hw]; exact ⟨Blk.new w _ _, (Below.refl _ _).alloc (Nat.le_refl _) _⟩

/-- The result's block is read at the return. -/
theorem ret_res (w : World) (g : Nat) (x : Int) (A : Option Addr) (n c : Nat) (tmps : Array Value) (hb : Blk w g 92 #[.int .u8 x, .slice A n c]) (h4 : tmps.getD 4 undef = .pointer (some ⟨g, 0, none⟩)) :
    (results Tryz.f71 tmps).run Tryz.prog w = .ok (.tuple #[.agg #[.int .u8 x, .slice A n c], tmps.getD 5 undef]) w := by
  have q0 : w.cell? ⟨g, 0, none⟩ = some (.int .u8 x) := hb.cell 0
  have q1 : w.cell? ⟨g, 1, none⟩ = some (.slice A n c) := hb.cell 1
  rw [results_cell_tmp (p := 4) (u := 5) (ty := 92) rfl, h4]
  simp [go_sem, q0, q1]
theorem put2 {w : World} {g : Nat} {t : TypeId} {a b c d : Value} (hb : Blk w g t #[a, b]) : Blk ((w.setCell ⟨g, 0, none⟩ c).setCell ⟨g, 1, none⟩ d) g t #[c, d] := (hb.put 0 c).put 1 d

theorem scan_yes {w w7 : World} {x : UInt8} {d : List UInt8} {A : Option Addr} {c D B : Nat} (hl : d.length = D) (hB : Below w.heap.size w w7) (hgt : w.heap.size < B)
    (ho : OwnB w7 B 5 (.slice A d.length c) d.length d) (h1 : d.length ≤ c) (h2 : c ≤ 9223372036854775807) (u v : Value) :
    ScanPost w (2, x, d) (.returned (.tuple #[.agg #[.int .u8 (x.toNat : Int), .slice A D c], .int .i64 2])) ((w7.setCell ⟨w.heap.size, 0, none⟩ u).setCell ⟨w.heap.size, 1, none⟩ v) := by
  subst hl
  refine ⟨A, c, rfl, own_lower (ho.keep fun i hi hlt => ?_) (Nat.le_of_lt hgt), h1, h2, (hB.setCell (Nat.le_refl _) _).setCell (Nat.le_refl _) _⟩
  have := own_base ho i hi
  rw [Below.heap_setCell _ _ _ _ (by simp; omega), Below.heap_setCell _ _ _ _ (by simp; omega)]

theorem scan_any0 (A : Option Addr) (c : Nat) (crc : Bool) (w : World) :
    Calls Tryz.prog 71 #[.slice A 0 c, .bool crc] w (ScanPost w (0, 0, [])) := by
  go_enter Tryz.func71, Tryz.ntmps71
  go_wp2
  refine wp_scope_to 0 rfl ?_
  go_wp2
  go_step3
  refine And.intro rfl ?_
  unfold JumpTo
  go_wp2
  rw [Exit.noGoto_ret]
  go_returns
  exact scan_no ((Below.refl _ _).alloc (Nat.le_refl _) _) 0

/-- No lead. -/
theorem scan_any1 (ad : Addr) (n c : Nat) (l : UInt8) (crc : Bool) (w : World) (hn : 0 < n) (hm : n ≤ 9223372036854775807) (hc : w.cell? ad = some (.int .u8 (l.toNat : Int))) (hl : szD l.toNat = 0) :
    Calls Tryz.prog 71 #[.slice (some ad) n c, .bool crc] w (ScanPost w (1, 0, [])) := by
  obtain ⟨w1, hw1⟩ : ∃ w1, w.alloc (.cells #[.int .u8 0, .slice none 0 0] 92) = w1 := ⟨_, rfl⟩
  have HR := keepHid (res_new w w1 hw1)
  have hc1 : w1.cell? ad = some (.int .u8 (l.toNat : Int)) := (HR.out.2.cell (World.block_lt_of_cell? _ _ hc)).trans hc
  have hz : szA l.toNat crc = 0 := by unfold szA; rw [if_pos hl]
  have HZ := keepHid hz
  have hn0 : ((n : Int) == 0) = false := by simp; omega
  have hb0 := HR.out.1.cell 0
  have hb1 := HR.out.1.cell 1
  have hf0 := HR.out.1.frozen 0
  have hf1 := HR.out.1.frozen 1
  clear hc hz
  go_enter Tryz.func71, Tryz.ntmps71
  go_wp2
  refine wp_scope_to 1 rfl ?_
  clear hw1
  go_wp2_with fail
  refine (size_any l.toNat (u8lt l) crc _).mono ?_
  rintro e w' ⟨rfl, rfl⟩
  rw [HZ.out]
  go_wp2
  go_step3
  refine And.intro rfl ?_
  unfold JumpTo
  go_wp2
  rw [Exit.noGoto_ret]
  refine bodyPost_ret (ret_res _ _ _ _ _ _ _ (put2 HR.out.1) rfl) rfl ?_
  exact scan_no ((HR.out.2.setCell (Nat.le_refl _) _).setCell (Nat.le_refl _) _) 1

/-- Fewer than three, and so too few. -/
theorem scan_any2 (ad : Addr) (n c N : Nat) (l : UInt8) (crc : Bool) (w : World) (hn : 0 < n) (h3 : n < 3) (hc : w.cell? ad = some (.int .u8 (l.toNat : Int))) (hN : szA l.toNat crc = N) (hNn : 3 < N) (hN2 : N ≤ 4096) :
    Calls Tryz.prog 71 #[.slice (some ad) n c, .bool crc] w (ScanPost w (0, 0, [])) := by
  obtain ⟨w1, hw1⟩ : ∃ w1, w.alloc (.cells #[.int .u8 0, .slice none 0 0] 92) = w1 := ⟨_, rfl⟩
  have HR := keepHid (res_new w w1 hw1)
  have hc1 : w1.cell? ad = some (.int .u8 (l.toNat : Int)) := (HR.out.2.cell (World.block_lt_of_cell? _ _ hc)).trans hc
  have HZ := keepHid hN
  have hn0 : ((n : Int) == 0) = false := by simp; omega
  have hN0 : ((N : Int) == 0) = false := by simp; omega
  have hb0 := HR.out.1.cell 0
  have hb1 := HR.out.1.cell 1
  have hf0 := HR.out.1.frozen 0
  have hf1 := HR.out.1.frozen 1
  have hd : decide ((3 : Int) ≤ (n : Int)) = false := by simp; omega
  have hlt : (n : Int) < (N : Int) := by omega
  clear hc hN
  go_enter Tryz.func71, Tryz.ntmps71
  go_wp2
  refine wp_scope_to 0 rfl ?_
  clear hw1
  go_wp2_with fail
  refine (size_any l.toNat (u8lt l) crc _).mono ?_
  rintro e w' ⟨rfl, rfl⟩
  rw [HZ.out]
  go_wp2
  go_quiet (fail)
  go_wp2
  go_step3
  refine And.intro rfl ?_
  unfold JumpTo
  go_wp2
  rw [Exit.noGoto_ret]
  refine bodyPost_ret (ret_res _ _ _ _ _ _ _ (put2 (HR.out.1.drewN _)) rfl) rfl ?_
  exact scan_no (((below_drewN HR.out.2 _).setCell (Nat.le_refl _) _).setCell (Nat.le_refl _) _) 0

/-- A wrong head. -/
theorem scan_any3 (ad : Addr) (n c N : Nat) (l x y : UInt8) (crc : Bool) (w : World) (hn : 3 ≤ n) (hm : n ≤ 9223372036854775807) (hc : w.cell? ad = some (.int .u8 (l.toNat : Int))) (hx : w.cell? (ad.add 1) = some (.int .u8 (x.toNat : Int))) (hy : w.cell? (ad.add 2) = some (.int .u8 (y.toNat : Int)))
    (hxy : y ≠ 255 - x) (hN : szA l.toNat crc = N) (hNn : 3 < N) (hN2 : N ≤ 4096) :
    Calls Tryz.prog 71 #[.slice (some ad) n c, .bool crc] w (ScanPost w (1, 0, [])) := by
  obtain ⟨w1, hw1⟩ : ∃ w1, w.alloc (.cells #[.int .u8 0, .slice none 0 0] 92) = w1 := ⟨_, rfl⟩
  have HR := keepHid (res_new w w1 hw1)
  have hc1 : w1.cell? ad = some (.int .u8 (l.toNat : Int)) := (HR.out.2.cell (World.block_lt_of_cell? _ _ hc)).trans hc
  have HZ := keepHid hN
  have hn0 : ((n : Int) == 0) = false := by simp; omega
  have hN0 : ((N : Int) == 0) = false := by simp; omega
  have hb0 := HR.out.1.cell 0
  have hb1 := HR.out.1.cell 1
  have hf0 := HR.out.1.frozen 0
  have hf1 := HR.out.1.frozen 1
  have hx1 : w1.cell? ⟨ad.block, ad.off + 1, none⟩ = some (.int .u8 (x.toNat : Int)) := (HR.out.2.cell (World.block_lt_of_cell? _ _ hx)).trans hx
  have hy1 : w1.cell? ⟨ad.block, ad.off + 2, none⟩ = some (.int .u8 (y.toNat : Int)) := (HR.out.2.cell (World.block_lt_of_cell? _ _ hy)).trans hy
  have hd : decide ((3 : Int) ≤ (n : Int)) = true := by simp; omega
  have hi1 : (1 : Int) < (n : Int) := by omega
  have hi2 : (2 : Int) < (n : Int) := by omega
  have hnot := not_u8 x
  have hne : ((y.toNat : Int) != ((255 - x).toNat : Int)) = true := by
    rw [bne_iff_ne]; intro h; exact hxy (UInt8.toNat_inj.1 (by omega))
  have hne2 : ((y.toNat : Int) != bits .xor .u8 (if IntKind.u8.signed = true then -1 else IntKind.u8.max) (x.toNat : Int)) = true := by
    rw [show bits .xor .u8 (if IntKind.u8.signed = true then -1 else IntKind.u8.max) (x.toNat : Int) = ((255 - x).toNat : Int) from hnot]; exact hne
  clear hc hN hx hy hxy
  go_enter Tryz.func71, Tryz.ntmps71
  go_wp2
  refine wp_scope_to 1 rfl ?_
  clear hw1
  go_wp2_with fail
  refine (size_any l.toNat (u8lt l) crc _).mono ?_
  rintro e w' ⟨rfl, rfl⟩
  rw [HZ.out]
  go_wp2
  go_quiet (fail)
  go_wp2
  go_step3
  refine And.intro rfl ?_
  unfold JumpTo
  go_wp2
  rw [Exit.noGoto_ret]
  refine bodyPost_ret (ret_res _ _ _ _ _ _ _ (put2 (HR.out.1.drewN _)) rfl) rfl ?_
  exact scan_no (((below_drewN HR.out.2 _).setCell (Nat.le_refl _) _).setCell (Nat.le_refl _) _) 1
/-- A right head, and too few. -/
theorem scan_any4 (ad : Addr) (n c N : Nat) (l x y : UInt8) (crc : Bool) (w : World) (hn : 3 ≤ n) (hm : n ≤ 9223372036854775807) (hc : w.cell? ad = some (.int .u8 (l.toNat : Int))) (hx : w.cell? (ad.add 1) = some (.int .u8 (x.toNat : Int))) (hy : w.cell? (ad.add 2) = some (.int .u8 (y.toNat : Int)))
    (hxy : y = 255 - x) (hN : szA l.toNat crc = N) (hNn : n < N) (hN2 : N ≤ 4096) :
    Calls Tryz.prog 71 #[.slice (some ad) n c, .bool crc] w (ScanPost w (0, 0, [])) := by
  obtain ⟨w1, hw1⟩ : ∃ w1, w.alloc (.cells #[.int .u8 0, .slice none 0 0] 92) = w1 := ⟨_, rfl⟩
  have HR := keepHid (res_new w w1 hw1)
  have hc1 : w1.cell? ad = some (.int .u8 (l.toNat : Int)) := (HR.out.2.cell (World.block_lt_of_cell? _ _ hc)).trans hc
  have HZ := keepHid hN
  have hn0 : ((n : Int) == 0) = false := by simp; omega
  have hN0 : ((N : Int) == 0) = false := by simp; omega
  have hb0 := HR.out.1.cell 0
  have hb1 := HR.out.1.cell 1
  have hf0 := HR.out.1.frozen 0
  have hf1 := HR.out.1.frozen 1
  have hx1 : w1.cell? ⟨ad.block, ad.off + 1, none⟩ = some (.int .u8 (x.toNat : Int)) := (HR.out.2.cell (World.block_lt_of_cell? _ _ hx)).trans hx
  have hy1 : w1.cell? ⟨ad.block, ad.off + 2, none⟩ = some (.int .u8 (y.toNat : Int)) := (HR.out.2.cell (World.block_lt_of_cell? _ _ hy)).trans hy
  have hd : decide ((3 : Int) ≤ (n : Int)) = true := by simp; omega
  have hi1 : (1 : Int) < (n : Int) := by omega
  have hi2 : (2 : Int) < (n : Int) := by omega
  have hnot := not_u8 x
  have hlt : (n : Int) < (N : Int) := by omega
  have hne : ((y.toNat : Int) != ((255 - x).toNat : Int)) = false := by
    rw [hxy]; simp
  have hne2 : ((y.toNat : Int) != bits .xor .u8 (if IntKind.u8.signed = true then -1 else IntKind.u8.max) (x.toNat : Int)) = false := by
    rw [show bits .xor .u8 (if IntKind.u8.signed = true then -1 else IntKind.u8.max) (x.toNat : Int) = ((255 - x).toNat : Int) from hnot]; exact hne
  clear hc hN hx hy hxy
  go_enter Tryz.func71, Tryz.ntmps71
  go_wp2
  refine wp_scope_to 0 rfl ?_
  clear hw1
  go_wp2_with fail
  refine (size_any l.toNat (u8lt l) crc _).mono ?_
  rintro e w' ⟨rfl, rfl⟩
  rw [HZ.out]
  go_wp2
  go_quiet (fail)
  go_wp2
  go_step3
  refine And.intro rfl ?_
  unfold JumpTo
  go_wp2
  rw [Exit.noGoto_ret]
  refine bodyPost_ret (ret_res _ _ _ _ _ _ _ (put2 (HR.out.1.drewN _)) rfl) rfl ?_
  exact scan_no (((below_drewN HR.out.2 _).setCell (Nat.le_refl _) _).setCell (Nat.le_refl _) _) 0

/-- Enough of them, and another trailer. -/
theorem scan_any5 (ad : Addr) (n c N : Nat) (l x y : UInt8) (crc : Bool) (w : World) (hn : 3 ≤ n) (hm : n ≤ 9223372036854775807) (hc : w.cell? ad = some (.int .u8 (l.toNat : Int))) (hx : w.cell? (ad.add 1) = some (.int .u8 (x.toNat : Int))) (hy : w.cell? (ad.add 2) = some (.int .u8 (y.toNat : Int)))
    (hxy : y = 255 - x) (hN : szA l.toNat crc = N) (hNn : N ≤ n) (hnc : n ≤ c) (hcm : c ≤ 9223372036854775807) (D T : Nat) (hDT : 3 + D + T = N) (hD0 : 0 < D) (hT0 : 0 < T) (hD : szD l.toNat = D) (bs : List UInt8) (B : Nat) (h : Bys w B (some ad) n bs) (hBw : B ≤ w.heap.size) (htl : ((bs.drop (3 + D)).take T) ≠ trl crc ((bs.drop 3).take D)) (hN2 : N ≤ 4096) :
    Calls Tryz.prog 71 #[.slice (some ad) n c, .bool crc] w (ScanPost w (1, 0, [])) := by
  obtain ⟨w1, hw1⟩ : ∃ w1, w.alloc (.cells #[.int .u8 0, .slice none 0 0] 92) = w1 := ⟨_, rfl⟩
  have HR := keepHid (res_new w w1 hw1)
  have hc1 : w1.cell? ad = some (.int .u8 (l.toNat : Int)) := (HR.out.2.cell (World.block_lt_of_cell? _ _ hc)).trans hc
  have HZ := keepHid hN
  have hn0 : ((n : Int) == 0) = false := by simp; omega
  have hN0 : ((N : Int) == 0) = false := by simp; omega
  have hb0 := HR.out.1.cell 0
  have hb1 := HR.out.1.cell 1
  have hf0 := HR.out.1.frozen 0
  have hf1 := HR.out.1.frozen 1
  have hx1 : w1.cell? ⟨ad.block, ad.off + 1, none⟩ = some (.int .u8 (x.toNat : Int)) := (HR.out.2.cell (World.block_lt_of_cell? _ _ hx)).trans hx
  have hy1 : w1.cell? ⟨ad.block, ad.off + 2, none⟩ = some (.int .u8 (y.toNat : Int)) := (HR.out.2.cell (World.block_lt_of_cell? _ _ hy)).trans hy
  have hd : decide ((3 : Int) ≤ (n : Int)) = true := by simp; omega
  have hi1 : (1 : Int) < (n : Int) := by omega
  have hi2 : (2 : Int) < (n : Int) := by omega
  have hnot := not_u8 x
  have hlt : ¬ (n : Int) < (N : Int) := by omega
  have hND : szD l.toNat = D := hD
  have HD := keepHid hND
  have HBS := keepHid h
  have HTL := keepHid htl
  have hne : ((y.toNat : Int) != ((255 - x).toNat : Int)) = false := by
    rw [hxy]; simp
  have hne2 : ((y.toNat : Int) != bits .xor .u8 (if IntKind.u8.signed = true then -1 else IntKind.u8.max) (x.toNat : Int)) = false := by
    rw [show bits .xor .u8 (if IntKind.u8.signed = true then -1 else IntKind.u8.max) (x.toNat : Int) = ((255 - x).toNat : Int) from hnot]; exact hne
  clear hc hN hx hy hxy h htl hD hND
  go_enter Tryz.func71, Tryz.ntmps71
  go_wp2
  refine wp_scope_to 1 rfl ?_
  clear hw1
  go_wp2_with fail
  refine (size_any l.toNat (u8lt l) crc _).mono ?_
  rintro e w' ⟨rfl, rfl⟩
  rw [HZ.out]
  go_wp2
  go_quiet (fail)
  go_wp2_with fail
  refine (dataSize_any l.toNat (u8lt l) _).mono ?_
  rintro e w' ⟨rfl, rfl⟩
  rw [HD.out]
  go_wp2_with fail
  rw [Nat.add_sub_cancel_left]
  obtain ⟨w2, hw2⟩ : ∃ w2, w1.drewN nq = w2 := ⟨_, rfl⟩
  rw [hw2]
  have hB2 : Below w.heap.size w w2 := by rw [← hw2]; exact below_drewN HR.out.2 nq
  have hbs2 : Bys w2 w.heap.size (some ad) n bs := (HBS.out.more hBw).below hB2
  have hda : Bys w2 w.heap.size (some ⟨ad.block, ad.off + 3, none⟩) D ((bs.drop 3).take D) := by
    have := (hbs2.cut (k := 3) (cap := c) (by omega) hnc).head (k := D) (by omega)
    rw [if_neg (by omega)] at this
    exact this
  have hta : Bys w2 w.heap.size (some (ad.add (3 + (D : Int)).toNat)) (N - (3 + (D : Int)).toNat) ((bs.drop (3 + D)).take T) := by
    have := (hbs2.cut (k := 3 + D) (cap := c) (by omega) hnc).head (k := T) (by omega)
    rw [if_neg (by omega)] at this
    rw [show (3 + (D : Int)).toNat = 3 + D by omega, show N - (3 + D) = T by omega]
    exact this
  have hbk2 : Blk w2 w.heap.size 92 #[.int .u8 0, .slice none 0 0] := by rw [← hw2]; exact HR.out.1.drewN nq
  have hs2 := hB2.size
  have hs2' := hbk2.lt
  have hfin : ∀ w6 : World, Below w2.heap.size w2 w6 → Bys w6 w.heap.size (some (ad.add (3 + (D : Int)).toNat)) (N - (3 + (D : Int)).toNat) ((bs.drop (3 + D)).take T) ∧ Blk w6 w.heap.size 92 #[.int .u8 0, .slice none 0 0] ∧ Below w.heap.size w w6 := fun w6 hb =>
    ⟨hta.below (hb.mono hs2), hbk2.below hb hs2', hB2.trans (hb.mono hs2)⟩
  have HFIN := keepHid hfin
  have HB2 := keepHid hB2
  have HDA := keepHid hda
  clear hB2 hbs2 hda hta hfin hbk2
  have hwr : IntKind.i64.wrap (3 + (D : Int)) = 3 + (D : Int) := IntWalk.i64_in _ (by omega)
  have hq0 : (0 : Int) ≤ 3 + (D : Int) := by omega
  have hq1 : 3 + (D : Int) ≤ (N : Int) := by omega
  have hq2 : (N : Int) ≤ (c : Int) := by omega
  have hq3 : (0 : Int) ≤ (N : Int) := by omega
  have hq4 : ¬ c = 3 + D := by omega
  go_region_held3 (fun _ => True) (trivial)
    (first
      | (go_at_call 63
         refine (trailer_any crc _ _ _ _ _ _ (by first | exact HDA.out | exact HDA.out.drew | exact HDA.out.drewN _)).mono ?_
         rintro e w6 ⟨A6, c6, rfl, ho6, hc61, hc62, hb6⟩
         have HO6 := keepHid ho6
         have HF6 := keepHid (HFIN.out w6 ⟨hb6.os, hb6.tape, hb6.output, hb6.size, hb6.block⟩)
         clear ho6 hb6)
      | (go_at_call 70
         refine (equal_any _ _ _ _ _ _ _ _ _ _ _ (by first | exact HF6.out.1 | exact HF6.out.1.drew) (by first | exact HO6.out.bys (by omega) | exact HO6.out.drew.bys (by omega))).mono ?_
         rintro e w' ⟨rfl, rfl⟩
         rw [decide_eq_false HTL.out]))
  have g0 := HF6.out.2.1.cell 0
  have g1 := HF6.out.2.1.cell 1
  have gf0 := HF6.out.2.1.frozen 0
  have gf1 := HF6.out.2.1.frozen 1
  clear hb0 hb1 hf0 hf1 hw2
  go_wp2
  go_step3
  refine And.intro rfl ?_
  unfold JumpTo
  go_wp2
  rw [Exit.noGoto_ret]
  refine bodyPost_ret (ret_res _ _ _ _ _ _ _ (put2 HF6.out.2.1) rfl) rfl ?_
  exact scan_no ((HF6.out.2.2.setCell (Nat.le_refl _) _).setCell (Nat.le_refl _) _) 1

/-- A block. -/
theorem scan_any6 (ad : Addr) (n c N : Nat) (l x y : UInt8) (crc : Bool) (w : World) (hn : 3 ≤ n) (hm : n ≤ 9223372036854775807) (hc : w.cell? ad = some (.int .u8 (l.toNat : Int))) (hx : w.cell? (ad.add 1) = some (.int .u8 (x.toNat : Int))) (hy : w.cell? (ad.add 2) = some (.int .u8 (y.toNat : Int)))
    (hxy : y = 255 - x) (hN : szA l.toNat crc = N) (hNn : N ≤ n) (hnc : n ≤ c) (hcm : c ≤ 9223372036854775807) (D T : Nat) (hDT : 3 + D + T = N) (hD0 : 0 < D) (hT0 : 0 < T) (hD : szD l.toNat = D) (bs : List UInt8) (B : Nat) (h : Bys w B (some ad) n bs) (hBw : B ≤ w.heap.size) (htl : ((bs.drop (3 + D)).take T) = trl crc ((bs.drop 3).take D)) (hN2 : N ≤ 4096) :
    Calls Tryz.prog 71 #[.slice (some ad) n c, .bool crc] w (ScanPost w (2, x, (bs.drop 3).take D)) := by
  obtain ⟨w1, hw1⟩ : ∃ w1, w.alloc (.cells #[.int .u8 0, .slice none 0 0] 92) = w1 := ⟨_, rfl⟩
  have HR := keepHid (res_new w w1 hw1)
  have hc1 : w1.cell? ad = some (.int .u8 (l.toNat : Int)) := (HR.out.2.cell (World.block_lt_of_cell? _ _ hc)).trans hc
  have HZ := keepHid hN
  have hn0 : ((n : Int) == 0) = false := by simp; omega
  have hN0 : ((N : Int) == 0) = false := by simp; omega
  have hb0 := HR.out.1.cell 0
  have hb1 := HR.out.1.cell 1
  have hf0 := HR.out.1.frozen 0
  have hf1 := HR.out.1.frozen 1
  have hx1 : w1.cell? ⟨ad.block, ad.off + 1, none⟩ = some (.int .u8 (x.toNat : Int)) := (HR.out.2.cell (World.block_lt_of_cell? _ _ hx)).trans hx
  have hy1 : w1.cell? ⟨ad.block, ad.off + 2, none⟩ = some (.int .u8 (y.toNat : Int)) := (HR.out.2.cell (World.block_lt_of_cell? _ _ hy)).trans hy
  have hd : decide ((3 : Int) ≤ (n : Int)) = true := by simp; omega
  have hi1 : (1 : Int) < (n : Int) := by omega
  have hi2 : (2 : Int) < (n : Int) := by omega
  have hnot := not_u8 x
  have hlt : ¬ (n : Int) < (N : Int) := by omega
  have hND : szD l.toNat = D := hD
  have HD := keepHid hND
  have HBS := keepHid h
  have HTL := keepHid htl
  have hne : ((y.toNat : Int) != ((255 - x).toNat : Int)) = false := by
    rw [hxy]; simp
  have hne2 : ((y.toNat : Int) != bits .xor .u8 (if IntKind.u8.signed = true then -1 else IntKind.u8.max) (x.toNat : Int)) = false := by
    rw [show bits .xor .u8 (if IntKind.u8.signed = true then -1 else IntKind.u8.max) (x.toNat : Int) = ((255 - x).toNat : Int) from hnot]; exact hne
  clear hc hN hx hy hxy h htl hD hND
  go_enter Tryz.func71, Tryz.ntmps71
  go_wp2
  refine wp_scope_straight ?_
  clear hw1
  go_wp2_with fail
  refine (size_any l.toNat (u8lt l) crc _).mono ?_
  rintro e w' ⟨rfl, rfl⟩
  rw [HZ.out]
  go_wp2
  go_quiet (fail)
  go_wp2_with fail
  refine (dataSize_any l.toNat (u8lt l) _).mono ?_
  rintro e w' ⟨rfl, rfl⟩
  rw [HD.out]
  go_wp2_with fail
  rw [Nat.add_sub_cancel_left]
  obtain ⟨w2, hw2⟩ : ∃ w2, w1.drewN nq = w2 := ⟨_, rfl⟩
  rw [hw2]
  have hB2 : Below w.heap.size w w2 := by rw [← hw2]; exact below_drewN HR.out.2 nq
  have hbs2 : Bys w2 w.heap.size (some ad) n bs := (HBS.out.more hBw).below hB2
  have hda : Bys w2 w.heap.size (some ⟨ad.block, ad.off + 3, none⟩) D ((bs.drop 3).take D) := by
    have := (hbs2.cut (k := 3) (cap := c) (by omega) hnc).head (k := D) (by omega)
    rw [if_neg (by omega)] at this
    exact this
  have hta : Bys w2 w.heap.size (some (ad.add (3 + (D : Int)).toNat)) (N - (3 + (D : Int)).toNat) ((bs.drop (3 + D)).take T) := by
    have := (hbs2.cut (k := 3 + D) (cap := c) (by omega) hnc).head (k := T) (by omega)
    rw [if_neg (by omega)] at this
    rw [show (3 + (D : Int)).toNat = 3 + D by omega, show N - (3 + D) = T by omega]
    exact this
  have hbk2 : Blk w2 w.heap.size 92 #[.int .u8 0, .slice none 0 0] := by rw [← hw2]; exact HR.out.1.drewN nq
  have hs2 := hB2.size
  have hx2 : w2.cell? ⟨ad.block, ad.off + 1, none⟩ = some (.int .u8 (x.toNat : Int)) := by rw [← hw2]; exact hx1
  have hs2' := hbk2.lt
  have hfin : ∀ w6 : World, Below w2.heap.size w2 w6 → Bys w6 w.heap.size (some (ad.add (3 + (D : Int)).toNat)) (N - (3 + (D : Int)).toNat) ((bs.drop (3 + D)).take T) ∧ Bys w6 w.heap.size (some ⟨ad.block, ad.off + 3, none⟩) D ((bs.drop 3).take D) ∧ w6.cell? ⟨ad.block, ad.off + 1, none⟩ = some (.int .u8 (x.toNat : Int)) ∧ Blk w6 w.heap.size 92 #[.int .u8 0, .slice none 0 0] ∧ Below w.heap.size w w6 := fun w6 hb =>
    ⟨hta.below (hb.mono hs2), hda.below (hb.mono hs2), (hb.cell (World.block_lt_of_cell? _ _ hx2)).trans hx2, hbk2.below hb hs2', hB2.trans (hb.mono hs2)⟩
  have HFIN := keepHid hfin
  have HB2 := keepHid hB2
  have HDA := keepHid hda
  clear hB2 hbs2 hda hta hfin hbk2
  have hwr : IntKind.i64.wrap (3 + (D : Int)) = 3 + (D : Int) := IntWalk.i64_in _ (by omega)
  have hq0 : (0 : Int) ≤ 3 + (D : Int) := by omega
  have hq1 : 3 + (D : Int) ≤ (N : Int) := by omega
  have hq2 : (N : Int) ≤ (c : Int) := by omega
  have hq3 : (0 : Int) ≤ (N : Int) := by omega
  have hq4 : ¬ c = 3 + D := by omega
  go_region_held3 (fun _ => True) (trivial)
    (first
      | (go_at_call 63
         refine (trailer_any crc _ _ _ _ _ _ (by first | exact HDA.out | exact HDA.out.drew | exact HDA.out.drewN _)).mono ?_
         rintro e w6 ⟨A6, c6, rfl, ho6, hc61, hc62, hb6⟩
         have HO6 := keepHid ho6
         have HF6 := keepHid (HFIN.out w6 ⟨hb6.os, hb6.tape, hb6.output, hb6.size, hb6.block⟩)
         clear ho6 hb6)
      | (go_at_call 70
         refine (equal_any _ _ _ _ _ _ _ _ _ _ _ (by first | exact HF6.out.1 | exact HF6.out.1.drew) (by first | exact HO6.out.bys (by omega) | exact HO6.out.drew.bys (by omega))).mono ?_
         rintro e w' ⟨rfl, rfl⟩
         rw [decide_eq_true HTL.out]))
  clear hb0 hb1 hf0 hf1 hw2 hx2 hx1 hy1 hc1
  have hl6 : ((bs.drop 3).take D).length = D := by rw [List.length_take, List.length_drop, HBS.out.len]; omega
  have HL6 := keepHid hl6
  have hx6 := HF6.out.2.2.1
  have HXX := keepHid hx6
  clear hl6
  go_wp2
  go_region_with
    (first
      | (go_at_call 64
         refine (clone_any _ _ _ _ _ _ (by first | exact HF6.out.2.1 | exact HF6.out.2.1.drew) (by omega)).mono ?_
         rintro e w7 ⟨A7, c7, rfl, ho7, hc71, hc72, hb7⟩
         have hb7' : Below w6.heap.size w6 w7 := ⟨hb7.os, hb7.tape, hb7.output, hb7.size, hb7.block⟩
         have hbk7 := HF6.out.2.2.2.1.below hb7' HF6.out.2.2.2.1.lt
         have hx7 : w7.cell? ⟨ad.block, ad.off + 1, none⟩ = some (.int .u8 (x.toNat : Int)) := (hb7'.cell (World.block_lt_of_cell? _ _ HXX.out)).trans HXX.out
         have g0 := hbk7.cell 0
         have g1 := hbk7.cell 1
         have gf0 := hbk7.frozen 0
         have gf1 := hbk7.frozen 1
         have HB7 := keepHid (HF6.out.2.2.2.2.trans (hb7'.mono HF6.out.2.2.2.2.size))
         have HO7 := keepHid ho7
         have HK7 := keepHid hbk7
         rw [HL6.out]
         clear ho7 hb7 hb7' hbk7))
  all_goals
    go_wp2
    try rw [Exit.noGoto_ret]
    refine bodyPost_ret (ret_res _ _ _ _ _ _ _ (put2 HK7.out) rfl) rfl ?_
    exact scan_yes HL6.out HB7.out HF6.out.2.2.2.1.lt HO7.out hc71 hc72 _ _


theorem scan_any (A : Option Addr) (n c B : Nat) (bs : List UInt8) (crc : Bool) (w : World) (h : Bys w B A n bs) (hB : B ≤ w.heap.size) (hnc : n ≤ c) (hcm : c ≤ 9223372036854775807) :
    Calls Tryz.prog 71 #[.slice A n c, .bool crc] w (ScanPost w (scanL bs crc)) := by
  have hlen := h.len
  have of : ∀ r, scanL bs crc = r → Calls Tryz.prog 71 #[.slice A n c, .bool crc] w (ScanPost w r) → Calls Tryz.prog 71 #[.slice A n c, .bool crc] w (ScanPost w (scanL bs crc)) := fun r e k => by rw [e]; exact k
  rcases Nat.eq_zero_or_pos n with h0 | h0
  · subst h0
    obtain rfl : bs = [] := List.eq_nil_of_length_eq_zero hlen
    exact of _ (scan_nil crc) (scan_any0 A c crc w)
  obtain ⟨ad, l, rfl, _, hl, hcl⟩ := h.at_ h0
  have hcl' : w.cell? ad = some (.int .u8 (l.toNat : Int)) := by have e : ad.add 0 = ad := by unfold Addr.add; simp
                                                                 rw [e] at hcl; exact hcl
  have hf : firstOf bs = l.toNat := by
    rcases bs with _ | ⟨a, r⟩
    · simp at hl
    · simp at hl; subst hl; rfl
  have hne0 : bs.length ≠ 0 := by omega
  by_cases hz : szD l.toNat = 0
  · exact of _ (scan_lead crc hne0 (by rw [hf]; exact hz)) (scan_any1 ad n c l crc w h0 (by omega) hcl' hz)
  have hzf : szD (firstOf bs) ≠ 0 := by rw [hf]; exact hz
  have hN : szA l.toNat crc = 3 + szD l.toNat + szT crc := by unfold szA; rw [if_neg hz]
  have hTp := szT_pos crc
  have hDl := szD_le l.toNat
  rcases Nat.lt_or_ge n 3 with h3 | h3
  · have ht : third bs = true := by
      match bs, hlen with
      | [], _ => rfl
      | [a], _ => rfl
      | [a, b], _ => rfl
      | a :: b :: c :: r, hlen => simp at hlen; omega
    exact of _ (scan_few hne0 hzf ht (by rw [hf, hN]; omega)) (scan_any2 ad n c _ l crc w h0 h3 hcl' rfl (by rw [hN]; omega) (by rw [hN]; omega))
  obtain ⟨ad1, x, e1, _, hx, hcx⟩ := h.at_ (k := 1) (by omega)
  obtain ⟨ad2, y, e2, _, hy, hcy⟩ := h.at_ (k := 2) (by omega)
  obtain rfl := Option.some.inj e1
  obtain rfl := Option.some.inj e2
  have hth : third bs = (y == 255 - x) ∧ numOf bs = x := by
    match bs, hlen with
    | [], hlen => simp at hlen; omega
    | [a], hlen => simp at hlen; omega
    | [a, b], hlen => simp at hlen; omega
    | a :: b :: c :: r, hlen => simp at hx hy; subst hx hy; exact ⟨rfl, rfl⟩
  by_cases hxy : y = 255 - x
  · have ht : third bs = true := by rw [hth.1, hxy]; simp
    rcases Nat.lt_or_ge n (szA l.toNat crc) with hl2 | hl2
    · exact of _ (scan_few hne0 hzf ht (by rw [hf]; omega)) (scan_any4 ad n c _ l x y crc w h3 (by omega) hcl' hcx hcy hxy rfl (by omega) (by rw [hN]; omega))
    · have hng : ¬ bs.length < szA (firstOf bs) crc := by rw [hf]; omega
      by_cases htl : tailOf bs crc = trl crc (dataOf bs)
      · refine of _ (scan_good hne0 hzf ht hng htl) ?_
        unfold tailOf dataOf at htl
        rw [hf] at htl
        unfold dataOf
        rw [hf, hth.2]
        exact scan_any6 ad n c _ l x y crc w h3 (by omega) hcl' hcx hcy hxy rfl hl2 hnc hcm (szD l.toNat) (szT crc) hN.symm (by omega) (by omega) rfl bs B h hB htl (by rw [hN]; omega)
      · refine of _ (scan_tail hne0 hzf ht hng htl) ?_
        unfold tailOf dataOf at htl
        rw [hf] at htl
        exact scan_any5 ad n c _ l x y crc w h3 (by omega) hcl' hcx hcy hxy rfl hl2 hnc hcm (szD l.toNat) (szT crc) hN.symm (by omega) (by omega) rfl bs B h hB htl (by rw [hN]; omega)
  · have ht : third bs = false := by rw [hth.1, beq_eq_false_iff_ne]; exact hxy
    exact of _ (scan_third crc hne0 hzf ht) (scan_any3 ad n c _ l x y crc w h3 (by omega) hcl' hcx hcy hxy rfl (by rw [hN]; omega) (by rw [hN]; omega))
theorem ScanPost.is {w w' : World} {s : Nat} {x : UInt8} {d : List UInt8} {e : Ending} (h : ScanPost w (s, x, d) e w') :
    ∃ A c, e = .returned (.tuple #[.agg #[.int .u8 (x.toNat : Int), .slice A d.length c], .int .i64 (s : Int)]) ∧ OwnB w' w.heap.size 5 (.slice A d.length c) d.length d ∧ d.length ≤ c ∧ c ≤ 9223372036854775807 ∧ Below w.heap.size w w' := h
end Go.Proofs.YtonloefjhofeeaaGreatDoor
