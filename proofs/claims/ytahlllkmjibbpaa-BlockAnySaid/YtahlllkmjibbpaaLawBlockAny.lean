/-
  'lifelinelaw04.BlockAny' answers true for every input, and leaves its arguments as they were.
  Conditions: none but what the row itself says of its arguments (how much memory each may take).
-/
import Derived.Test.YtahlllkmjibbpaaRows
import Derived.Test.YtahlllkmjibbpaaBlockLaw
import Derived.Test.YtahlllkmjibbpaaFrame
import Derived.WalkKit
import Derived.Deep.RegionHeld3
import Derived.Deep.RegionWith
import Derived.Deep.DrawnRows
import Derived.ProofKit
import Derived.OpenShut
import Derived.ShutString
import Derived.ChangeOld
import Derived.Below
namespace Go.Proofs.Ytahlllkmjibbpaa.blockAny
open Go.ChangeShapes Go.WideShapes Go.ChangeAt Go.RowKit
open Go.ChangeMaps (open_string shut_string)
set_option linter.unusedVariables false

theorem own : ownKnob Try.prog.godebug = none := by kernel_rfl
theorem laidOut : laidOutB Try.prog = true := by kernel_rfl

theorem size_1 (crc : Bool) (N : Nat) (h : szA 1 crc = N) (w : World) : Calls Try.prog 14 #[.int .u8 1, .bool crc] w fun e w' => e = .returned (.int .i64 (N : Int)) ∧ w = w' := by rw [← h]; exact size_any 1 (by omega) crc w
theorem size_2 (crc : Bool) (N : Nat) (h : szA 2 crc = N) (w : World) : Calls Try.prog 14 #[.int .u8 2, .bool crc] w fun e w' => e = .returned (.int .i64 (N : Int)) ∧ w = w' := by rw [← h]; exact size_any 2 (by omega) crc w
theorem xor_not (x : UInt8) : x ^^^ (255 - x) = 255 := by
  apply UInt8.toNat_inj.1
  have h := u8lt x
  have e : (255 - x).toNat = 255 ^^^ x.toNat := by
    rw [xor255 ⟨x.toNat, h⟩]
    have := not8 x
    simp only
    omega
  rw [UInt8.toNat_xor, e, Nat.xor_comm, Nat.xor_assoc, Nat.xor_self]
  rfl
theorem xor_not_ne {x y : UInt8} (h : y ≠ 255 - x) : x ^^^ y ≠ 255 := by
  intro hh
  apply h
  have h2 := xor_not x
  rw [← h2] at hh
  have h3 := congrArg UInt8.toNat hh
  rw [UInt8.toNat_xor, UInt8.toNat_xor] at h3
  exact UInt8.toNat_inj.1 (xor_cancel_left h3)

set_option maxHeartbeats 4000000 in
theorem walk_nil (a0 : Option Addr) (c0 : Nat) (x1 : Bool) (w : World) (h0 : Bys w w.heap.size a0 0 []) (l0 : 0 ≤ c0) (s0 : c0 ≤ 140737488351232) :
    Calls Try.prog 6 #[.slice (a0) 0 c0, .bool x1] w fun e w' => e = .returned (.bool true) ∧ Below w.heap.size w w' := by
  have H0 := keepHid h0
  have HSC := keepHid (scan_nil x1)
  clear h0
  go_enter Try.func6, Try.ntmps6
  go_wp2_with fail
  refine (awake_any _).mono ?_
  rintro e w1 ⟨rfl, hb⟩
  have HB1 := keepHid hb
  have H1 := keepHid ((H0.out.below hb).more hb.size)
  clear hb
  go_wp2_with fail
  refine (scan_any _ _ _ _ _ x1 _ H1.out (Nat.le_refl _) l0 (by omega)).mono ?_
  rw [HSC.out]
  intro e w2 hsp
  obtain ⟨A2, c2, rfl, ho2, hc21, hc22, hb2⟩ := hsp.is
  rw [show (((0 : UInt8).toNat : Nat) : Int) = 0 from rfl, show ((0 : Nat) : Int) = 0 from rfl, show ([] : List UInt8).length = 0 from rfl]
  obtain ⟨w3, hw3⟩ : ∃ w3, w2.alloc (.cells #[.int .u8 0, .slice A2 0 c2] 28) = w3 := ⟨_, rfl⟩
  have hb23 : Below w1.heap.size w1 w3 := by rw [← hw3]; exact hb2.alloc hb2.size _
  have hk3 : Blk w3 w2.heap.size 28 #[.int .u8 0, .slice A2 0 c2] := by rw [← hw3]; exact Blk.new w2 _ _
  have H3 := keepHid (H1.out.below hb23)
  have HB3 := keepHid (HB1.out.trans (hb23.mono HB1.out.size))
  have k0 : w3.cell? ⟨w2.heap.size, 0, none⟩ = some (.int .u8 0) := hk3.cell 0
  have k1 : w3.cell? ⟨w2.heap.size, 1, none⟩ = some (.slice A2 0 c2) := hk3.cell 1
  clear hsp ho2 hc21 hb2 hb23 hk3
  go_wp2
  go_ret
  exact ⟨rfl, HB3.out⟩

set_option maxHeartbeats 4000000 in
theorem walk_lead (ad : Addr) (n0 c0 : Nat) (b0 : List UInt8) (l : UInt8) (x1 : Bool) (w : World) (h0 : Bys w w.heap.size (some ad) n0 b0) (hn : 0 < n0) (hl : b0[0]? = some l) (hsc : scanL b0 x1 = (1, 0, [])) (hz : szD l.toNat = 0) (l0 : n0 ≤ c0) (s0 : c0 ≤ 140737488351232) :
    Calls Try.prog 6 #[.slice (some ad) n0 c0, .bool x1] w fun e w' => e = .returned (.bool true) ∧ Below w.heap.size w w' := by
  have H0 := keepHid h0
  have HSC := keepHid hsc
  have HL := keepHid hl
  have hn0 : ((n0 : Int) == 0) = false := by simp; omega
  have hsz : szA l.toNat x1 = 0 := by unfold szA; rw [if_pos hz]
  have HSZ := keepHid hsz
  have p1 : ((l.toNat : Int) != 1) = true := by
    rw [bne_iff_ne]; intro h
    have : l.toNat = 1 := by omega
    rw [this] at hz; simp [szD] at hz
  have p2 : ((l.toNat : Int) != 2) = true := by
    rw [bne_iff_ne]; intro h
    have : l.toNat = 2 := by omega
    rw [this] at hz; simp [szD] at hz
  clear h0 hsc hl hz hsz
  go_enter Try.func6, Try.ntmps6
  go_wp2_with fail
  refine (awake_any _).mono ?_
  rintro e w1 ⟨rfl, hb⟩
  have HB1 := keepHid hb
  have H1 := keepHid ((H0.out.below hb).more hb.size)
  clear hb
  go_wp2_with fail
  refine (scan_any _ _ _ _ _ x1 _ H1.out (Nat.le_refl _) l0 (by omega)).mono ?_
  rw [HSC.out]
  intro e w2 hsp
  obtain ⟨A2, c2, rfl, ho2, hc21, hc22, hb2⟩ := hsp.is
  rw [show (((0 : UInt8).toNat : Nat) : Int) = 0 from rfl, show ((1 : Nat) : Int) = 1 from rfl, show ([] : List UInt8).length = 0 from rfl]
  obtain ⟨w3, hw3⟩ : ∃ w3, w2.alloc (.cells #[.int .u8 0, .slice A2 0 c2] 28) = w3 := ⟨_, rfl⟩
  have hb23 : Below w1.heap.size w1 w3 := by rw [← hw3]; exact hb2.alloc hb2.size _
  have hk3 : Blk w3 w2.heap.size 28 #[.int .u8 0, .slice A2 0 c2] := by rw [← hw3]; exact Blk.new w2 _ _
  have H3 := keepHid (H1.out.below hb23)
  have HB3 := keepHid (HB1.out.trans (hb23.mono HB1.out.size))
  have k0 : w3.cell? ⟨w2.heap.size, 0, none⟩ = some (.int .u8 0) := hk3.cell 0
  have k1 : w3.cell? ⟨w2.heap.size, 1, none⟩ = some (.slice A2 0 c2) := hk3.cell 1
  clear hsp ho2 hc21 hb2 hb23 hk3
  obtain ⟨ad', l', e1, _, hl', hcl⟩ := H3.out.at_ hn
  obtain rfl := Option.some.inj e1
  obtain rfl : l' = l := by rw [HL.out] at hl'; exact (Option.some.inj hl').symm
  have hcl' : w3.cell? ad = some (.int .u8 (l'.toNat : Int)) := by
    have e : ad.add 0 = ad := by unfold Addr.add; simp
    rw [e] at hcl; exact hcl
  clear hcl hl'
  go_wp2_with fail
  refine (size_any l'.toNat (u8lt l') x1 _).mono ?_
  rintro e w' ⟨rfl, rfl⟩
  rw [HSZ.out]
  go_wp2
  go_ret
  exact ⟨rfl, HB3.out⟩

set_option maxHeartbeats 4000000 in
theorem walk_few (ad : Addr) (n0 c0 N : Nat) (b0 : List UInt8) (l : UInt8) (x1 : Bool) (w : World) (h0 : Bys w w.heap.size (some ad) n0 b0) (hn : 0 < n0) (h3 : n0 < 3) (hl : b0[0]? = some l) (hsc : scanL b0 x1 = (0, 0, [])) (hl12 : l = 1 ∨ l = 2) (hN : szA l.toNat x1 = N) (hNn : n0 < N) (l0 : n0 ≤ c0) (s0 : c0 ≤ 140737488351232) :
    Calls Try.prog 6 #[.slice (some ad) n0 c0, .bool x1] w fun e w' => e = .returned (.bool true) ∧ Below w.heap.size w w' := by
  have H0 := keepHid h0
  have HSC := keepHid hsc
  have HL := keepHid hl
  have HN := keepHid hN
  have hn0 : ((n0 : Int) == 0) = false := by simp; omega
  have hd : decide ((2 : Int) < (n0 : Int)) = false := by simp; omega
  have hlt : (n0 : Int) < (N : Int) := by omega
  clear h0 hsc hl hN
  go_enter Try.func6, Try.ntmps6
  go_wp2_with fail
  refine (awake_any _).mono ?_
  rintro e w1 ⟨rfl, hb⟩
  have HB1 := keepHid hb
  have H1 := keepHid ((H0.out.below hb).more hb.size)
  clear hb
  go_wp2_with fail
  refine (scan_any _ _ _ _ _ x1 _ H1.out (Nat.le_refl _) l0 (by omega)).mono ?_
  rw [HSC.out]
  intro e w2 hsp
  obtain ⟨A2, c2, rfl, ho2, hc21, hc22, hb2⟩ := hsp.is
  rw [show (((0 : UInt8).toNat : Nat) : Int) = 0 from rfl, show ((0 : Nat) : Int) = 0 from rfl, show ([] : List UInt8).length = 0 from rfl]
  obtain ⟨w3, hw3⟩ : ∃ w3, w2.alloc (.cells #[.int .u8 0, .slice A2 0 c2] 28) = w3 := ⟨_, rfl⟩
  have hb23 : Below w1.heap.size w1 w3 := by rw [← hw3]; exact hb2.alloc hb2.size _
  have hk3 : Blk w3 w2.heap.size 28 #[.int .u8 0, .slice A2 0 c2] := by rw [← hw3]; exact Blk.new w2 _ _
  have H3 := keepHid (H1.out.below hb23)
  have HB3 := keepHid (HB1.out.trans (hb23.mono HB1.out.size))
  have k0 : w3.cell? ⟨w2.heap.size, 0, none⟩ = some (.int .u8 0) := hk3.cell 0
  have k1 : w3.cell? ⟨w2.heap.size, 1, none⟩ = some (.slice A2 0 c2) := hk3.cell 1
  clear hsp ho2 hc21 hb2 hb23 hk3
  obtain ⟨ad', l', e1, _, hl', hcl⟩ := H3.out.at_ hn
  obtain rfl := Option.some.inj e1
  obtain rfl : l' = l := by rw [HL.out] at hl'; exact (Option.some.inj hl').symm
  have hcl' : w3.cell? ad = some (.int .u8 (l'.toNat : Int)) := by
    have e : ad.add 0 = ad := by unfold Addr.add; simp
    rw [e] at hcl; exact hcl
  clear hcl hl'
  rcases hl12 with rfl | rfl
  · have HM : Hid (szA 1 x1 = N) := HN
    go_wp2
    go_quiet (fail)
    go_wp2_with fail
    refine (size_1 x1 _ HM.out _).mono ?_
    rintro e w' ⟨rfl, rfl⟩
    go_wp2
    go_ret
    exact ⟨rfl, below_drewN HB3.out _⟩
  · have HM : Hid (szA 2 x1 = N) := HN
    go_wp2
    go_quiet (fail)
    go_wp2_with fail
    refine (size_2 x1 _ HM.out _).mono ?_
    rintro e w' ⟨rfl, rfl⟩
    go_wp2
    go_ret
    exact ⟨rfl, below_drewN HB3.out _⟩

set_option maxHeartbeats 4000000 in
theorem walk_head (ad : Addr) (n0 c0 N : Nat) (b0 : List UInt8) (l x y : UInt8) (x1 : Bool) (w : World) (h0 : Bys w w.heap.size (some ad) n0 b0) (h3 : 3 ≤ n0) (hl : b0[0]? = some l) (hx : b0[1]? = some x) (hy : b0[2]? = some y) (hl12 : l = 1 ∨ l = 2) (hN : szA l.toNat x1 = N) (hsc : scanL b0 x1 = (1, 0, [])) (hxy : y ≠ 255 - x) (l0 : n0 ≤ c0) (s0 : c0 ≤ 140737488351232) :
    Calls Try.prog 6 #[.slice (some ad) n0 c0, .bool x1] w fun e w' => e = .returned (.bool true) ∧ Below w.heap.size w w' := by
  have hn : 0 < n0 := by omega
  have H0 := keepHid h0
  have HSC := keepHid hsc
  have HL := keepHid hl
  have HX := keepHid hx
  have HY := keepHid hy
  have HN := keepHid hN
  have hn0 : ((n0 : Int) == 0) = false := by simp; omega
  have hd : decide ((2 : Int) < (n0 : Int)) = true := by simp; omega
  have hi1 : (1 : Int) < (n0 : Int) := by omega
  have hi2 : (2 : Int) < (n0 : Int) := by omega
  obtain ⟨z, hz⟩ : ∃ z, (x ^^^ y).toNat = z := ⟨_, rfl⟩
  have hxor : bits .xor .u8 (x.toNat : Int) (y.toNat : Int) = (z : Int) := by rw [xor8 rfl rfl (u8lt x) (u8lt y), ← UInt8.toNat_xor, hz]
  have hne : ((z : Int) != 255) = true := by
    rw [bne_iff_ne]; intro h
    exact xor_not_ne hxy (UInt8.toNat_inj.1 (by have : (x ^^^ y).toNat = 255 := by omega
                                                rw [this]; rfl))
  clear hz
  clear h0 hsc hl hx hy hN hxy
  go_enter Try.func6, Try.ntmps6
  go_wp2_with fail
  refine (awake_any _).mono ?_
  rintro e w1 ⟨rfl, hb⟩
  have HB1 := keepHid hb
  have H1 := keepHid ((H0.out.below hb).more hb.size)
  clear hb
  go_wp2_with fail
  refine (scan_any _ _ _ _ _ x1 _ H1.out (Nat.le_refl _) l0 (by omega)).mono ?_
  rw [HSC.out]
  intro e w2 hsp
  obtain ⟨A2, c2, rfl, ho2, hc21, hc22, hb2⟩ := hsp.is
  rw [show (((0 : UInt8).toNat : Nat) : Int) = 0 from rfl, show ((1 : Nat) : Int) = 1 from rfl, show ([] : List UInt8).length = 0 from rfl]
  obtain ⟨w3, hw3⟩ : ∃ w3, w2.alloc (.cells #[.int .u8 0, .slice A2 0 c2] 28) = w3 := ⟨_, rfl⟩
  have hb23 : Below w1.heap.size w1 w3 := by rw [← hw3]; exact hb2.alloc hb2.size _
  have hk3 : Blk w3 w2.heap.size 28 #[.int .u8 0, .slice A2 0 c2] := by rw [← hw3]; exact Blk.new w2 _ _
  have H3 := keepHid (H1.out.below hb23)
  have HB3 := keepHid (HB1.out.trans (hb23.mono HB1.out.size))
  have k0 : w3.cell? ⟨w2.heap.size, 0, none⟩ = some (.int .u8 0) := hk3.cell 0
  have k1 : w3.cell? ⟨w2.heap.size, 1, none⟩ = some (.slice A2 0 c2) := hk3.cell 1
  clear hsp ho2 hc21 hb2 hb23 hk3
  obtain ⟨ad', l', e1, _, hl', hcl⟩ := H3.out.at_ hn
  obtain rfl := Option.some.inj e1
  obtain rfl : l' = l := by rw [HL.out] at hl'; exact (Option.some.inj hl').symm
  have hcl' : w3.cell? ad = some (.int .u8 (l'.toNat : Int)) := by
    have e : ad.add 0 = ad := by unfold Addr.add; simp
    rw [e] at hcl; exact hcl
  clear hcl hl'
  obtain ⟨ad', x', e1, _, hx', hcx⟩ := H3.out.at_ (k := 1) (by omega)
  obtain rfl := Option.some.inj e1
  obtain rfl : x' = x := by rw [HX.out] at hx'; exact (Option.some.inj hx').symm
  obtain ⟨ad', y', e1, _, hy', hcy⟩ := H3.out.at_ (k := 2) (by omega)
  obtain rfl := Option.some.inj e1
  obtain rfl : y' = y := by rw [HY.out] at hy'; exact (Option.some.inj hy').symm
  have hcx' : w3.cell? ⟨ad.block, ad.off + 1, none⟩ = some (.int .u8 (x'.toNat : Int)) := hcx
  have hcy' : w3.cell? ⟨ad.block, ad.off + 2, none⟩ = some (.int .u8 (y'.toNat : Int)) := hcy
  clear hx' hy' hcx hcy
  rcases hl12 with rfl | rfl
  · have HM : Hid (szA 1 x1 = N) := HN
    go_wp2
    go_quiet (fail)
    go_wp2
    go_ret
    exact ⟨rfl, below_drewN HB3.out _⟩
  · have HM : Hid (szA 2 x1 = N) := HN
    go_wp2
    go_quiet (fail)
    go_wp2
    go_ret
    exact ⟨rfl, below_drewN HB3.out _⟩

set_option maxHeartbeats 4000000 in
theorem walk_less (ad : Addr) (n0 c0 N : Nat) (b0 : List UInt8) (l x y : UInt8) (x1 : Bool) (w : World) (h0 : Bys w w.heap.size (some ad) n0 b0) (h3 : 3 ≤ n0) (hl : b0[0]? = some l) (hx : b0[1]? = some x) (hy : b0[2]? = some y) (hl12 : l = 1 ∨ l = 2) (hN : szA l.toNat x1 = N) (hsc : scanL b0 x1 = (0, 0, [])) (hxy : y = 255 - x) (hNn : n0 < N) (l0 : n0 ≤ c0) (s0 : c0 ≤ 140737488351232) :
    Calls Try.prog 6 #[.slice (some ad) n0 c0, .bool x1] w fun e w' => e = .returned (.bool true) ∧ Below w.heap.size w w' := by
  have hn : 0 < n0 := by omega
  have H0 := keepHid h0
  have HSC := keepHid hsc
  have HL := keepHid hl
  have HX := keepHid hx
  have HY := keepHid hy
  have HN := keepHid hN
  have hn0 : ((n0 : Int) == 0) = false := by simp; omega
  have hd : decide ((2 : Int) < (n0 : Int)) = true := by simp; omega
  have hi1 : (1 : Int) < (n0 : Int) := by omega
  have hi2 : (2 : Int) < (n0 : Int) := by omega
  have hxor : bits .xor .u8 (x.toNat : Int) (y.toNat : Int) = 255 := by rw [xor8 rfl rfl (u8lt x) (u8lt y), ← UInt8.toNat_xor, hxy, xor_not]; rfl
  have hlt : (n0 : Int) < (N : Int) := by omega
  clear h0 hsc hl hx hy hN hxy
  go_enter Try.func6, Try.ntmps6
  go_wp2_with fail
  refine (awake_any _).mono ?_
  rintro e w1 ⟨rfl, hb⟩
  have HB1 := keepHid hb
  have H1 := keepHid ((H0.out.below hb).more hb.size)
  clear hb
  go_wp2_with fail
  refine (scan_any _ _ _ _ _ x1 _ H1.out (Nat.le_refl _) l0 (by omega)).mono ?_
  rw [HSC.out]
  intro e w2 hsp
  obtain ⟨A2, c2, rfl, ho2, hc21, hc22, hb2⟩ := hsp.is
  rw [show (((0 : UInt8).toNat : Nat) : Int) = 0 from rfl, show ((0 : Nat) : Int) = 0 from rfl, show ([] : List UInt8).length = 0 from rfl]
  obtain ⟨w3, hw3⟩ : ∃ w3, w2.alloc (.cells #[.int .u8 0, .slice A2 0 c2] 28) = w3 := ⟨_, rfl⟩
  have hb23 : Below w1.heap.size w1 w3 := by rw [← hw3]; exact hb2.alloc hb2.size _
  have hk3 : Blk w3 w2.heap.size 28 #[.int .u8 0, .slice A2 0 c2] := by rw [← hw3]; exact Blk.new w2 _ _
  have H3 := keepHid (H1.out.below hb23)
  have HB3 := keepHid (HB1.out.trans (hb23.mono HB1.out.size))
  have k0 : w3.cell? ⟨w2.heap.size, 0, none⟩ = some (.int .u8 0) := hk3.cell 0
  have k1 : w3.cell? ⟨w2.heap.size, 1, none⟩ = some (.slice A2 0 c2) := hk3.cell 1
  clear hsp ho2 hc21 hb2 hb23 hk3
  obtain ⟨ad', l', e1, _, hl', hcl⟩ := H3.out.at_ hn
  obtain rfl := Option.some.inj e1
  obtain rfl : l' = l := by rw [HL.out] at hl'; exact (Option.some.inj hl').symm
  have hcl' : w3.cell? ad = some (.int .u8 (l'.toNat : Int)) := by
    have e : ad.add 0 = ad := by unfold Addr.add; simp
    rw [e] at hcl; exact hcl
  clear hcl hl'
  obtain ⟨ad', x', e1, _, hx', hcx⟩ := H3.out.at_ (k := 1) (by omega)
  obtain rfl := Option.some.inj e1
  obtain rfl : x' = x := by rw [HX.out] at hx'; exact (Option.some.inj hx').symm
  obtain ⟨ad', y', e1, _, hy', hcy⟩ := H3.out.at_ (k := 2) (by omega)
  obtain rfl := Option.some.inj e1
  obtain rfl : y' = y := by rw [HY.out] at hy'; exact (Option.some.inj hy').symm
  have hcx' : w3.cell? ⟨ad.block, ad.off + 1, none⟩ = some (.int .u8 (x'.toNat : Int)) := hcx
  have hcy' : w3.cell? ⟨ad.block, ad.off + 2, none⟩ = some (.int .u8 (y'.toNat : Int)) := hcy
  clear hx' hy' hcx hcy
  rcases hl12 with rfl | rfl
  · have HM : Hid (szA 1 x1 = N) := HN
    go_wp2
    go_quiet (fail)
    go_wp2_with fail
    refine (size_1 x1 _ HM.out _).mono ?_
    rintro e w' ⟨rfl, rfl⟩
    go_wp2
    go_ret
    exact ⟨rfl, below_drewN HB3.out _⟩
  · have HM : Hid (szA 2 x1 = N) := HN
    go_wp2
    go_quiet (fail)
    go_wp2_with fail
    refine (size_2 x1 _ HM.out _).mono ?_
    rintro e w' ⟨rfl, rfl⟩
    go_wp2
    go_ret
    exact ⟨rfl, below_drewN HB3.out _⟩

set_option maxHeartbeats 4000000 in
theorem walk_tail (ad : Addr) (n0 c0 N : Nat) (b0 : List UInt8) (l x y : UInt8) (x1 : Bool) (w : World) (h0 : Bys w w.heap.size (some ad) n0 b0) (h3 : 3 ≤ n0) (hl : b0[0]? = some l) (hx : b0[1]? = some x) (hy : b0[2]? = some y) (hl12 : l = 1 ∨ l = 2) (hN : szA l.toNat x1 = N) (hsc : scanL b0 x1 = (1, 0, [])) (hxy : y = 255 - x) (hNn : N ≤ n0) (l0 : n0 ≤ c0) (s0 : c0 ≤ 140737488351232) :
    Calls Try.prog 6 #[.slice (some ad) n0 c0, .bool x1] w fun e w' => e = .returned (.bool true) ∧ Below w.heap.size w w' := by
  have hn : 0 < n0 := by omega
  have H0 := keepHid h0
  have HSC := keepHid hsc
  have HL := keepHid hl
  have HX := keepHid hx
  have HY := keepHid hy
  have HN := keepHid hN
  have hn0 : ((n0 : Int) == 0) = false := by simp; omega
  have hd : decide ((2 : Int) < (n0 : Int)) = true := by simp; omega
  have hi1 : (1 : Int) < (n0 : Int) := by omega
  have hi2 : (2 : Int) < (n0 : Int) := by omega
  have hxor : bits .xor .u8 (x.toNat : Int) (y.toNat : Int) = 255 := by rw [xor8 rfl rfl (u8lt x) (u8lt y), ← UInt8.toNat_xor, hxy, xor_not]; rfl
  have hlt : ¬ (n0 : Int) < (N : Int) := by omega
  clear h0 hsc hl hx hy hN hxy
  go_enter Try.func6, Try.ntmps6
  go_wp2_with fail
  refine (awake_any _).mono ?_
  rintro e w1 ⟨rfl, hb⟩
  have HB1 := keepHid hb
  have H1 := keepHid ((H0.out.below hb).more hb.size)
  clear hb
  go_wp2_with fail
  refine (scan_any _ _ _ _ _ x1 _ H1.out (Nat.le_refl _) l0 (by omega)).mono ?_
  rw [HSC.out]
  intro e w2 hsp
  obtain ⟨A2, c2, rfl, ho2, hc21, hc22, hb2⟩ := hsp.is
  rw [show (((0 : UInt8).toNat : Nat) : Int) = 0 from rfl, show ((1 : Nat) : Int) = 1 from rfl, show ([] : List UInt8).length = 0 from rfl]
  obtain ⟨w3, hw3⟩ : ∃ w3, w2.alloc (.cells #[.int .u8 0, .slice A2 0 c2] 28) = w3 := ⟨_, rfl⟩
  have hb23 : Below w1.heap.size w1 w3 := by rw [← hw3]; exact hb2.alloc hb2.size _
  have hk3 : Blk w3 w2.heap.size 28 #[.int .u8 0, .slice A2 0 c2] := by rw [← hw3]; exact Blk.new w2 _ _
  have H3 := keepHid (H1.out.below hb23)
  have HB3 := keepHid (HB1.out.trans (hb23.mono HB1.out.size))
  have k0 : w3.cell? ⟨w2.heap.size, 0, none⟩ = some (.int .u8 0) := hk3.cell 0
  have k1 : w3.cell? ⟨w2.heap.size, 1, none⟩ = some (.slice A2 0 c2) := hk3.cell 1
  clear hsp ho2 hc21 hb2 hb23 hk3
  obtain ⟨ad', l', e1, _, hl', hcl⟩ := H3.out.at_ hn
  obtain rfl := Option.some.inj e1
  obtain rfl : l' = l := by rw [HL.out] at hl'; exact (Option.some.inj hl').symm
  have hcl' : w3.cell? ad = some (.int .u8 (l'.toNat : Int)) := by
    have e : ad.add 0 = ad := by unfold Addr.add; simp
    rw [e] at hcl; exact hcl
  clear hcl hl'
  obtain ⟨ad', x', e1, _, hx', hcx⟩ := H3.out.at_ (k := 1) (by omega)
  obtain rfl := Option.some.inj e1
  obtain rfl : x' = x := by rw [HX.out] at hx'; exact (Option.some.inj hx').symm
  obtain ⟨ad', y', e1, _, hy', hcy⟩ := H3.out.at_ (k := 2) (by omega)
  obtain rfl := Option.some.inj e1
  obtain rfl : y' = y := by rw [HY.out] at hy'; exact (Option.some.inj hy').symm
  have hcx' : w3.cell? ⟨ad.block, ad.off + 1, none⟩ = some (.int .u8 (x'.toNat : Int)) := hcx
  have hcy' : w3.cell? ⟨ad.block, ad.off + 2, none⟩ = some (.int .u8 (y'.toNat : Int)) := hcy
  clear hx' hy' hcx hcy
  rcases hl12 with rfl | rfl
  · have HM : Hid (szA 1 x1 = N) := HN
    go_wp2
    go_quiet (fail)
    go_wp2_with fail
    refine (size_1 x1 _ HM.out _).mono ?_
    rintro e w' ⟨rfl, rfl⟩
    go_wp2
    go_ret
    exact ⟨rfl, below_drewN HB3.out _⟩
  · have HM : Hid (szA 2 x1 = N) := HN
    go_wp2
    go_quiet (fail)
    go_wp2_with fail
    refine (size_2 x1 _ HM.out _).mono ?_
    rintro e w' ⟨rfl, rfl⟩
    go_wp2
    go_ret
    exact ⟨rfl, below_drewN HB3.out _⟩

set_option maxHeartbeats 4000000 in
theorem walk_good (ad : Addr) (n0 c0 N D : Nat) (b0 : List UInt8) (l x y : UInt8) (num : UInt8) (d : List UInt8) (x1 : Bool) (w : World) (h0 : Bys w w.heap.size (some ad) n0 b0) (h3 : 3 ≤ n0) (hl : b0[0]? = some l) (hx : b0[1]? = some x) (hy : b0[2]? = some y) (hl12 : l = 1 ∨ l = 2) (hN : szA l.toNat x1 = N) (hsc : scanL b0 x1 = (2, num, d)) (hxy : y = 255 - x) (hNn : N ≤ n0) (hen : enc num d x1 = b0.take N) (hdl : d.length = D) (hD : D ≤ 1024) (l0 : n0 ≤ c0) (s0 : c0 ≤ 140737488351232) :
    Calls Try.prog 6 #[.slice (some ad) n0 c0, .bool x1] w fun e w' => e = .returned (.bool true) ∧ Below w.heap.size w w' := by
  have hn : 0 < n0 := by omega
  have H0 := keepHid h0
  have HSC := keepHid hsc
  have HL := keepHid hl
  have HX := keepHid hx
  have HY := keepHid hy
  have HN := keepHid hN
  have hn0 : ((n0 : Int) == 0) = false := by simp; omega
  have hd : decide ((2 : Int) < (n0 : Int)) = true := by simp; omega
  have hi1 : (1 : Int) < (n0 : Int) := by omega
  have hi2 : (2 : Int) < (n0 : Int) := by omega
  have hxor : bits .xor .u8 (x.toNat : Int) (y.toNat : Int) = 255 := by rw [xor8 rfl rfl (u8lt x) (u8lt y), ← UInt8.toNat_xor, hxy, xor_not]; rfl
  have hlt : ¬ (n0 : Int) < (N : Int) := by omega
  have HEN := keepHid hen
  have HDL := keepHid hdl
  clear h0 hsc hl hx hy hN hxy hen hdl
  go_enter Try.func6, Try.ntmps6
  go_wp2_with fail
  refine (awake_any _).mono ?_
  rintro e w1 ⟨rfl, hb⟩
  have HB1 := keepHid hb
  have H1 := keepHid ((H0.out.below hb).more hb.size)
  clear hb
  go_wp2_with fail
  refine (scan_any _ _ _ _ _ x1 _ H1.out (Nat.le_refl _) l0 (by omega)).mono ?_
  rw [HSC.out]
  intro e w2 hsp
  obtain ⟨A2, c2, rfl, ho2, hc21, hc22, hb2⟩ := hsp.is
  rw [HDL.out] at ho2 hc21 ⊢
  rw [show ((2 : Nat) : Int) = 2 from rfl]
  obtain ⟨w3, hw3⟩ : ∃ w3, w2.alloc (.cells #[.int .u8 (num.toNat : Int), .slice A2 D c2] 28) = w3 := ⟨_, rfl⟩
  have hb23 : Below w1.heap.size w1 w3 := by rw [← hw3]; exact hb2.alloc hb2.size _
  have hk3 : Blk w3 w2.heap.size 28 #[.int .u8 (num.toNat : Int), .slice A2 D c2] := by rw [← hw3]; exact Blk.new w2 _ _
  have hb33 : Below w2.heap.size w2 w3 := by rw [← hw3]; exact (Below.refl _ _).alloc (Nat.le_refl _) _
  have hs13 := hb23.size
  have H3 := keepHid ((H1.out.below hb23).more hs13)
  have HB3 := keepHid (HB1.out.trans (hb23.mono HB1.out.size))
  have HD3 := keepHid (((ho2.bys (by omega)).below hb33).more hb33.size)
  have k0 : w3.cell? ⟨w2.heap.size, 0, none⟩ = some (.int .u8 (num.toNat : Int)) := hk3.cell 0
  have k1 : w3.cell? ⟨w2.heap.size, 1, none⟩ = some (.slice A2 D c2) := hk3.cell 1
  clear hsp ho2 hc21 hb2 hb23 hk3 hb33 hs13
  obtain ⟨ad', l', e1, _, hl', hcl⟩ := H3.out.at_ hn
  obtain rfl := Option.some.inj e1
  obtain rfl : l' = l := by rw [HL.out] at hl'; exact (Option.some.inj hl').symm
  have hcl' : w3.cell? ad = some (.int .u8 (l'.toNat : Int)) := by
    have e : ad.add 0 = ad := by unfold Addr.add; simp
    rw [e] at hcl; exact hcl
  clear hcl hl'
  obtain ⟨ad', x', e1, _, hx', hcx⟩ := H3.out.at_ (k := 1) (by omega)
  obtain rfl := Option.some.inj e1
  obtain rfl : x' = x := by rw [HX.out] at hx'; exact (Option.some.inj hx').symm
  obtain ⟨ad', y', e1, _, hy', hcy⟩ := H3.out.at_ (k := 2) (by omega)
  obtain rfl := Option.some.inj e1
  obtain rfl : y' = y := by rw [HY.out] at hy'; exact (Option.some.inj hy').symm
  have hcx' : w3.cell? ⟨ad.block, ad.off + 1, none⟩ = some (.int .u8 (x'.toNat : Int)) := hcx
  have hcy' : w3.cell? ⟨ad.block, ad.off + 2, none⟩ = some (.int .u8 (y'.toNat : Int)) := hcy
  clear hx' hy' hcx hcy
  have hfin : ∀ w' : World, Below w3.heap.size w3 w' → (convert 22 9 (.slice (some ad) N c0)).run Try.prog w' = .ok (.string (strB (b0.take N))) w' ∧ w'.cell? ad = some (.int .u8 (l'.toNat : Int)) ∧ w'.cell? ⟨w2.heap.size, 0, none⟩ = some (.int .u8 (num.toNat : Int)) ∧ w'.cell? ⟨w2.heap.size, 1, none⟩ = some (.slice A2 D c2) ∧ Below w3.heap.size w3 w' := by
    intro w' hb
    exact ⟨run_str 22 5 9 Try.underlying22 Try.underlying5 Try.underlying9 ((H3.out.head hNn).below hb), (hb.cell (World.block_lt_of_cell? _ _ hcl')).trans hcl', (hb.cell (World.block_lt_of_cell? _ _ k0)).trans k0, (hb.cell (World.block_lt_of_cell? _ _ k1)).trans k1, hb⟩
  have HFIN := keepHid hfin
  have hNi0 : (0 : Int) ≤ (N : Int) := by omega
  have hNi1 : (N : Int) ≤ (c0 : Int) := by omega
  clear hfin
  rcases hl12 with rfl | rfl
  · have HM : Hid (szA 1 x1 = N) := HN
    have HFN : Hid (∀ w' : World, Below w3.heap.size w3 w' → (convert 22 9 (.slice (some ad) N c0)).run Try.prog w' = .ok (.string (strB (b0.take N))) w' ∧ w'.cell? ad = some (.int .u8 1) ∧ w'.cell? ⟨w2.heap.size, 0, none⟩ = some (.int .u8 (num.toNat : Int)) ∧ w'.cell? ⟨w2.heap.size, 1, none⟩ = some (.slice A2 D c2) ∧ Below w3.heap.size w3 w') := HFIN
    clear HFIN
    go_wp2
    go_quiet (fail)
    go_wp2_with fail
    refine (size_1 x1 _ HM.out _).mono ?_
    rintro e w' ⟨rfl, rfl⟩
    go_wp2
    go_region_held3 (fun w' => (convert 22 9 (.slice (some ad) N c0)).run Try.prog w' = .ok (.string (strB (b0.take N))) w' ∧ w'.cell? ad = some (.int .u8 1) ∧ w'.cell? ⟨w2.heap.size, 0, none⟩ = some (.int .u8 (num.toNat : Int)) ∧ w'.cell? ⟨w2.heap.size, 1, none⟩ = some (.slice A2 D c2) ∧ Below w3.heap.size w3 w')
      (exact HFN.out _ (by first | assumption | exact Below.refl _ _ | exact (Below.refl _ _).drew | exact below_drewN (Below.refl _ _) _ | exact (below_drewN (Below.refl _ _) _).drew | exact Below.drew (by assumption)))
      (first
        | (go_at_call 13
           refine (made_any num _ _ _ d x1 _ (by first | exact HD3.out | exact HD3.out.drew | exact HD3.out.drewN _) (by omega)).mono ?_
           rintro e w5 ⟨rfl, hb5⟩
           rw [HEN.out]
           have hb5' : Below w3.heap.size w3 w5 := ⟨hb5.os, hb5.tape, hb5.output, hb5.size, hb5.block⟩
           clear hb5)
        | (go_at_call 14
           refine (size_1 x1 _ HM.out _).mono ?_
           rintro e w' ⟨rfl, rfl⟩))
    all_goals
      go_wp2
      go_ret
      exact ⟨rfl, HB3.out.trans (Below.mono (by assumption) HB3.out.size)⟩
  · have HM : Hid (szA 2 x1 = N) := HN
    have HFN : Hid (∀ w' : World, Below w3.heap.size w3 w' → (convert 22 9 (.slice (some ad) N c0)).run Try.prog w' = .ok (.string (strB (b0.take N))) w' ∧ w'.cell? ad = some (.int .u8 2) ∧ w'.cell? ⟨w2.heap.size, 0, none⟩ = some (.int .u8 (num.toNat : Int)) ∧ w'.cell? ⟨w2.heap.size, 1, none⟩ = some (.slice A2 D c2) ∧ Below w3.heap.size w3 w') := HFIN
    clear HFIN
    go_wp2
    go_quiet (fail)
    go_wp2_with fail
    refine (size_2 x1 _ HM.out _).mono ?_
    rintro e w' ⟨rfl, rfl⟩
    go_wp2
    go_region_held3 (fun w' => (convert 22 9 (.slice (some ad) N c0)).run Try.prog w' = .ok (.string (strB (b0.take N))) w' ∧ w'.cell? ad = some (.int .u8 2) ∧ w'.cell? ⟨w2.heap.size, 0, none⟩ = some (.int .u8 (num.toNat : Int)) ∧ w'.cell? ⟨w2.heap.size, 1, none⟩ = some (.slice A2 D c2) ∧ Below w3.heap.size w3 w')
      (exact HFN.out _ (by first | assumption | exact Below.refl _ _ | exact (Below.refl _ _).drew | exact below_drewN (Below.refl _ _) _ | exact (below_drewN (Below.refl _ _) _).drew | exact Below.drew (by assumption)))
      (first
        | (go_at_call 13
           refine (made_any num _ _ _ d x1 _ (by first | exact HD3.out | exact HD3.out.drew | exact HD3.out.drewN _) (by omega)).mono ?_
           rintro e w5 ⟨rfl, hb5⟩
           rw [HEN.out]
           have hb5' : Below w3.heap.size w3 w5 := ⟨hb5.os, hb5.tape, hb5.output, hb5.size, hb5.block⟩
           clear hb5)
        | (go_at_call 14
           refine (size_2 x1 _ HM.out _).mono ?_
           rintro e w' ⟨rfl, rfl⟩))
    all_goals
      go_wp2
      go_ret
      exact ⟨rfl, HB3.out.trans (Below.mono (by assumption) HB3.out.size)⟩

theorem walk (a0 : Option Addr) (n0 c0 : Nat) (b0 : List UInt8) (x1 : Bool) (w : World) (h0 : Bys w w.heap.size a0 n0 b0) (l0 : n0 ≤ c0) (s0 : c0 ≤ 140737488351232) :
    Calls Try.prog 6 #[.slice a0 n0 c0, .bool x1] w fun e w' => e = .returned (.bool true) ∧ Below w.heap.size w w' := by
  have hlen := h0.len
  rcases Nat.eq_zero_or_pos n0 with h | hn
  · subst h
    obtain rfl : b0 = [] := List.eq_nil_of_length_eq_zero hlen
    exact walk_nil a0 c0 x1 w h0 l0 s0
  obtain ⟨ad, l, rfl, _, hl, _⟩ := h0.at_ hn
  have hf : firstOf b0 = l.toNat := by
    rcases b0 with _ | ⟨a, r⟩
    · simp at hl
    · simp at hl; subst hl; rfl
  have hne0 : b0.length ≠ 0 := by omega
  by_cases hz : szD l.toNat = 0
  · exact walk_lead ad n0 c0 b0 l x1 w h0 hn hl (scan_lead x1 hne0 (by rw [hf]; exact hz)) hz l0 s0
  have hzf : szD (firstOf b0) ≠ 0 := by rw [hf]; exact hz
  have hN : szA l.toNat x1 = 3 + szD l.toNat + szT x1 := by unfold szA; rw [if_neg hz]
  have hTp := szT_pos x1
  have hDl := szD_le l.toNat
  have hl12 : l = 1 ∨ l = 2 := by
    by_cases h1 : l.toNat = 1
    · exact .inl (UInt8.toNat_inj.1 (by rw [h1]; rfl))
    · by_cases h2 : l.toNat = 2
      · exact .inr (UInt8.toNat_inj.1 (by rw [h2]; rfl))
      · exact absurd (szD_other h1 h2) hz
  rcases Nat.lt_or_ge n0 3 with h3 | h3
  · have ht : third b0 = true := by
      match b0, hlen with
      | [], _ => rfl
      | [a], _ => rfl
      | [a, b], _ => rfl
      | a :: b :: c :: r, hlen => simp at hlen; omega
    have hD8 : 128 ≤ szD l.toNat := by rcases hl12 with rfl | rfl <;> decide
    exact walk_few ad n0 c0 _ b0 l x1 w h0 hn h3 hl (scan_few hne0 hzf ht (by rw [hf, hN]; omega)) hl12 rfl (by rw [hN]; omega) l0 s0
  obtain ⟨_, x, _, _, hx, _⟩ := h0.at_ (k := 1) (by omega)
  obtain ⟨_, y, _, _, hy, _⟩ := h0.at_ (k := 2) (by omega)
  have hth : third b0 = (y == 255 - x) := by
    match b0, hlen with
    | [], hlen => simp at hlen; omega
    | [a], hlen => simp at hlen; omega
    | [a, b], hlen => simp at hlen; omega
    | a :: b :: c :: r, hlen => simp at hx hy; subst hx hy; rfl
  by_cases hxy : y = 255 - x
  · have ht : third b0 = true := by rw [hth, hxy]; simp
    rcases Nat.lt_or_ge n0 (szA l.toNat x1) with hl2 | hl2
    · exact walk_less ad n0 c0 _ b0 l x y x1 w h0 h3 hl hx hy hl12 rfl (scan_few hne0 hzf ht (by rw [hf]; omega)) hxy hl2 l0 s0
    · have hng : ¬ b0.length < szA (firstOf b0) x1 := by rw [hf]; omega
      by_cases htl : tailOf b0 x1 = trl x1 (dataOf b0)
      · have hdl : (dataOf b0).length = szD l.toNat := by unfold dataOf; rw [hf, List.length_take, List.length_drop]; omega
        exact walk_good ad n0 c0 _ _ b0 l x y (numOf b0) (dataOf b0) x1 w h0 h3 hl hx hy hl12 rfl (scan_good hne0 hzf ht hng htl) hxy hl2 (by rw [← hf]; exact scan_back hne0 hzf ht hng htl) hdl hDl l0 s0
      · exact walk_tail ad n0 c0 _ b0 l x y x1 w h0 h3 hl hx hy hl12 rfl (scan_tail hne0 hzf ht hng htl) hxy hl2 l0 s0
  · have ht : third b0 = false := by rw [hth, beq_eq_false_iff_ne]; exact hxy
    exact walk_head ad n0 c0 _ b0 l x y x1 w h0 h3 hl hx hy hl12 rfl (scan_third x1 hne0 hzf ht) hxy l0 s0

set_option maxRecDepth 100000 in
theorem lifted (os : Os) (started : os.Started) (H : Type) (enc : TypeId × Value → H) :
    ReturnsInHanded {} Try.checked os 6 .any (Rows.blockAnySpec.pre6 enc Try.prog Try.f6 Rows.blockAnyRow.domain false) (Rows.blockAnySpec.post enc Try.prog Try.f6 false true false false) := by
  refine returnsInHanded_of_change_sized (C := Try.checked) own started (by kernel_rfl) Try.func6
    (ChangeSpec.witness6 (enc := enc) (C := Try.checked) false ⟨#[], #[.slice none 0 0, .bool false], []⟩ 8 (by kernel_rfl) (by kernel_rfl) (by kernel_rfl) (by kernel_rfl)) ?_
  intro W base args ds gs before hval0 hW hcnd hsz0 _
  have hsz : (DataW.weightsEach Try.prog (Try.f6.params.toList ++ Rows.blockAnySpec.plain.varTypes Try.prog) (ds ++ gs)).all (· ≤ reachBytes) = true := hsz0
  clear hsz0
  have hval : ∀ (j : Nat) t v, Try.f6.params[j]? = some t → args[j]? = some v → Value.okWide Try.prog W .any base t v := hval0
  have hW' := hW
  obtain ⟨p, q, hA0, hV, rfl, hfz, hnd⟩ := hW
  have hA : DataW.TrodAll enc Try.prog W 0 (fun _ => true) true Try.f6.params.toList args.toList ds p := hA0
  rw [Try.params6] at hA hval hsz
  obtain ⟨v0, vs0, d0, ds0, p0, q0, hargs, rfl, rfl, h0, r0⟩ := trodAll_cons hA
  obtain ⟨v1, vs1, d1, ds1, p1, q1, rfl, rfl, rfl, h1, r1⟩ := trodAll_cons r0
  obtain ⟨rfl, rfl, rfl⟩ := trodAll_nil r1
  obtain rfl : args = #[v0, v1] := by cases args; simp_all
  obtain ⟨rfl, rfl⟩ := trodVars_none hV
  have k0 := h0
  have lt0 : ∀ x ∈ p0, x.block < W.heap.size := by obtain ⟨m, hm⟩ := k0; exact DataW.trod_lt m _ _ _ hm
  have k1 := h1
  have lt1 : ∀ x ∈ p1, x.block < W.heap.size := by obtain ⟨m, hm⟩ := k1; exact DataW.trod_lt m _ _ _ hm
  obtain ⟨a0, n0, c0, b0, rfl, w0, l0, s0⟩ := open_bys Try.underlying22 Try.underlying5 (by kernel_rfl) (by kernel_rfl) (hval 0 22 v0 rfl rfl) (fun _ => rfl) h0 (fun el sp hd => sized_slice hsz (j := 0) (t := 22) (e := 5) rfl (by rw [hd]; rfl) Try.underlying22)
  obtain ⟨x1, rfl, rfl, rfl⟩ := open_bool Try.underlying4 (hval 1 4 v1 rfl rfl) h1
  clear hA0 hval0
  refine (walk a0 n0 c0 b0 x1 W w0 l0 s0).mono fun e W' ⟨he, bel⟩ => ?_
  subst he
  exact ⟨_, rfl, _, _, _, [], _, [], hW', trodAll_mk1 (shut_bool Try.underlying4 _), (trodAll_cons_mk (Below.trod laidOut (by kernel_rfl) (of_decide_eq_true (by kernel_rfl)) k0 bel lt0) (trodAll_cons_mk (Below.trod laidOut (by kernel_rfl) (of_decide_eq_true (by kernel_rfl)) k1 bel lt1) trodAll_mk0)), rfl, bel.frame _, fun h => by cases h⟩

theorem over : Rows.blockAnyRow.holds Try.pinned (OpenSpec.ofChange Rows.blockAnySpec) :=
  OpenClaim.holds_of_wide 6 Try.f6 rfl rfl rfl rfl rfl rfl rfl ⟨rfl, rfl, rfl, rfl, rfl⟩ rfl rfl rfl rfl rfl (by kernel_rfl) Try.func6 (by kernel_rfl)
    (of_decide_eq_true (by kernel_rfl)) (by unfold Func.isWrapper; first | (rw [if_pos (by decide +kernel)]; kernel_rfl) | (rw [if_neg (by decide +kernel)]; exact ⟨rfl, rfl⟩))
    (fun os started H enc _ => lifted os started H enc)

theorem proved : Rows.BlockAnySaid := over
end Go.Proofs.Ytahlllkmjibbpaa.blockAny
