/-
  'lifelinelaw04.BlockScan' answers true for every input, and leaves its arguments as they were.
  Conditions: none but what the row itself says of its arguments (how much memory each may take).
-/
import Derived.Test.YtahlllkmjibbpaaRows
import Derived.Test.YtahlllkmjibbpaaBlockLaw
import Derived.Test.YtahlllkmjibbpaaFrame
import Derived.Test.YtahlllkmjibbpaaConv
import Derived.WalkKit
import Derived.Deep.RegionHeld3
import Derived.Deep.RegionWith
import Derived.Deep.DrawnRows
import Derived.ProofKit
import Derived.OpenShut
import Derived.ShutString
import Derived.ChangeOld
import Derived.Below
namespace Go.Proofs.Ytahlllkmjibbpaa.blockScan
open Go.ChangeShapes Go.WideShapes Go.ChangeAt Go.RowKit
open Go.ChangeMaps (open_string shut_string)
set_option linter.unusedVariables false

theorem own : ownKnob Try.prog.godebug = none := by kernel_rfl
theorem laidOut : laidOutB Try.prog = true := by kernel_rfl

set_option maxHeartbeats 4000000 in
theorem walk (a0 : Option Addr) (n0 c0 : Nat) (b0 : List UInt8) (x1 : Bool) (x2 : Int) (x3 : Bool) (x4 : Int) (a5 : Option Addr) (n5 c5 : Nat) (b5 : List UInt8) (w : World) (h0 : Bys w w.heap.size a0 n0 b0) (l0 : n0 ≤ c0) (s0 : c0 ≤ 140737488351232) (h2 : 0 ≤ x2 ∧ x2 ≤ 255) (h4 : 0 ≤ x4 ∧ x4 ≤ 65535) (h5 : Bys w w.heap.size a5 n5 b5) (l5 : n5 ≤ c5) (s5 : c5 ≤ 140737488351232) :
    Calls Try.prog 4 #[.slice a0 n0 c0, .bool x1, .int .u8 x2, .bool x3, .int .u16 x4, .slice a5 n5 c5] w fun e w' => e = .returned (.bool true) ∧ Below w.heap.size w w' := by
  obtain ⟨num, hnum⟩ : ∃ y : UInt8, x2 = (y.toNat : Int) := ⟨UInt8.ofNat x2.toNat, by rw [UInt8.toNat_ofNat', Nat.mod_eq_of_lt (by omega)]; omega⟩
  subst hnum
  obtain ⟨cut, rfl⟩ : ∃ m : Nat, x4 = (m : Int) := ⟨x4.toNat, by omega⟩
  have hu := u8lt num
  have H0 := keepHid h0
  have H5 := keepHid h5
  obtain ⟨N, hN⟩ : ∃ N, longN x1 = N := ⟨_, rfl⟩
  have hN2 : N = 128 ∨ N = 1024 := by rw [← hN]; exact longN_or x1
  obtain ⟨d, hd⟩ : ∃ d, dat b0 (longN x1) = d := ⟨_, rfl⟩
  have hdl : d.length = N := by rw [← hd, dat_len, hN]
  have hd2 : d.length = 128 ∨ d.length = 1024 := by omega
  have hT := szT_pos x3
  obtain ⟨L, hL⟩ : ∃ L, 3 + N + szT x3 = L := ⟨_, rfl⟩
  have hLe : (enc num d x3).length = L := by rw [enc_len, hdl, hL]
  have hLn : L ≤ 2000 := by omega
  have hL0 : 0 < L := by omega
  have hNle : N ≤ 1024 := by omega
  obtain ⟨k, hk⟩ : ∃ k, cut % L = k := ⟨_, rfl⟩
  have hkL : k < L := by rw [← hk]; exact Nat.mod_lt _ hL0
  have hmod : (cut : Int) % (L : Int) = (k : Int) := by rw [← hk]; rfl
  have hLz : ((L : Int) == 0) = false := by simp; omega
  have hs1 := scan_enc num d x3 hd2 b5
  have hs2 := scan_cut num d x3 hd2 k (by omega)
  have HS1 := keepHid hs1
  have HS2 := keepHid hs2
  have HD := keepHid hd
  have HDL := keepHid hdl
  have HLE := keepHid hLe
  clear h0 h5 hN hd hdl hL hLe hT hN2 hd2 hs1 hs2 hk
  go_enter Try.func4, Try.ntmps4
  go_wp2_with fail
  refine (awake_any _).mono ?_
  rintro e w1 ⟨rfl, hb⟩
  have HB1 := keepHid hb
  have H1 := keepHid (H0.out.below hb)
  clear hb
  go_wp2_with fail
  refine (data_any _ _ _ _ _ x1 _ H1.out HB1.out.size).mono ?_
  rintro e w2 ⟨A2, c2, rfl, ho2, hc21, hc22, hb2⟩
  rw [HD.out] at ho2 hc21 ⊢
  rw [HDL.out] at ho2 hc21 ⊢
  have HB2 := keepHid (HB1.out.trans (hb2.mono HB1.out.size))
  have HO2 := keepHid (ho2.bys (by omega))
  clear ho2 hb2
  go_wp2_with fail
  refine (made_any num _ _ _ _ x3 _ HO2.out (by omega)).mono ?_
  rintro e w3 ⟨rfl, hb3⟩
  have HB3 := keepHid (HB2.out.trans (hb3.mono HB2.out.size))
  have HD3 := keepHid ((HO2.out.below hb3).more hb3.size)
  clear hb3
  obtain ⟨c4, w4, hconv, hrow⟩ := run_str_bytes (P := Try.prog) w3 9 22 5 (enc num d x3) Try.underlying9 Try.underlying22 Try.underlying5 (by rw [HLE.out]; omega)
  rw [HLE.out] at hconv
  have hc4 : L ≤ c4 ∧ c4 ≤ 9223372036854775807 := by have := hrow.cap; rw [HLE.out] at this; exact this
  have HB4 := keepHid (HB3.out.trans (hrow.below.mono HB3.out.size))
  have HD4 := keepHid ((HD3.out.below hrow.below).more hrow.below.size)
  have hs4 : Bys w4 (w3.heap.size + 1) (some ⟨w3.heap.size, 0, none⟩) L (enc num d x3) := by have := hrow.bys; rwa [HLE.out] at this
  have hs4' := hs4.more (Nat.succ_le_of_lt hrow.lt)
  have HS4 := keepHid hs4'
  clear hrow hs4 hs4'
  go_wp2_with (at_builtin; go_loud (refine wpList_append_bytes _ rfl _ _ 22 rfl w4.heap.size 5 byteT (.slice none 0 0) 0 [] (by rfl) (OwnB.nil _ _ _) _ _ _ _ _ (by rfl) HS4.out _ (Nat.zero_add _) (by omega) (Nat.le_refl _) ?_))
  intro A5' cap5 w5 ho5 ht5 _ hc51 hc52
  have hb45 : Below w4.heap.size w4 w5 := ht5.below (fun i hi => by simp [Value.ownBlock] at hi) (Nat.le_refl _)
  have HB5 := keepHid (HB4.out.trans (hb45.mono HB4.out.size))
  have HD5 := keepHid ((HD4.out.below hb45).more hb45.size)
  have HS5 := keepHid ((HS4.out.below hb45).more hb45.size)
  have HO5 := keepHid ho5
  have HR5 := keepHid (H5.out.below HB5.out)
  have hs45 := hb45.size
  have HB45 := keepHid hb45
  clear ho5 ht5 hb45
  go_wp2_with (at_builtin; go_loud (refine wpList_append_bytes _ rfl _ _ 22 rfl w4.heap.size 5 byteT _ _ _ (by rfl) HO5.out _ _ _ _ _ (by rfl) HR5.out _ rfl (by omega) hs45 ?_))
  intro A6 cap6 w6 ho6 ht6 _ hc61 hc62
  have hb56 : Below w4.heap.size w5 w6 := ht6.below (own_base HO5.out) hs45
  have HB6 := keepHid (HB5.out.trans (hb56.mono HB4.out.size))
  have hb46 : Below w4.heap.size w4 w6 := HB45.out.trans hb56
  have HD6 := keepHid ((HD4.out.below hb46).more hb46.size)
  have HS6 := keepHid ((HS4.out.below hb46).more hb46.size)
  have HO6 := keepHid (ho6.bys (by omega))
  clear ho6 ht6 hb56 hb46
  go_wp2_with fail
  refine (scan_any _ _ _ _ _ x3 _ HO6.out (Nat.le_refl _) hc61 hc62).mono ?_
  rw [HS1.out]
  intro e w7 hsp
  obtain ⟨A7, c7, rfl, ho7, hc71, hc72, hb7⟩ := hsp.is
  obtain ⟨w8, hw8⟩ : ∃ w8, w7.alloc (.cells #[.int .u8 (num.toNat : Int), .slice A7 N c7] 28) = w8 := ⟨_, rfl⟩
  have hb78 : Below w7.heap.size w7 w8 := by rw [← hw8]; exact (Below.refl _ _).alloc (Nat.le_refl _) _
  have hk8 : Blk w8 w7.heap.size 28 #[.int .u8 (num.toNat : Int), .slice A7 N c7] := by rw [← hw8]; exact Blk.new w7 _ _
  have hb68 : Below w6.heap.size w6 w8 := hb7.trans (hb78.mono hb7.size)
  have HB8 := keepHid (HB6.out.trans (hb68.mono HB6.out.size))
  have HD8 := keepHid ((HD6.out.below hb68).more hb68.size)
  have HS8 := keepHid ((HS6.out.below hb68).more hb68.size)
  have HX8 := keepHid (((ho7.bys (by omega)).below hb78).more hb78.size)
  have HK8 := keepHid hk8
  rw [HDL.out] at hc71 ⊢
  rw [show ((2 : Nat) : Int) = 2 from rfl]
  clear hsp ho7 hb7 hb78 hk8 hb68
  go_wp2_with fail
  clear hw8
  refine (scan_any _ _ _ _ _ x3 _ (HS8.out.head (k := k) (by omega)) (Nat.le_refl _) (by omega) (by omega)).mono ?_
  rw [HS2.out]
  intro e w9 hsp
  obtain ⟨A9, c9, rfl, ho9, hc91, hc92, hb9⟩ := hsp.is
  obtain ⟨w10, hw10⟩ : ∃ w10, w9.alloc (.cells #[.int .u8 0, .slice A9 0 c9] 28) = w10 := ⟨_, rfl⟩
  have hb90 : Below w8.heap.size w8 w10 := by rw [← hw10]; exact hb9.alloc hb9.size _
  have hk10 := HK8.out.below hb90 HK8.out.lt
  have hx10 := HX8.out.below hb90
  have hd10 := HD8.out.below hb90
  have hcx := run_str (P := Try.prog) (c := c7) 22 5 9 Try.underlying22 Try.underlying5 Try.underlying9 hx10
  have hcd := run_str (P := Try.prog) (c := c2) 22 5 9 Try.underlying22 Try.underlying5 Try.underlying9 hd10
  rw [HDL.out] at hcx
  have q0 : w10.cell? ⟨w7.heap.size, 0, none⟩ = some (.int .u8 (num.toNat : Int)) := hk10.cell 0
  have q1 : w10.cell? ⟨w7.heap.size, 1, none⟩ = some (.slice A7 N c7) := hk10.cell 1
  have HB10 := keepHid (HB8.out.trans (hb90.mono HB8.out.size))
  rw [show (((0 : UInt8).toNat : Nat) : Int) = 0 from rfl, show ((0 : Nat) : Int) = 0 from rfl, show ([] : List UInt8).length = 0 from rfl]
  clear hsp ho9 hc91 hb9 hb90 hk10 hx10 hd10
  go_wp2
  go_ret
  exact ⟨rfl, HB10.out⟩

set_option maxRecDepth 100000 in
theorem lifted (os : Os) (started : os.Started) (H : Type) (enc : TypeId × Value → H) :
    ReturnsInHanded {} Try.checked os 4 .any (Rows.blockScanSpec.pre6 enc Try.prog Try.f4 Rows.blockScanRow.domain false) (Rows.blockScanSpec.post enc Try.prog Try.f4 false true false false) := by
  refine returnsInHanded_of_change_sized (C := Try.checked) own started (by kernel_rfl) Try.func4
    (ChangeSpec.witness6 (enc := enc) (C := Try.checked) false ⟨#[], #[.slice none 0 0, .bool false, .int .u8 0, .bool false, .int .u16 0, .slice none 0 0], []⟩ 8 (by kernel_rfl) (by kernel_rfl) (by kernel_rfl) (by kernel_rfl)) ?_
  intro W base args ds gs before hval0 hW hcnd hsz0 _
  have hsz : (DataW.weightsEach Try.prog (Try.f4.params.toList ++ Rows.blockScanSpec.plain.varTypes Try.prog) (ds ++ gs)).all (· ≤ reachBytes) = true := hsz0
  clear hsz0
  have hval : ∀ (j : Nat) t v, Try.f4.params[j]? = some t → args[j]? = some v → Value.okWide Try.prog W .any base t v := hval0
  have hW' := hW
  obtain ⟨p, q, hA0, hV, rfl, hfz, hnd⟩ := hW
  have hA : DataW.TrodAll enc Try.prog W 0 (fun _ => true) true Try.f4.params.toList args.toList ds p := hA0
  rw [Try.params4] at hA hval hsz
  obtain ⟨v0, vs0, d0, ds0, p0, q0, hargs, rfl, rfl, h0, r0⟩ := trodAll_cons hA
  obtain ⟨v1, vs1, d1, ds1, p1, q1, rfl, rfl, rfl, h1, r1⟩ := trodAll_cons r0
  obtain ⟨v2, vs2, d2, ds2, p2, q2, rfl, rfl, rfl, h2, r2⟩ := trodAll_cons r1
  obtain ⟨v3, vs3, d3, ds3, p3, q3, rfl, rfl, rfl, h3, r3⟩ := trodAll_cons r2
  obtain ⟨v4, vs4, d4, ds4, p4, q4, rfl, rfl, rfl, h4, r4⟩ := trodAll_cons r3
  obtain ⟨v5, vs5, d5, ds5, p5, q5, rfl, rfl, rfl, h5, r5⟩ := trodAll_cons r4
  obtain ⟨rfl, rfl, rfl⟩ := trodAll_nil r5
  obtain rfl : args = #[v0, v1, v2, v3, v4, v5] := by cases args; simp_all
  obtain ⟨rfl, rfl⟩ := trodVars_none hV
  have k0 := h0
  have lt0 : ∀ x ∈ p0, x.block < W.heap.size := by obtain ⟨m, hm⟩ := k0; exact DataW.trod_lt m _ _ _ hm
  have k1 := h1
  have lt1 : ∀ x ∈ p1, x.block < W.heap.size := by obtain ⟨m, hm⟩ := k1; exact DataW.trod_lt m _ _ _ hm
  have k2 := h2
  have lt2 : ∀ x ∈ p2, x.block < W.heap.size := by obtain ⟨m, hm⟩ := k2; exact DataW.trod_lt m _ _ _ hm
  have k3 := h3
  have lt3 : ∀ x ∈ p3, x.block < W.heap.size := by obtain ⟨m, hm⟩ := k3; exact DataW.trod_lt m _ _ _ hm
  have k4 := h4
  have lt4 : ∀ x ∈ p4, x.block < W.heap.size := by obtain ⟨m, hm⟩ := k4; exact DataW.trod_lt m _ _ _ hm
  have k5 := h5
  have lt5 : ∀ x ∈ p5, x.block < W.heap.size := by obtain ⟨m, hm⟩ := k5; exact DataW.trod_lt m _ _ _ hm
  obtain ⟨a0, n0, c0, b0, rfl, w0, l0, s0⟩ := open_bys Try.underlying22 Try.underlying5 (by kernel_rfl) (by kernel_rfl) (hval 0 22 v0 rfl rfl) (fun _ => rfl) h0 (fun el sp hd => sized_slice hsz (j := 0) (t := 22) (e := 5) rfl (by rw [hd]; rfl) Try.underlying22)
  obtain ⟨x1, rfl, rfl, rfl⟩ := open_bool Try.underlying4 (hval 1 4 v1 rfl rfl) h1
  obtain ⟨x2, rfl, rfl, rfl, w2⟩ := open_int Try.underlying5 (hval 2 5 v2 rfl rfl) h2
  obtain ⟨x3, rfl, rfl, rfl⟩ := open_bool Try.underlying4 (hval 3 4 v3 rfl rfl) h3
  obtain ⟨x4, rfl, rfl, rfl, w4⟩ := open_int Try.underlying32 (hval 4 32 v4 rfl rfl) h4
  obtain ⟨a5, n5, c5, b5, rfl, w5, l5, s5⟩ := open_bys Try.underlying22 Try.underlying5 (by kernel_rfl) (by kernel_rfl) (hval 5 22 v5 rfl rfl) (fun _ => rfl) h5 (fun el sp hd => sized_slice hsz (j := 5) (t := 22) (e := 5) rfl (by rw [hd]; rfl) Try.underlying22)
  clear hA0 hval0
  refine (walk a0 n0 c0 b0 x1 x2 x3 x4 a5 n5 c5 b5 W w0 l0 s0 (wf_u8 w2) (wf_u16 w4) w5 l5 s5).mono fun e W' ⟨he, bel⟩ => ?_
  subst he
  exact ⟨_, rfl, _, _, _, [], _, [], hW', trodAll_mk1 (shut_bool Try.underlying4 _), (trodAll_cons_mk (Below.trod laidOut (by kernel_rfl) (of_decide_eq_true (by kernel_rfl)) k0 bel lt0) (trodAll_cons_mk (Below.trod laidOut (by kernel_rfl) (of_decide_eq_true (by kernel_rfl)) k1 bel lt1) (trodAll_cons_mk (Below.trod laidOut (by kernel_rfl) (of_decide_eq_true (by kernel_rfl)) k2 bel lt2) (trodAll_cons_mk (Below.trod laidOut (by kernel_rfl) (of_decide_eq_true (by kernel_rfl)) k3 bel lt3) (trodAll_cons_mk (Below.trod laidOut (by kernel_rfl) (of_decide_eq_true (by kernel_rfl)) k4 bel lt4) (trodAll_cons_mk (Below.trod laidOut (by kernel_rfl) (of_decide_eq_true (by kernel_rfl)) k5 bel lt5) trodAll_mk0)))))), rfl, bel.frame _, fun h => by cases h⟩

theorem over : Rows.blockScanRow.holds Try.pinned (OpenSpec.ofChange Rows.blockScanSpec) :=
  OpenClaim.holds_of_wide 4 Try.f4 rfl rfl rfl rfl rfl rfl rfl ⟨rfl, rfl, rfl, rfl, rfl⟩ rfl rfl rfl rfl rfl (by kernel_rfl) Try.func4 (by kernel_rfl)
    (of_decide_eq_true (by kernel_rfl)) (by unfold Func.isWrapper; first | (rw [if_pos (by decide +kernel)]; kernel_rfl) | (rw [if_neg (by decide +kernel)]; exact ⟨rfl, rfl⟩))
    (fun os started H enc _ => lifted os started H enc)

theorem proved : Rows.BlockScanSaid := over
end Go.Proofs.Ytahlllkmjibbpaa.blockScan
