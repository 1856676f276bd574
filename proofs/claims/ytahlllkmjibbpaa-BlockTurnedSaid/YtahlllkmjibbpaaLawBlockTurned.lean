/-
  'lifelinelaw04.BlockTurned' answers true for every input, and leaves its arguments as they were.
  Conditions: none but what the row itself says of its arguments (how much memory each may take).
-/
import Derived.Test.YtahlllkmjibbpaaRows
import Derived.Test.YtahlllkmjibbpaaBlockLaw
import Derived.Test.YtahlllkmjibbpaaFrame
import Derived.Test.YtahlllkmjibbpaaConv
import Derived.WalkKit
import Derived.Deep.RegionHeld3
import Derived.Deep.RegionWith
import Derived.Deep.DrawnRows
import Derived.ProofKit
import Derived.OpenShut
import Derived.ShutString
import Derived.ChangeOld
import Derived.Below
namespace Go.Proofs.Ytahlllkmjibbpaa.blockTurned
open Go.ChangeShapes Go.WideShapes Go.ChangeAt Go.RowKit
open Go.ChangeMaps (open_string shut_string)
set_option linter.unusedVariables false

theorem own : ownKnob Try.prog.godebug = none := by kernel_rfl
theorem laidOut : laidOutB Try.prog = true := by kernel_rfl

set_option maxHeartbeats 4000000 in
theorem walk (a0 : Option Addr) (n0 c0 : Nat) (b0 : List UInt8) (x1 : Bool) (x2 : Int) (x3 : Bool) (x4 : Int) (x5 : Int) (w : World) (h0 : Bys w w.heap.size a0 n0 b0) (l0 : n0 ≤ c0) (s0 : c0 ≤ 140737488351232) (h2 : 0 ≤ x2 ∧ x2 ≤ 255) (h4 : 0 ≤ x4 ∧ x4 ≤ 65535) (h5 : 0 ≤ x5 ∧ x5 ≤ 255) :
    Calls Try.prog 5 #[.slice a0 n0 c0, .bool x1, .int .u8 x2, .bool x3, .int .u16 x4, .int .u8 x5] w fun e w' => e = .returned (.bool true) ∧ Below w.heap.size w w' := by
  obtain ⟨num, hnum⟩ : ∃ y : UInt8, x2 = (y.toNat : Int) := ⟨UInt8.ofNat x2.toNat, by rw [UInt8.toNat_ofNat', Nat.mod_eq_of_lt (by omega)]; omega⟩
  subst hnum
  obtain ⟨cut, rfl⟩ : ∃ m : Nat, x4 = (m : Int) := ⟨x4.toNat, by omega⟩
  have hu := u8lt num
  have H0 := keepHid h0
  obtain ⟨y, hy⟩ : ∃ y : UInt8, x5 = (y.toNat : Int) := ⟨UInt8.ofNat x5.toNat, by rw [UInt8.toNat_ofNat', Nat.mod_eq_of_lt (by omega)]; omega⟩
  subst hy
  obtain ⟨N, hN⟩ : ∃ N, longN x1 = N := ⟨_, rfl⟩
  have hN2 : N = 128 ∨ N = 1024 := by rw [← hN]; exact longN_or x1
  obtain ⟨d, hd⟩ : ∃ d, dat b0 (longN x1) = d := ⟨_, rfl⟩
  have hdl : d.length = N := by rw [← hd, dat_len, hN]
  have hd2 : d.length = 128 ∨ d.length = 1024 := by omega
  have hT := szT_pos x3
  obtain ⟨L, hL⟩ : ∃ L, 3 + N + szT x3 = L := ⟨_, rfl⟩
  have hLe : (enc num d x3).length = L := by rw [enc_len, hdl, hL]
  have hLn : L ≤ 2000 := by omega
  have hL0 : 0 < L := by omega
  have hNle : N ≤ 1024 := by omega
  obtain ⟨M, hM⟩ : ∃ M, M + 1 = L := ⟨L - 1, by omega⟩
  have hM0 : 0 < M := by omega
  have hLM : (L : Int) - 1 = (M : Int) := by omega
  obtain ⟨r, hr⟩ : ∃ r, cut % M = r := ⟨_, rfl⟩
  have hrM : r < M := by rw [← hr]; exact Nat.mod_lt _ hM0
  have hmod : (cut : Int) % (M : Int) = (r : Int) := by rw [← hr]; rfl
  have hMz : ((M : Int) == 0) = false := by simp; omega
  obtain ⟨k, hk⟩ : ∃ k, 1 + r = k := ⟨_, rfl⟩
  have hkL : k < L := by omega
  have hk1 : 1 ≤ k := by omega
  have hki : 1 + (r : Int) = (k : Int) := by omega
  obtain ⟨c, hc⟩ : ∃ c, (enc num d x3)[k]? = some c := ⟨_, List.getElem?_eq_getElem (by rw [hLe]; exact hkL)⟩
  have hs1 : y ≠ 0 → scanL ((enc num d x3).set k (c ^^^ y)) x3 = (1, 0, []) := fun hy => scan_turn num d x3 hd2 k hk1 c (c ^^^ y) hc (u8_xor_ne hy)
  have hs2 : y = 0 → scanL ((enc num d x3).set k (c ^^^ y)) x3 = (2, num, d) := fun hy => by
    have e0 : c ^^^ y = c := by rw [hy]; simp
    rw [e0, show (enc num d x3).set k c = enc num d x3 by obtain ⟨p1, p2⟩ := parts_of hc c; rw [p2]; exact p1.symm]
    have := scan_enc num d x3 hd2 []
    rwa [List.append_nil] at this
  have HS1 := keepHid hs1
  have HS2 := keepHid hs2
  have HC := keepHid hc
  have HD := keepHid hd
  have HDL := keepHid hdl
  have HLE := keepHid hLe
  clear h0 hN hd hdl hL hLe hT hN2 hd2 hs1 hs2 hk hr hM hc
  go_enter Try.func5, Try.ntmps5
  go_wp2_with fail
  refine (awake_any _).mono ?_
  rintro e w1 ⟨rfl, hb⟩
  have HB1 := keepHid hb
  have H1 := keepHid (H0.out.below hb)
  clear hb
  go_wp2_with fail
  refine (data_any _ _ _ _ _ x1 _ H1.out HB1.out.size).mono ?_
  rintro e w2 ⟨A2, c2, rfl, ho2, hc21, hc22, hb2⟩
  rw [HD.out] at ho2 hc21 ⊢
  rw [HDL.out] at ho2 hc21 ⊢
  have HB2 := keepHid (HB1.out.trans (hb2.mono HB1.out.size))
  have HO2 := keepHid (ho2.bys (by omega))
  clear ho2 hb2
  go_wp2_with fail
  refine (made_any num _ _ _ _ x3 _ HO2.out (by omega)).mono ?_
  rintro e w3 ⟨rfl, hb3⟩
  have HB3 := keepHid (HB2.out.trans (hb3.mono HB2.out.size))
  have HD3 := keepHid ((HO2.out.below hb3).more hb3.size)
  clear hb3
  obtain ⟨c4, w4, hconv, hrow⟩ := run_str_bytes (P := Try.prog) w3 9 22 5 (enc num d x3) Try.underlying9 Try.underlying22 Try.underlying5 (by rw [HLE.out]; omega)
  rw [HLE.out] at hconv
  have hc4 : L ≤ c4 ∧ c4 ≤ 9223372036854775807 := by have := hrow.cap; rw [HLE.out] at this; exact this
  have HB4 := keepHid (HB3.out.trans (hrow.below.mono HB3.out.size))
  have HD4 := keepHid ((HD3.out.below hrow.below).more hrow.below.size)
  have hs4 : Bys w4 (w3.heap.size + 1) (some ⟨w3.heap.size, 0, none⟩) L (enc num d x3) := by have := hrow.bys; rwa [HLE.out] at this
  have hs4' := hs4.more (Nat.succ_le_of_lt hrow.lt)
  have HS4 := keepHid hs4'
  have HF4 := keepHid hrow.froz
  clear hrow hs4 hs4'
  have hkI : (k : Int) < (L : Int) := by omega
  have hk0 : (0 : Int) ≤ (k : Int) := by omega
  have hcell : w4.cell? ⟨w3.heap.size, k, none⟩ = some (.int .u8 (c.toNat : Int)) := by
    obtain ⟨ad, ea, _, hh⟩ := HS4.out.2.2 k c HC.out
    obtain rfl := Option.some.inj ea
    have e : (⟨w3.heap.size, 0, none⟩ : Addr).add k = ⟨w3.heap.size, k, none⟩ := by unfold Addr.add; split <;> simp_all
    rwa [e] at hh
  have hfro : w4.frozen? ⟨w3.heap.size, k, none⟩ = false := HF4.out k (by rw [HLE.out]; exact hkL)
  have hxor : bits .xor .u8 (c.toNat : Int) (y.toNat : Int) = ((c ^^^ y).toNat : Int) := by rw [xor8 rfl rfl (u8lt c) (u8lt y), UInt8.toNat_xor]
  have HB5 := keepHid (HB4.out.setCell (p := ⟨w3.heap.size, k, none⟩) HB3.out.size (.int .u8 ((c ^^^ y).toNat : Int)))
  have HS5 := keepHid ((bys_set HS4.out HC.out (c ^^^ y)).more (by simp : w4.heap.size ≤ (w4.setCell ⟨w3.heap.size, k, none⟩ (.int .u8 ((c ^^^ y).toNat : Int))).heap.size))
  by_cases hy0 : y = 0
  · have hsc := HS2.out hy0
    have hyz : ((y.toNat : Int) == 0) = true := by rw [hy0]; rfl
    have HSC := keepHid hsc
    clear hy0 hsc
    go_wp2_with fail
    refine (scan_any _ _ _ _ _ x3 _ HS5.out (Nat.le_refl _) hc4.1 hc4.2).mono ?_
    rw [HSC.out]
    intro e w6 hsp
    obtain ⟨A6, c6, rfl, ho6, hc61, hc62, hb6⟩ := hsp.is
    rw [show ((2 : Nat) : Int) = 2 from rfl]
    have HB7 : Hid (∀ C : Array Value, Below w.heap.size w (w6.alloc (.cells C 28))) := keepHid fun C => (HB5.out.trans (hb6.mono HB5.out.size)).alloc (Nat.le_trans HB5.out.size hb6.size) _
    clear hsp ho6 hc61 hb6
    go_wp2
    go_ret
    exact ⟨rfl, HB7.out _⟩
  · have hsc := HS1.out hy0
    have hyz : ((y.toNat : Int) == 0) = false := by
      have : y.toNat ≠ 0 := fun e => hy0 (UInt8.toNat_inj.1 (by simpa using e))
      simp; omega
    have HSC := keepHid hsc
    clear hy0 hsc
    go_wp2_with fail
    refine (scan_any _ _ _ _ _ x3 _ HS5.out (Nat.le_refl _) hc4.1 hc4.2).mono ?_
    rw [HSC.out]
    intro e w6 hsp
    obtain ⟨A6, c6, rfl, ho6, hc61, hc62, hb6⟩ := hsp.is
    rw [show (((0 : UInt8).toNat : Nat) : Int) = 0 from rfl, show ((1 : Nat) : Int) = 1 from rfl, show ([] : List UInt8).length = 0 from rfl]
    have HB7 : Hid (∀ C : Array Value, Below w.heap.size w (w6.alloc (.cells C 28))) := keepHid fun C => (HB5.out.trans (hb6.mono HB5.out.size)).alloc (Nat.le_trans HB5.out.size hb6.size) _
    clear hsp ho6 hc61 hb6
    go_wp2
    go_ret
    exact ⟨rfl, HB7.out _⟩

set_option maxRecDepth 100000 in
theorem lifted (os : Os) (started : os.Started) (H : Type) (enc : TypeId × Value → H) :
    ReturnsInHanded {} Try.checked os 5 .any (Rows.blockTurnedSpec.pre6 enc Try.prog Try.f5 Rows.blockTurnedRow.domain false) (Rows.blockTurnedSpec.post enc Try.prog Try.f5 false true false false) := by
  refine returnsInHanded_of_change_sized (C := Try.checked) own started (by kernel_rfl) Try.func5
    (ChangeSpec.witness6 (enc := enc) (C := Try.checked) false ⟨#[], #[.slice none 0 0, .bool false, .int .u8 0, .bool false, .int .u16 0, .int .u8 0], []⟩ 8 (by kernel_rfl) (by kernel_rfl) (by kernel_rfl) (by kernel_rfl)) ?_
  intro W base args ds gs before hval0 hW hcnd hsz0 _
  have hsz : (DataW.weightsEach Try.prog (Try.f5.params.toList ++ Rows.blockTurnedSpec.plain.varTypes Try.prog) (ds ++ gs)).all (· ≤ reachBytes) = true := hsz0
  clear hsz0
  have hval : ∀ (j : Nat) t v, Try.f5.params[j]? = some t → args[j]? = some v → Value.okWide Try.prog W .any base t v := hval0
  have hW' := hW
  obtain ⟨p, q, hA0, hV, rfl, hfz, hnd⟩ := hW
  have hA : DataW.TrodAll enc Try.prog W 0 (fun _ => true) true Try.f5.params.toList args.toList ds p := hA0
  rw [Try.params5] at hA hval hsz
  obtain ⟨v0, vs0, d0, ds0, p0, q0, hargs, rfl, rfl, h0, r0⟩ := trodAll_cons hA
  obtain ⟨v1, vs1, d1, ds1, p1, q1, rfl, rfl, rfl, h1, r1⟩ := trodAll_cons r0
  obtain ⟨v2, vs2, d2, ds2, p2, q2, rfl, rfl, rfl, h2, r2⟩ := trodAll_cons r1
  obtain ⟨v3, vs3, d3, ds3, p3, q3, rfl, rfl, rfl, h3, r3⟩ := trodAll_cons r2
  obtain ⟨v4, vs4, d4, ds4, p4, q4, rfl, rfl, rfl, h4, r4⟩ := trodAll_cons r3
  obtain ⟨v5, vs5, d5, ds5, p5, q5, rfl, rfl, rfl, h5, r5⟩ := trodAll_cons r4
  obtain ⟨rfl, rfl, rfl⟩ := trodAll_nil r5
  obtain rfl : args = #[v0, v1, v2, v3, v4, v5] := by cases args; simp_all
  obtain ⟨rfl, rfl⟩ := trodVars_none hV
  have k0 := h0
  have lt0 : ∀ x ∈ p0, x.block < W.heap.size := by obtain ⟨m, hm⟩ := k0; exact DataW.trod_lt m _ _ _ hm
  have k1 := h1
  have lt1 : ∀ x ∈ p1, x.block < W.heap.size := by obtain ⟨m, hm⟩ := k1; exact DataW.trod_lt m _ _ _ hm
  have k2 := h2
  have lt2 : ∀ x ∈ p2, x.block < W.heap.size := by obtain ⟨m, hm⟩ := k2; exact DataW.trod_lt m _ _ _ hm
  have k3 := h3
  have lt3 : ∀ x ∈ p3, x.block < W.heap.size := by obtain ⟨m, hm⟩ := k3; exact DataW.trod_lt m _ _ _ hm
  have k4 := h4
  have lt4 : ∀ x ∈ p4, x.block < W.heap.size := by obtain ⟨m, hm⟩ := k4; exact DataW.trod_lt m _ _ _ hm
  have k5 := h5
  have lt5 : ∀ x ∈ p5, x.block < W.heap.size := by obtain ⟨m, hm⟩ := k5; exact DataW.trod_lt m _ _ _ hm
  obtain ⟨a0, n0, c0, b0, rfl, w0, l0, s0⟩ := open_bys Try.underlying22 Try.underlying5 (by kernel_rfl) (by kernel_rfl) (hval 0 22 v0 rfl rfl) (fun _ => rfl) h0 (fun el sp hd => sized_slice hsz (j := 0) (t := 22) (e := 5) rfl (by rw [hd]; rfl) Try.underlying22)
  obtain ⟨x1, rfl, rfl, rfl⟩ := open_bool Try.underlying4 (hval 1 4 v1 rfl rfl) h1
  obtain ⟨x2, rfl, rfl, rfl, w2⟩ := open_int Try.underlying5 (hval 2 5 v2 rfl rfl) h2
  obtain ⟨x3, rfl, rfl, rfl⟩ := open_bool Try.underlying4 (hval 3 4 v3 rfl rfl) h3
  obtain ⟨x4, rfl, rfl, rfl, w4⟩ := open_int Try.underlying32 (hval 4 32 v4 rfl rfl) h4
  obtain ⟨x5, rfl, rfl, rfl, w5⟩ := open_int Try.underlying5 (hval 5 5 v5 rfl rfl) h5
  clear hA0 hval0
  refine (walk a0 n0 c0 b0 x1 x2 x3 x4 x5 W w0 l0 s0 (wf_u8 w2) (wf_u16 w4) (wf_u8 w5)).mono fun e W' ⟨he, bel⟩ => ?_
  subst he
  exact ⟨_, rfl, _, _, _, [], _, [], hW', trodAll_mk1 (shut_bool Try.underlying4 _), (trodAll_cons_mk (Below.trod laidOut (by kernel_rfl) (of_decide_eq_true (by kernel_rfl)) k0 bel lt0) (trodAll_cons_mk (Below.trod laidOut (by kernel_rfl) (of_decide_eq_true (by kernel_rfl)) k1 bel lt1) (trodAll_cons_mk (Below.trod laidOut (by kernel_rfl) (of_decide_eq_true (by kernel_rfl)) k2 bel lt2) (trodAll_cons_mk (Below.trod laidOut (by kernel_rfl) (of_decide_eq_true (by kernel_rfl)) k3 bel lt3) (trodAll_cons_mk (Below.trod laidOut (by kernel_rfl) (of_decide_eq_true (by kernel_rfl)) k4 bel lt4) (trodAll_cons_mk (Below.trod laidOut (by kernel_rfl) (of_decide_eq_true (by kernel_rfl)) k5 bel lt5) trodAll_mk0)))))), rfl, bel.frame _, fun h => by cases h⟩

theorem over : Rows.blockTurnedRow.holds Try.pinned (OpenSpec.ofChange Rows.blockTurnedSpec) :=
  OpenClaim.holds_of_wide 5 Try.f5 rfl rfl rfl rfl rfl rfl rfl ⟨rfl, rfl, rfl, rfl, rfl⟩ rfl rfl rfl rfl rfl (by kernel_rfl) Try.func5 (by kernel_rfl)
    (of_decide_eq_true (by kernel_rfl)) (by unfold Func.isWrapper; first | (rw [if_pos (by decide +kernel)]; kernel_rfl) | (rw [if_neg (by decide +kernel)]; exact ⟨rfl, rfl⟩))
    (fun os started H enc _ => lifted os started H enc)

theorem proved : Rows.BlockTurnedSaid := over
end Go.Proofs.Ytahlllkmjibbpaa.blockTurned
