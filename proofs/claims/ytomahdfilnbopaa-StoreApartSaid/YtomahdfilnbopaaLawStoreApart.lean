/-
  'lifelinelaw19.StoreApart' answers true for every input, and leaves its arguments as they were.
  Conditions: none but what the row itself says of its arguments (how much memory each may take).
-/
import Derived.Test.YtomahdfilnbopaaRows
import Derived.Test.YtomahdfilnbopaaStoreAwake
import Derived.Test.YtomahdfilnbopaaMinMax
import Derived.Test.YtomahdfilnbopaaApp
import Derived.Deep.RegionHeld3
import Derived.Deep.RegionWith
import Derived.Deep.DrawnRows
import Derived.BigQuiet
import Derived.Lib.QuietBelow
import Derived.Deep.DeepCutAuto
import Derived.Test.YtomahdfilnbopaaFrame
import Derived.WalkKit
import Derived.ProofKit
import Derived.OpenShut
import Derived.ShutString
import Derived.ChangeOld
import Derived.Below
namespace Go.Proofs.Ytomahdfilnbopaa.storeApart
open Go.ChangeShapes Go.WideShapes Go.ChangeAt Go.RowKit
open Go.ChangeMaps (open_string shut_string)
set_option linter.unusedVariables false

theorem own : ownKnob Try.prog.godebug = none := by kernel_rfl
theorem laidOut : laidOutB Try.prog = true := by kernel_rfl

set_option maxRecDepth 100000 in
set_option maxHeartbeats 4000000 in
theorem walk (x0 : Int) (x1 : Int) (a2 : Option Addr) (n2 c2 : Nat) (b2 : List UInt8) (a3 : Option Addr) (n3 c3 : Nat) (b3 : List UInt8) (w : World) (h0 : 0 ≤ x0 ∧ x0 ≤ 65535) (h1 : 0 ≤ x1 ∧ x1 ≤ 65535) (h2 : Bys w w.heap.size a2 n2 b2) (l2 : n2 ≤ c2) (s2 : c2 ≤ 140737488351232) (h3 : Bys w w.heap.size a3 n3 b3) (l3 : n3 ≤ c3) (s3 : c3 ≤ 140737488351232) :
    Calls Try.prog 4 #[.int .u16 x0, .int .u16 x1, .slice a2 n2 c2, .slice a3 n3 c3] w fun e w' => e = .returned (.bool true) ∧ Below w.heap.size w w' := by
  have hz := zero_run
  obtain ⟨Z, hZ⟩ : ∃ Z, zrow 16384 = Z := ⟨_, rfl⟩
  rw [hZ] at hz
  have HZ := keepHid hZ
  clear hZ
  obtain ⟨a, ha⟩ : ∃ a : Nat, x0 % 8000 = (a : Int) := ⟨(x0 % 8000).toNat, by omega⟩
  have ha2 : a < 8000 := by omega
  obtain ⟨d, hd⟩ : ∃ a : Nat, x1 % 7000 = (a : Int) := ⟨(x1 % 7000).toNat, by omega⟩
  have hd2 : d < 7000 := by omega
  obtain ⟨k, e0⟩ : ∃ k : Nat, min (n2 : Int) 200 = (k : Int) := ⟨min n2 200, by omega⟩
  obtain ⟨m, e1⟩ : ∃ k : Nat, min (n3 : Int) 200 = (k : Int) := ⟨min n3 200, by omega⟩
  have q0 := fun W ts t => min_z ts t (n2 : Int) 200 k e0 W
  have q1 := fun W ts t => min_z ts t (n3 : Int) 200 m e1 W
  have hk1 : k ≤ n2 := by omega
  have hm1 : m ≤ n3 := by omega
  have hkc : (k : Int) ≤ (c2 : Int) := by omega
  have hmc : (m : Int) ≤ (c3 : Int) := by omega
  have hk9 : k ≤ 200 := by omega
  have hm9 : m ≤ 200 := by omega
  have hx0 := h2.head hk1
  have hy0 := h3.head hm1
  generalize b2.take k = xs at hx0
  generalize b3.take m = ys at hy0
  have hxl := hx0.len
  have hyl := hy0.len
  have HX0 := keepHid hx0
  have HY0 := keepHid hy0
  have HXL := keepHid hxl
  have HYL := keepHid hyl
  clear hx0 hy0 hxl hyl e0 e1 h2 h3
  have hw1 : IntKind.i64.wrap ((a : Int) + (k : Int)) = (a : Int) + (k : Int) := IntWalk.i64_in _ (by omega)
  have hw2' : IntKind.i64.wrap ((a : Int) + (k : Int) + (d : Int)) = (a : Int) + (k : Int) + (d : Int) := IntWalk.i64_in _ (by omega)
  have HL1 : Hid ((splice (zeros 16384) a xs).length = 16384) := keepHid (put_len (by rw [HXL.out]; omega) (zeros_len _))
  have HP1 : Hid (getL (splice (splice (zeros 16384) a xs) (a + k + d) ys) a k = xs) := keepHid (by
    rw [get_far (by rw [HL1.out, HYL.out]; omega) (.inl (by omega))]
    exact get_put' (by rw [zeros_len, HXL.out]; omega) HXL.out)
  have HP2 : Hid (getL (splice (splice (zeros 16384) a xs) (a + k + d) ys) (a + k + d) m = ys) := keepHid (get_put' (by rw [HL1.out, HYL.out]; omega) HYL.out)
  have hqx := strB_same (rfl : xs = xs)
  have hqy := strB_same (rfl : ys = ys)
  go_enter Try.func4, Try.ntmps4
  go_wp2_with fail
  refine (awake_any _).mono ?_
  rintro e w1 ⟨rfl, hb1⟩
  obtain ⟨w2, hw2⟩ : ∃ w2, w1.alloc (.cells Z 28) = w2 := ⟨_, rfl⟩
  have HS2 : Hid (Sto w2 w1.heap.size (zeros 16384)) := keepHid (by rw [← hw2]; exact sto_new w1 _ rfl Z HZ.out)
  have HB2 : Hid (Below w.heap.size w w2) := keepHid (by rw [← hw2]; exact hb1.alloc hb1.size _)
  obtain ⟨G, hG⟩ : ∃ G, w1.heap.size = G := ⟨_, rfl⟩
  have hG2 : G < w2.heap.size := by rw [← hw2, ← hG]; simp
  have hGw : w.heap.size ≤ G := by rw [← hG]; exact hb1.size
  rw [hG] at HS2
  clear hb1
  go_wp2_with fail
  refine wp_region_quiet_below (by kernel_rfl) (by kernel_rfl) ?_
  repeat (go_big_quiet_step (fail))
  refine wpQuiet_nil ?_
  intro _ hw'
  obtain ⟨⟨dq, osq⟩, hw''⟩ := hw'
  subst hw''
  obtain ⟨w3, hw3⟩ : ∃ w3, Sort.grow (redrawn w2 dq) osq = w3 := ⟨_, rfl⟩
  have hb23 : Below w2.heap.size w2 w3 := by rw [← hw3]; exact below_regrown w2 dq osq
  rw [hw3]
  have HS3 := keepHid (HS2.out.below hb23 hG2)
  have HB3 := keepHid (HB2.out.trans (hb23.mono HB2.out.size))
  have hs3 := hb23.size
  clear hw3 hb23 q0 q1
  go_wp2_with fail
  refine (swrite_z G (zeros 16384) a _ rfl _ k _ _ xs _ HS3.out (HX0.out.below HB3.out) (by omega)).mono ?_
  rintro e w5 ⟨rfl, hs5, ht5⟩
  have HS5 := keepHid hs5
  have HB5 := keepHid (HB3.out.trans (ht5.below (B := w.heap.size) (fun i hi => by omega) HB3.out.size))
  clear hs5 ht5
  go_wp2_with fail
  refine (swrite_z G _ (a + k + d) _ (by omega) _ m _ _ ys _ HS5.out (HY0.out.below HB5.out) (by omega)).mono ?_
  rintro e w6 ⟨rfl, hs6, ht6⟩
  have HS6 := keepHid hs6
  have HB6 := keepHid (HB5.out.trans (ht6.below (B := w.heap.size) (fun i hi => by omega) HB5.out.size))
  clear hs6 ht6
  go_wp2_with fail
  refine (sread_z G _ a k _ _ rfl rfl _ HS6.out (by omega)).mono ?_
  rintro e w7 ⟨rfl, hk7, hb7⟩
  rw [HP1.out] at hk7
  have HS7 := keepHid (HS6.out.below hb7 HS6.out.lt)
  have HB7 := keepHid (HB6.out.trans (hb7.mono HB6.out.size))
  have HK7 := keepHid hk7
  generalize w6.heap.size = R1 at *
  clear hk7 hb7
  go_wp2_with fail
  refine (sread_z G _ (a + k + d) m _ _ (by omega) rfl _ HS7.out (by omega)).mono ?_
  rintro e w8 ⟨rfl, hk8, hb8⟩
  rw [HP2.out] at hk8
  have HB8 := keepHid (HB7.out.trans (hb8.mono HB7.out.size))
  have hk7 := HK7.out.below hb8 HK7.out.lt
  have hcp := run_str (P := Try.prog) (c := k) 23 5 9 Try.underlying23 Try.underlying5 Try.underlying9 (bys_blk hk7 (n := k) HXL.out (by omega))
  have hcq := run_str (P := Try.prog) (c := m) 23 5 9 Try.underlying23 Try.underlying5 Try.underlying9 (bys_blk hk8 (n := m) HYL.out (by omega))
  have hcx := run_str (P := Try.prog) (c := c2) 23 5 9 Try.underlying23 Try.underlying5 Try.underlying9 (HX0.out.below HB8.out)
  have hcy := run_str (P := Try.prog) (c := c3) 23 5 9 Try.underlying23 Try.underlying5 Try.underlying9 (HY0.out.below HB8.out)
  generalize w7.heap.size = R2 at *
  clear hk7 hk8 hb8
  go_wp2
  go_ret
  exact ⟨rfl, HB8.out⟩

set_option maxRecDepth 100000 in
theorem lifted (os : Os) (started : os.Started) (H : Type) (enc : TypeId × Value → H) :
    ReturnsInHanded {} Try.checked os 4 .any (Rows.storeApartSpec.pre6 enc Try.prog Try.f4 Rows.storeApartRow.domain false) (Rows.storeApartSpec.post enc Try.prog Try.f4 false true false false) := by
  refine returnsInHanded_of_change_sized (C := Try.checked) own started (by kernel_rfl) Try.func4
    (ChangeSpec.witness6 (enc := enc) (C := Try.checked) false ⟨#[], #[.int .u16 0, .int .u16 0, .slice none 0 0, .slice none 0 0], []⟩ 8 (by kernel_rfl) (by kernel_rfl) (by kernel_rfl) (by kernel_rfl)) ?_
  intro W base args ds gs before hval0 hW hcnd hsz0 _
  have hsz : (DataW.weightsEach Try.prog (Try.f4.params.toList ++ Rows.storeApartSpec.plain.varTypes Try.prog) (ds ++ gs)).all (· ≤ reachBytes) = true := hsz0
  clear hsz0
  have hval : ∀ (j : Nat) t v, Try.f4.params[j]? = some t → args[j]? = some v → Value.okWide Try.prog W .any base t v := hval0
  have hW' := hW
  obtain ⟨p, q, hA0, hV, rfl, hfz, hnd⟩ := hW
  have hA : DataW.TrodAll enc Try.prog W 0 (fun _ => true) true Try.f4.params.toList args.toList ds p := hA0
  rw [Try.params4] at hA hval hsz
  obtain ⟨v0, vs0, d0, ds0, p0, q0, hargs, rfl, rfl, h0, r0⟩ := trodAll_cons hA
  obtain ⟨v1, vs1, d1, ds1, p1, q1, rfl, rfl, rfl, h1, r1⟩ := trodAll_cons r0
  obtain ⟨v2, vs2, d2, ds2, p2, q2, rfl, rfl, rfl, h2, r2⟩ := trodAll_cons r1
  obtain ⟨v3, vs3, d3, ds3, p3, q3, rfl, rfl, rfl, h3, r3⟩ := trodAll_cons r2
  obtain ⟨rfl, rfl, rfl⟩ := trodAll_nil r3
  obtain rfl : args = #[v0, v1, v2, v3] := by cases args; simp_all
  obtain ⟨rfl, rfl⟩ := trodVars_none hV
  have k0 := h0
  have lt0 : ∀ x ∈ p0, x.block < W.heap.size := by obtain ⟨m, hm⟩ := k0; exact DataW.trod_lt m _ _ _ hm
  have k1 := h1
  have lt1 : ∀ x ∈ p1, x.block < W.heap.size := by obtain ⟨m, hm⟩ := k1; exact DataW.trod_lt m _ _ _ hm
  have k2 := h2
  have lt2 : ∀ x ∈ p2, x.block < W.heap.size := by obtain ⟨m, hm⟩ := k2; exact DataW.trod_lt m _ _ _ hm
  have k3 := h3
  have lt3 : ∀ x ∈ p3, x.block < W.heap.size := by obtain ⟨m, hm⟩ := k3; exact DataW.trod_lt m _ _ _ hm
  obtain ⟨x0, rfl, rfl, rfl, w0⟩ := open_int Try.underlying22 (hval 0 22 v0 rfl rfl) h0
  obtain ⟨x1, rfl, rfl, rfl, w1⟩ := open_int Try.underlying22 (hval 1 22 v1 rfl rfl) h1
  obtain ⟨a2, n2, c2, b2, rfl, w2, l2, s2⟩ := open_bys Try.underlying23 Try.underlying5 (by kernel_rfl) (by kernel_rfl) (hval 2 23 v2 rfl rfl) (fun _ => rfl) h2 (fun el sp hd => sized_slice hsz (j := 2) (t := 23) (e := 5) rfl (by rw [hd]; rfl) Try.underlying23)
  obtain ⟨a3, n3, c3, b3, rfl, w3, l3, s3⟩ := open_bys Try.underlying23 Try.underlying5 (by kernel_rfl) (by kernel_rfl) (hval 3 23 v3 rfl rfl) (fun _ => rfl) h3 (fun el sp hd => sized_slice hsz (j := 3) (t := 23) (e := 5) rfl (by rw [hd]; rfl) Try.underlying23)
  clear hA0 hval0
  refine (walk x0 x1 a2 n2 c2 b2 a3 n3 c3 b3 W (wf_u16 w0) (wf_u16 w1) w2 l2 s2 w3 l3 s3).mono fun e W' ⟨he, bel⟩ => ?_
  subst he
  exact ⟨_, rfl, _, _, _, [], _, [], hW', trodAll_mk1 (shut_bool Try.underlying4 _), (trodAll_cons_mk (Below.trod laidOut (by kernel_rfl) (of_decide_eq_true (by kernel_rfl)) k0 bel lt0) (trodAll_cons_mk (Below.trod laidOut (by kernel_rfl) (of_decide_eq_true (by kernel_rfl)) k1 bel lt1) (trodAll_cons_mk (Below.trod laidOut (by kernel_rfl) (of_decide_eq_true (by kernel_rfl)) k2 bel lt2) (trodAll_cons_mk (Below.trod laidOut (by kernel_rfl) (of_decide_eq_true (by kernel_rfl)) k3 bel lt3) trodAll_mk0)))), rfl, bel.frame _, fun h => by cases h⟩

theorem over : Rows.storeApartRow.holds Try.pinned (OpenSpec.ofChange Rows.storeApartSpec) :=
  OpenClaim.holds_of_wide 4 Try.f4 rfl rfl rfl rfl rfl rfl rfl ⟨rfl, rfl, rfl, rfl, rfl⟩ rfl rfl rfl rfl rfl (by kernel_rfl) Try.func4 (by kernel_rfl)
    (of_decide_eq_true (by kernel_rfl)) (by unfold Func.isWrapper; first | (rw [if_pos (by decide +kernel)]; kernel_rfl) | (rw [if_neg (by decide +kernel)]; exact ⟨rfl, rfl⟩))
    (fun os started H enc _ => lifted os started H enc)

theorem proved : Rows.StoreApartSaid := over
end Go.Proofs.Ytomahdfilnbopaa.storeApart
