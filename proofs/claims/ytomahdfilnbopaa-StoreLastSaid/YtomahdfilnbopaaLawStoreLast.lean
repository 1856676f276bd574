/-
  'lifelinelaw19.StoreLast' answers true for every input, and leaves its arguments as they were.
  Conditions: none but what the row itself says of its arguments (how much memory each may take).
-/
import Derived.Test.YtomahdfilnbopaaRows
import Derived.Test.YtomahdfilnbopaaStoreAwake
import Derived.Test.YtomahdfilnbopaaMinMax
import Derived.Test.YtomahdfilnbopaaApp
import Derived.Deep.RegionHeld3
import Derived.Deep.RegionWith
import Derived.Deep.DrawnRows
import Derived.BigQuiet
import Derived.Lib.QuietBelow
import Derived.Deep.DeepCutAuto
import Derived.Test.YtomahdfilnbopaaFrame
import Derived.WalkKit
import Derived.ProofKit
import Derived.OpenShut
import Derived.ShutString
import Derived.ChangeOld
import Derived.Below
namespace Go.Proofs.Ytomahdfilnbopaa.storeLast
open Go.ChangeShapes Go.WideShapes Go.ChangeAt Go.RowKit
open Go.ChangeMaps (open_string shut_string)
set_option linter.unusedVariables false

theorem own : ownKnob Try.prog.godebug = none := by kernel_rfl
theorem laidOut : laidOutB Try.prog = true := by kernel_rfl

set_option maxRecDepth 100000 in
set_option maxHeartbeats 4000000 in
theorem walk (x0 : Int) (a1 : Option Addr) (n1 c1 : Nat) (b1 : List UInt8) (a2 : Option Addr) (n2 c2 : Nat) (b2 : List UInt8) (x3 : Int) (w : World) (h0 : 0 ≤ x0 ∧ x0 ≤ 65535) (h1 : Bys w w.heap.size a1 n1 b1) (l1 : n1 ≤ c1) (s1 : c1 ≤ 140737488351232) (h2 : Bys w w.heap.size a2 n2 b2) (l2 : n2 ≤ c2) (s2 : c2 ≤ 140737488351232) (h3 : 0 ≤ x3 ∧ x3 ≤ 255) :
    Calls Try.prog 5 #[.int .u16 x0, .slice a1 n1 c1, .slice a2 n2 c2, .int .u8 x3] w fun e w' => e = .returned (.bool true) ∧ Below w.heap.size w w' := by
  have hz := zero_run
  obtain ⟨Z, hZ⟩ : ∃ Z, zrow 16384 = Z := ⟨_, rfl⟩
  rw [hZ] at hz
  have HZ := keepHid hZ
  clear hZ
  obtain ⟨a, ha⟩ : ∃ a : Nat, x0 % 15000 = (a : Int) := ⟨(x0 % 15000).toNat, by omega⟩
  have ha2 : a < 15000 := by omega
  obtain ⟨k, e0⟩ : ∃ k : Nat, min (n1 : Int) 300 = (k : Int) := ⟨min n1 300, by omega⟩
  obtain ⟨m, e1⟩ : ∃ k : Nat, min (n2 : Int) 300 = (k : Int) := ⟨min n2 300, by omega⟩
  have q0 := fun W ts t => min_z ts t (n1 : Int) 300 k e0 W
  have q1 := fun W ts t => min_z ts t (n2 : Int) 300 m e1 W
  have hk1 : k ≤ n1 := by omega
  have hm1 : m ≤ n2 := by omega
  have hkc : (k : Int) ≤ (c1 : Int) := by omega
  have hmc : (m : Int) ≤ (c2 : Int) := by omega
  have hk9 : k ≤ 300 := by omega
  have hm9 : m ≤ 300 := by omega
  have hx0 := h1.head hk1
  have hy0 := h2.head hm1
  generalize b1.take k = xs at hx0
  generalize b2.take m = ys at hy0
  have hxl := hx0.len
  have hyl := hy0.len
  have HX0 := keepHid hx0
  have HY0 := keepHid hy0
  have HXL := keepHid hxl
  have HYL := keepHid hyl
  clear hx0 hy0 hxl hyl e0 e1 h1 h2
  obtain ⟨n, hn⟩ : ∃ n : Nat, max k m = n := ⟨_, rfl⟩
  have q2 := fun W ts t => max_z ts t (k : Int) (m : Int) (n : Int) (by omega) W
  have hn9 : n ≤ 300 := by omega
  have hkn : k ≤ n := by omega
  have hmn : m ≤ n := by omega
  have hor : ∀ j, j < n → ¬ j < m → j < k := by omega
  have HOR := keepHid hor
  obtain ⟨l, hl⟩ : ∃ a : Nat, x3 % ((n : Int) + 1) = (a : Int) := ⟨(x3 % ((n : Int) + 1)).toNat, by have := Int.emod_nonneg x3 (show ((n : Int) + 1) ≠ 0 by omega); omega⟩
  have hln : l ≤ n := by have := Int.emod_lt_of_pos x3 (show (0 : Int) < (n : Int) + 1 by omega); omega
  have hlz : (l : Int) ≤ (n : Int) := by omega
  have hnz : ¬ (n : Int) + 1 = 0 := by omega
  have hwn : IntKind.i64.wrap ((n : Int) + 1) = (n : Int) + 1 := IntWalk.i64_in _ (by omega)
  clear hn hor
  have HL1 : Hid ((splice (zeros 16384) a xs).length = 16384) := keepHid (put_len (by rw [HXL.out]; omega) (zeros_len _))
  obtain ⟨cs, hcs⟩ : ∃ cs, splice (splice (zeros 16384) a xs) a ys = cs := ⟨_, rfl⟩
  have hcl : cs.length = 16384 := by rw [← hcs]; exact put_len (by rw [HYL.out]; omega) HL1.out
  have hat : ∀ j, cs[a + j]? = if j < m then ys[j]? else if j < k then xs[j]? else (zeros 16384)[a + j]? := fun j => by
    rw [← hcs, splice_at _ (by rw [HL1.out, HYL.out]; omega), splice_at _ (by rw [zeros_len, HXL.out]; omega), HXL.out, HYL.out, show a + j - a = j by omega]
    by_cases h1 : j < m
    · rw [if_pos (by omega), if_pos h1]
    · rw [if_neg (by omega), if_neg h1]
      by_cases h2 : j < k
      · rw [if_pos (by omega), if_pos h2]
      · rw [if_neg (by omega), if_neg h2]
  obtain ⟨gs, hgs⟩ : ∃ gs, getL cs a n = gs := ⟨_, rfl⟩
  have HGL : Hid (gs.length = n) := keepHid (by rw [← hgs]; exact getL_len (by rw [hcl]; omega))
  have HGY : Hid (∀ j, j < m → gs[j]? = ys[j]?) := keepHid (fun j h => by rw [← hgs, getL_at, if_pos (by omega), hat, if_pos h])
  have HGX : Hid (∀ j, ¬ j < m → j < k → gs[j]? = xs[j]?) := keepHid (fun j h h2 => by rw [← hgs, getL_at, if_pos (by omega), hat, if_neg h, if_pos h2])
  have HGT : Hid (getL cs a l = gs.take l) := keepHid (by rw [← hgs]; unfold getL; rw [List.take_take, Nat.min_eq_left hln])
  have HCS := keepHid hcs
  have HGS := keepHid hgs
  have HTL : Hid ((gs.take l).length = l) := keepHid (by rw [List.length_take, HGL.out]; omega)
  generalize hts : gs.take l = ts at HGT HTL
  have HTS := keepHid hts
  have hqt := strB_same (rfl : ts = ts)
  clear hcs hcl hat hgs hts
  go_enter Try.func5, Try.ntmps5
  go_wp2_with fail
  refine (awake_any _).mono ?_
  rintro e w1 ⟨rfl, hb1⟩
  obtain ⟨w2, hw2⟩ : ∃ w2, w1.alloc (.cells Z 28) = w2 := ⟨_, rfl⟩
  have HS2 : Hid (Sto w2 w1.heap.size (zeros 16384)) := keepHid (by rw [← hw2]; exact sto_new w1 _ rfl Z HZ.out)
  have HB2 : Hid (Below w.heap.size w w2) := keepHid (by rw [← hw2]; exact hb1.alloc hb1.size _)
  obtain ⟨G, hG⟩ : ∃ G, w1.heap.size = G := ⟨_, rfl⟩
  have hG2 : G < w2.heap.size := by rw [← hw2, ← hG]; simp
  have hGw : w.heap.size ≤ G := by rw [← hG]; exact hb1.size
  rw [hG] at HS2
  clear hb1
  go_wp2_with fail
  refine wp_region_quiet_below (by kernel_rfl) (by kernel_rfl) ?_
  repeat (go_big_quiet_step (fail))
  refine wpQuiet_nil ?_
  intro _ hw'
  obtain ⟨⟨dq, osq⟩, hw''⟩ := hw'
  subst hw''
  obtain ⟨w3, hw3⟩ : ∃ w3, Sort.grow (redrawn w2 dq) osq = w3 := ⟨_, rfl⟩
  have hb23 : Below w2.heap.size w2 w3 := by rw [← hw3]; exact below_regrown w2 dq osq
  rw [hw3]
  have HS3 := keepHid (HS2.out.below hb23 hG2)
  have HB3 := keepHid (HB2.out.trans (hb23.mono HB2.out.size))
  have hs3 := hb23.size
  clear hw3 hb23 q0 q1
  go_wp2_with fail
  refine (swrite_z G (zeros 16384) a _ rfl _ k _ _ xs _ HS3.out (HX0.out.below HB3.out) (by omega)).mono ?_
  rintro e w5 ⟨rfl, hs5, ht5⟩
  have HS5 := keepHid hs5
  have HB5 := keepHid (HB3.out.trans (ht5.below (B := w.heap.size) (fun i hi => by omega) HB3.out.size))
  clear hs5 ht5
  go_wp2_with fail
  refine (swrite_z G _ a _ rfl _ m _ _ ys _ HS5.out (HY0.out.below HB5.out) (by omega)).mono ?_
  rintro e w6 ⟨rfl, hs6, ht6⟩
  rw [HCS.out] at hs6
  have HS6 := keepHid hs6
  have HB6 := keepHid (HB5.out.trans (ht6.below (B := w.heap.size) (fun i hi => by omega) HB5.out.size))
  clear hs6 ht6
  go_wp2_with fail
  refine (sread_z G _ a n _ _ rfl rfl _ HS6.out (by omega)).mono ?_
  rintro e w7 ⟨rfl, hk7, hb7⟩
  rw [HGS.out] at hk7
  have HS7 := keepHid (HS6.out.below hb7 HS6.out.lt)
  have HB7 := keepHid (HB6.out.trans (hb7.mono HB6.out.size))
  have HK7 := keepHid hk7
  generalize w6.heap.size = R1 at *
  have HX7 := keepHid (HX0.out.below HB7.out)
  have HY7 := keepHid (HY0.out.below HB7.out)
  clear hk7 hb7 HX0 HY0 q2
  go_wp2_with fail
  have HLL := keepHid hl
  have HLA := keepHid ha
  have HLZ := keepHid hlz
  have HLW := keepHid hwn
  clear hl hlz hnz hwn ha
  go_loop [71] (fun i => ∃ j : Nat, j ≤ n ∧ i = .int .i64 j) (fun i => n - (intOf i).toNat)
  case atStart => exact ⟨0, Nat.zero_le _, rfl⟩
  case round =>
    obtain ⟨j, hj, rfl⟩ := hrel
    by_cases hlt : j < n
    · obtain ⟨g, hg⟩ : ∃ g, gs[j]? = some g := ⟨_, List.getElem?_eq_getElem (by rw [HGL.out]; exact hlt)⟩
      have hcg := HK7.out.cell j
      rw [show (byteVals gs)[j]? = some (.int .u8 (g.toNat : Int)) by simp [byteVals, hg]] at hcg
      by_cases hjm : j < m
      · obtain ⟨ady, y, rfl, _, hy, hcy⟩ := HY7.out.at_ hjm
        have : g = y := Option.some.inj (hg.symm.trans ((HGY.out j hjm).trans hy))
        subst this
        clear hg hy
        by_cases hjk : j < k
        · obtain ⟨adx, x, rfl, _, hx, hcx⟩ := HX7.out.at_ hjk
          clear hx
          go_wp2
          go_round
          case rel => exact ⟨j + 1, by omega, by go_num⟩
          case measure => simp [intOf]; omega
        · go_wp2
          go_round
          case rel => exact ⟨j + 1, by omega, by go_num⟩
          case measure => simp [intOf]; omega
      · have hjk := HOR.out j hlt hjm
        obtain ⟨adx, x, rfl, _, hx, hcx⟩ := HX7.out.at_ hjk
        have : g = x := Option.some.inj (hg.symm.trans ((HGX.out j hjm hjk).trans hx))
        subst this
        clear hg hx
        go_wp2
        go_round
        case rel => exact ⟨j + 1, by omega, by go_num⟩
        case measure => simp [intOf]; omega
    · have ha := HLA.out
      have hl := HLL.out
      have hlz := HLZ.out
      have hwn := HLW.out
      have hnz : ¬ (n : Int) + 1 = 0 := by omega
      have hnz2 : ¬ n + 1 = 0 := by omega
      clear hj
      go_wp2_with fail
      refine (sread_z G _ a l _ _ rfl rfl _ HS7.out (by omega)).mono ?_
      rintro e w8 ⟨rfl, hk8, hb8⟩
      rw [HGT.out] at hk8
      have HB8 := keepHid (HB7.out.trans (hb8.mono HB7.out.size))
      have hk7 := HK7.out.below hb8 HK7.out.lt
      have hcp : ∀ a, _ := fun a => run_str (P := Try.prog) (c := l) 23 5 9 Try.underlying23 Try.underlying5 Try.underlying9 ((bys_blk hk8 (n := l) HTL.out (by omega)).drewN a)
      have hcg : ∀ a, _ := fun a => run_str (P := Try.prog) (c := n) 23 5 9 Try.underlying23 Try.underlying5 Try.underlying9 (((bys_blk hk7 (n := n) HGL.out (by omega)).head hln).drewN a)
      rw [HTS.out] at hcg
      generalize w7.heap.size = R2 at *
      clear hk7 hk8 hb8
      go_wp2_with fail
      go_quiet (fail)
      go_wp2
      go_ret
      exact ⟨rfl, below_drewN HB8.out _⟩

set_option maxRecDepth 100000 in
theorem lifted (os : Os) (started : os.Started) (H : Type) (enc : TypeId × Value → H) :
    ReturnsInHanded {} Try.checked os 5 .any (Rows.storeLastSpec.pre6 enc Try.prog Try.f5 Rows.storeLastRow.domain false) (Rows.storeLastSpec.post enc Try.prog Try.f5 false true false false) := by
  refine returnsInHanded_of_change_sized (C := Try.checked) own started (by kernel_rfl) Try.func5
    (ChangeSpec.witness6 (enc := enc) (C := Try.checked) false ⟨#[], #[.int .u16 0, .slice none 0 0, .slice none 0 0, .int .u8 0], []⟩ 8 (by kernel_rfl) (by kernel_rfl) (by kernel_rfl) (by kernel_rfl)) ?_
  intro W base args ds gs before hval0 hW hcnd hsz0 _
  have hsz : (DataW.weightsEach Try.prog (Try.f5.params.toList ++ Rows.storeLastSpec.plain.varTypes Try.prog) (ds ++ gs)).all (· ≤ reachBytes) = true := hsz0
  clear hsz0
  have hval : ∀ (j : Nat) t v, Try.f5.params[j]? = some t → args[j]? = some v → Value.okWide Try.prog W .any base t v := hval0
  have hW' := hW
  obtain ⟨p, q, hA0, hV, rfl, hfz, hnd⟩ := hW
  have hA : DataW.TrodAll enc Try.prog W 0 (fun _ => true) true Try.f5.params.toList args.toList ds p := hA0
  rw [Try.params5] at hA hval hsz
  obtain ⟨v0, vs0, d0, ds0, p0, q0, hargs, rfl, rfl, h0, r0⟩ := trodAll_cons hA
  obtain ⟨v1, vs1, d1, ds1, p1, q1, rfl, rfl, rfl, h1, r1⟩ := trodAll_cons r0
  obtain ⟨v2, vs2, d2, ds2, p2, q2, rfl, rfl, rfl, h2, r2⟩ := trodAll_cons r1
  obtain ⟨v3, vs3, d3, ds3, p3, q3, rfl, rfl, rfl, h3, r3⟩ := trodAll_cons r2
  obtain ⟨rfl, rfl, rfl⟩ := trodAll_nil r3
  obtain rfl : args = #[v0, v1, v2, v3] := by cases args; simp_all
  obtain ⟨rfl, rfl⟩ := trodVars_none hV
  have k0 := h0
  have lt0 : ∀ x ∈ p0, x.block < W.heap.size := by obtain ⟨m, hm⟩ := k0; exact DataW.trod_lt m _ _ _ hm
  have k1 := h1
  have lt1 : ∀ x ∈ p1, x.block < W.heap.size := by obtain ⟨m, hm⟩ := k1; exact DataW.trod_lt m _ _ _ hm
  have k2 := h2
  have lt2 : ∀ x ∈ p2, x.block < W.heap.size := by obtain ⟨m, hm⟩ := k2; exact DataW.trod_lt m _ _ _ hm
  have k3 := h3
  have lt3 : ∀ x ∈ p3, x.block < W.heap.size := by obtain ⟨m, hm⟩ := k3; exact DataW.trod_lt m _ _ _ hm
  obtain ⟨x0, rfl, rfl, rfl, w0⟩ := open_int Try.underlying22 (hval 0 22 v0 rfl rfl) h0
  obtain ⟨a1, n1, c1, b1, rfl, w1, l1, s1⟩ := open_bys Try.underlying23 Try.underlying5 (by kernel_rfl) (by kernel_rfl) (hval 1 23 v1 rfl rfl) (fun _ => rfl) h1 (fun el sp hd => sized_slice hsz (j := 1) (t := 23) (e := 5) rfl (by rw [hd]; rfl) Try.underlying23)
  obtain ⟨a2, n2, c2, b2, rfl, w2, l2, s2⟩ := open_bys Try.underlying23 Try.underlying5 (by kernel_rfl) (by kernel_rfl) (hval 2 23 v2 rfl rfl) (fun _ => rfl) h2 (fun el sp hd => sized_slice hsz (j := 2) (t := 23) (e := 5) rfl (by rw [hd]; rfl) Try.underlying23)
  obtain ⟨x3, rfl, rfl, rfl, w3⟩ := open_int Try.underlying5 (hval 3 5 v3 rfl rfl) h3
  clear hA0 hval0
  refine (walk x0 a1 n1 c1 b1 a2 n2 c2 b2 x3 W (wf_u16 w0) w1 l1 s1 w2 l2 s2 (wf_u8 w3)).mono fun e W' ⟨he, bel⟩ => ?_
  subst he
  exact ⟨_, rfl, _, _, _, [], _, [], hW', trodAll_mk1 (shut_bool Try.underlying4 _), (trodAll_cons_mk (Below.trod laidOut (by kernel_rfl) (of_decide_eq_true (by kernel_rfl)) k0 bel lt0) (trodAll_cons_mk (Below.trod laidOut (by kernel_rfl) (of_decide_eq_true (by kernel_rfl)) k1 bel lt1) (trodAll_cons_mk (Below.trod laidOut (by kernel_rfl) (of_decide_eq_true (by kernel_rfl)) k2 bel lt2) (trodAll_cons_mk (Below.trod laidOut (by kernel_rfl) (of_decide_eq_true (by kernel_rfl)) k3 bel lt3) trodAll_mk0)))), rfl, bel.frame _, fun h => by cases h⟩

theorem over : Rows.storeLastRow.holds Try.pinned (OpenSpec.ofChange Rows.storeLastSpec) :=
  OpenClaim.holds_of_wide 5 Try.f5 rfl rfl rfl rfl rfl rfl rfl ⟨rfl, rfl, rfl, rfl, rfl⟩ rfl rfl rfl rfl rfl (by kernel_rfl) Try.func5 (by kernel_rfl)
    (of_decide_eq_true (by kernel_rfl)) (by unfold Func.isWrapper; first | (rw [if_pos (by decide +kernel)]; kernel_rfl) | (rw [if_neg (by decide +kernel)]; exact ⟨rfl, rfl⟩))
    (fun os started H enc _ => lifted os started H enc)

theorem proved : Rows.StoreLastSaid := over
end Go.Proofs.Ytomahdfilnbopaa.storeLast
