/-
  'lifelinelaw19.StorePrint' answers true for every input, and leaves its arguments as they were.
  Conditions: none but what the row itself says of its arguments (how much memory each may take).
-/
import Derived.Test.YtomahdfilnbopaaRows
import Derived.Test.YtomahdfilnbopaaStoreAwake
import Derived.Test.YtomahdfilnbopaaMinMax
import Derived.Test.YtomahdfilnbopaaApp
import Derived.Deep.RegionHeld3
import Derived.Deep.RegionWith
import Derived.Deep.DrawnRows
import Derived.BigQuiet
import Derived.Deep.DeepCutAuto
import Derived.Test.YtomahdfilnbopaaFrame
import Derived.WalkKit
import Derived.ProofKit
import Derived.OpenShut
import Derived.ShutString
import Derived.ChangeOld
import Derived.Below
namespace Go.Proofs.Ytomahdfilnbopaa.storePrint
open Go.ChangeShapes Go.WideShapes Go.ChangeAt Go.RowKit
open Go.ChangeMaps (open_string shut_string)
set_option linter.unusedVariables false

theorem own : ownKnob Try.prog.godebug = none := by kernel_rfl
theorem laidOut : laidOutB Try.prog = true := by kernel_rfl

theorem eqb0 {a b : Nat} (h : a ≠ b) : ((a : Int) == (b : Int)) = false := by rw [beq_eq_false_iff_ne]; omega
set_option maxRecDepth 100000 in
set_option maxHeartbeats 4000000 in
theorem walk (x0 : Int) (a1 : Option Addr) (n1 c1 : Nat) (b1 : List UInt8) (x2 : Int) (x3 : Int) (w : World) (h0 : 0 ≤ x0 ∧ x0 ≤ 65535) (h1 : Bys w w.heap.size a1 n1 b1) (l1 : n1 ≤ c1) (s1 : c1 ≤ 140737488351232) (h2 : 0 ≤ x2 ∧ x2 ≤ 255) (h3 : 0 ≤ x3 ∧ x3 ≤ 255) :
    Calls Try.prog 6 #[.int .u16 x0, .slice a1 n1 c1, .int .u8 x2, .int .u8 x3] w fun e w' => e = .returned (.bool true) ∧ Below w.heap.size w w' := by
  have hz := zero_run
  obtain ⟨Z, hZ⟩ : ∃ Z, zrow 16384 = Z := ⟨_, rfl⟩
  rw [hZ] at hz
  have HZ := keepHid hZ
  clear hZ
  obtain ⟨a, ha⟩ : ∃ a : Nat, x0 % 15000 = (a : Int) := ⟨(x0 % 15000).toNat, by omega⟩
  have ha2 : a < 15000 := by omega
  obtain ⟨k, e0⟩ : ∃ k : Nat, min (n1 : Int) 200 = (k : Int) := ⟨min n1 200, by omega⟩
  have q0 := fun W ts t => min_z ts t (n1 : Int) 200 k e0 W
  have hkn : k ≤ n1 := by omega
  have hkc : (k : Int) ≤ (c1 : Int) := by omega
  have hk9 : k ≤ 200 := by omega
  obtain ⟨N, hN⟩ : ∃ N, k + 1 = N := ⟨_, rfl⟩
  have hN1 : 1 ≤ N := by omega
  have hN9 : N ≤ 200 + 1 := by omega
  obtain ⟨xs, hxs⟩ : ∃ xs, b1.take k ++ [1] = xs := ⟨_, rfl⟩
  have hxl : xs.length = N := by rw [← hxs, List.length_append, List.length_take, h1.len]; simp; omega
  have HXS := keepHid hxs
  have HXL := keepHid hxl
  have HN := keepHid hN
  have h7 : ∀ (W : World) (g : Nat), g = W.heap.size → Bys (W.alloc (.cells #[.int .u8 1] 5)) (g + 1) (some ⟨g, 0, none⟩) 1 [1] := fun W g hg => bys_new W _ [1] 1 rfl (by decide) _ rfl g hg
  have H7 := keepHid h7
  have H1 := keepHid h1
  clear h7 hxs hxl hN e0 h1
  obtain ⟨j, hj⟩ : ∃ j : Nat, x2 % (N : Int) = (j : Int) := ⟨(x2 % (N : Int)).toNat, by have := Int.emod_nonneg x2 (show (N : Int) ≠ 0 by omega); omega⟩
  have hjN : j < N := by have := Int.emod_lt_of_pos x2 (show (0 : Int) < (N : Int) by omega); omega
  obtain ⟨y, rfl⟩ : ∃ y : UInt8, x3 = (y.toNat : Int) := ⟨UInt8.ofNat x3.toNat, by rw [UInt8.toNat_ofNat']; omega⟩
  obtain ⟨y0, hy0⟩ : ∃ y0, xs[j]? = some y0 := ⟨_, List.getElem?_eq_getElem (by rw [HXL.out]; exact hjN)⟩
  have HY0 := keepHid hy0
  have hy0l := u8lt y0
  have hyl := u8lt y
  have hxor : bits .xor .u8 (y0.toNat : Int) (y.toNat : Int) = ((y0 ^^^ y).toNat : Int) := by rw [xor8 rfl rfl (u8lt y0) (u8lt y), UInt8.toNat_xor]
  obtain ⟨zs, hzs⟩ : ∃ zs, xs.set j (y0 ^^^ y) = zs := ⟨_, rfl⟩
  have HZS := keepHid hzs
  have HZL : Hid (zs.length = N) := keepHid (by rw [← hzs, List.length_set]; exact HXL.out)
  have HP1 : Hid (getL (splice (zeros 16384) a xs) a N = xs) := keepHid (get_put' (by rw [zeros_len, HXL.out]; omega) HXL.out)
  have HP2 : Hid (getL (splice (splice (zeros 16384) a xs) a zs) a N = zs) := keepHid (get_put' (by rw [put_len (by rw [HXL.out]; omega) (zeros_len _), HZL.out]; omega) HZL.out)
  have HEQ : Hid (((prNum (prL xs) : Int) == (prNum (prL zs) : Int)) = ((y.toNat : Int) == 0)) := keepHid (by
    rw [← hzs]
    by_cases hy : y = 0
    · subst hy
      have e0 : y0 ^^^ 0 = y0 := by simp
      obtain ⟨p1, p2⟩ := parts_of hy0 y0
      rw [e0, p2, ← p1]
      simp
    · rw [eqb0 (pr_turn hy0 (u8_xor_ne hy)), beq_eq_false_iff_ne.2]
      intro e
      exact hy (UInt8.toNat_inj.1 (by simpa using e)))
  obtain ⟨p1, hp1⟩ : ∃ p, prNum (prL xs) = p := ⟨_, rfl⟩
  obtain ⟨p2, hp2⟩ : ∃ p, prNum (prL zs) = p := ⟨_, rfl⟩
  rw [hp1, hp2] at HEQ
  have HPN1 := keepHid hp1
  have HPN2 := keepHid hp2
  obtain ⟨q, hq⟩ : ∃ q, ((y.toNat : Int) == 0) = q := ⟨_, rfl⟩
  rw [hq] at HEQ
  have HQ := keepHid hq
  obtain ⟨v, hv⟩ : ∃ v : UInt8, y0 ^^^ y = v := ⟨_, rfl⟩
  rw [hv] at hxor HZS
  clear hy0 hzs hp1 hp2 hq hv
  go_enter Try.func6, Try.ntmps6
  go_wp2_with fail
  refine (awake_any _).mono ?_
  rintro e w1 ⟨rfl, hb1⟩
  obtain ⟨w2, hw2⟩ : ∃ w2, w1.alloc (.cells Z 28) = w2 := ⟨_, rfl⟩
  have HS2 : Hid (Sto w2 w1.heap.size (zeros 16384)) := keepHid (by rw [← hw2]; exact sto_new w1 _ rfl Z HZ.out)
  have HB2 : Hid (Below w.heap.size w w2) := keepHid (by rw [← hw2]; exact hb1.alloc hb1.size _)
  obtain ⟨G, hG⟩ : ∃ G, w1.heap.size = G := ⟨_, rfl⟩
  have hG2 : G < w2.heap.size := by rw [← hw2, ← hG]; simp
  have hGw : w.heap.size ≤ G := by rw [← hG]; exact hb1.size
  rw [hG] at HS2
  clear hb1
  have HI2 := keepHid (H1.out.below HB2.out)
  go_wp2_with (at_builtin; refine wpList_append_bytes _ rfl _ _ 23 rfl w2.heap.size 5 byteT (.slice none 0 0) 0 [] (by rfl) (OwnB.nil _ _ _) _ _ _ _ _ (by rfl) (HI2.out.head hkn) k (Nat.zero_add _) (by omega) (Nat.le_refl _) ?_)
  intro A1 cap1 w3 ho3 ht3 _ hn1 hn2
  have HO3 := keepHid ho3
  have HB3 : Hid (Below w2.heap.size w2 w3) := keepHid (ht3.below (fun i hi => by simp [Value.ownBlock] at hi) (Nat.le_refl _))
  have hs3 := HB3.out.size
  clear ho3 ht3
  go_wp2_with (at_builtin; go_loud (refine wpList_append_bytes _ rfl _ _ 23 rfl w2.heap.size 5 byteT _ _ _ (by rfl) (HO3.out.alloc _) _ _ _ _ _ (by rfl) (H7.out _ _ rfl) N HN.out (by omega) (by simp; omega) ?_))
  intro A2 cap2 w4 ho4 ht4 _ hn3 hn4
  rw [HXS.out] at ho4
  obtain ⟨gx, _, hv, hgx1, hgx2, _, _⟩ := ho4.some_form hN1
  obtain rfl : A2 = some ⟨gx, 0, none⟩ := by injection hv
  have HB4 : Hid (Below w2.heap.size w2 w4) := keepHid ((HB3.out.alloc HB3.out.size _).trans (ht4.below (own_base HO3.out) (by simp; omega)))
  have HO4 := keepHid ho4
  have HX4 := keepHid (ho4.bys (by omega))
  have HS4 := keepHid (HS2.out.below HB4.out (by omega))
  have HB4w := keepHid (HB2.out.trans (HB4.out.mono HB2.out.size))
  have hs4 := HB4.out.size
  have hgG : gx ≠ G := by omega
  clear ho4 ht4 hv
  go_wp2_with fail
  refine (swrite_z G (zeros 16384) a _ rfl _ N _ _ xs _ HS4.out HX4.out (by omega)).mono ?_
  rintro e w5 ⟨rfl, hs5, ht5⟩
  have HS5 := keepHid hs5
  have HB5 := keepHid (HB4w.out.trans (ht5.below (B := w.heap.size) (fun i hi => by omega) HB4w.out.size))
  have hsz5 := ht5.size
  have HO5 := keepHid (HO4.out.turn ht5 hgG)
  clear hs5 ht5
  go_wp2_with fail
  refine (sprint_z G _ a N _ _ rfl rfl _ HS5.out (by omega)).mono ?_
  rintro e w6 ⟨rfl, hb6⟩
  rw [HP1.out, HPN1.out]
  have HS6 := keepHid (HS5.out.below hb6 HS5.out.lt)
  have HB6 := keepHid (HB5.out.trans (hb6.mono HB5.out.size))
  have HO6 := keepHid (HO5.out.turn (Turn.of_below hb6 (S := fun _ => False)) id)
  have hsz6 := hb6.size
  have hcx := HO6.out.cell HY0.out
  have hfx := HO6.out.frozen j
  clear hb6
  have hNn : ¬ (N : Int) = 0 := by omega
  have hNm : ¬ N = 0 := by omega
  have HSF : Hid (∀ u, Sto (w6.setCell ⟨gx, j, none⟩ u) G (splice (zeros 16384) a xs)) := keepHid (fun u => HS6.out.far (p := ⟨gx, j, none⟩) (fun e => hgG e.symm) u)
  have HBF : Hid (∀ u, Below w.heap.size w (w6.setCell ⟨gx, j, none⟩ u)) := keepHid (fun u => HB6.out.setCell (p := ⟨gx, j, none⟩) (by show w.heap.size ≤ gx; omega) u)
  have HOF : Hid (OwnB (w6.setCell ⟨gx, j, none⟩ (.int .u8 (v.toNat : Int))) w2.heap.size 5 (.slice (some ⟨gx, 0, none⟩) N cap2) N zs) := keepHid (by rw [← HZS.out]; exact HO6.out.stored j v)
  go_wp2_with fail
  refine (swrite_z G _ a _ rfl _ N _ _ zs _ (HSF.out _) (HOF.out.bys (by omega)) (by omega)).mono ?_
  rintro e w7 ⟨rfl, hs7, ht7⟩
  have HS7 := keepHid hs7
  have HB7 := keepHid ((HBF.out _).trans (ht7.below (B := w.heap.size) (fun i hi => by omega) (HBF.out _).size))
  clear hs7 ht7 hcx hfx
  go_wp2_with fail
  refine (sprint_z G _ a N _ _ rfl rfl _ HS7.out (by omega)).mono ?_
  rintro e w8 ⟨rfl, hb8⟩
  rw [HP2.out, HPN2.out]
  have HB8 := keepHid (HB7.out.trans (hb8.mono HB7.out.size))
  have heq := HEQ.out
  have hq := HQ.out
  have hqq : (q == q) = true := by simp
  clear hb8
  go_wp2
  go_ret
  exact ⟨rfl, HB8.out⟩

set_option maxRecDepth 100000 in
theorem lifted (os : Os) (started : os.Started) (H : Type) (enc : TypeId × Value → H) :
    ReturnsInHanded {} Try.checked os 6 .any (Rows.storePrintSpec.pre6 enc Try.prog Try.f6 Rows.storePrintRow.domain false) (Rows.storePrintSpec.post enc Try.prog Try.f6 false true false false) := by
  refine returnsInHanded_of_change_sized (C := Try.checked) own started (by kernel_rfl) Try.func6
    (ChangeSpec.witness6 (enc := enc) (C := Try.checked) false ⟨#[], #[.int .u16 0, .slice none 0 0, .int .u8 0, .int .u8 0], []⟩ 8 (by kernel_rfl) (by kernel_rfl) (by kernel_rfl) (by kernel_rfl)) ?_
  intro W base args ds gs before hval0 hW hcnd hsz0 _
  have hsz : (DataW.weightsEach Try.prog (Try.f6.params.toList ++ Rows.storePrintSpec.plain.varTypes Try.prog) (ds ++ gs)).all (· ≤ reachBytes) = true := hsz0
  clear hsz0
  have hval : ∀ (j : Nat) t v, Try.f6.params[j]? = some t → args[j]? = some v → Value.okWide Try.prog W .any base t v := hval0
  have hW' := hW
  obtain ⟨p, q, hA0, hV, rfl, hfz, hnd⟩ := hW
  have hA : DataW.TrodAll enc Try.prog W 0 (fun _ => true) true Try.f6.params.toList args.toList ds p := hA0
  rw [Try.params6] at hA hval hsz
  obtain ⟨v0, vs0, d0, ds0, p0, q0, hargs, rfl, rfl, h0, r0⟩ := trodAll_cons hA
  obtain ⟨v1, vs1, d1, ds1, p1, q1, rfl, rfl, rfl, h1, r1⟩ := trodAll_cons r0
  obtain ⟨v2, vs2, d2, ds2, p2, q2, rfl, rfl, rfl, h2, r2⟩ := trodAll_cons r1
  obtain ⟨v3, vs3, d3, ds3, p3, q3, rfl, rfl, rfl, h3, r3⟩ := trodAll_cons r2
  obtain ⟨rfl, rfl, rfl⟩ := trodAll_nil r3
  obtain rfl : args = #[v0, v1, v2, v3] := by cases args; simp_all
  obtain ⟨rfl, rfl⟩ := trodVars_none hV
  have k0 := h0
  have lt0 : ∀ x ∈ p0, x.block < W.heap.size := by obtain ⟨m, hm⟩ := k0; exact DataW.trod_lt m _ _ _ hm
  have k1 := h1
  have lt1 : ∀ x ∈ p1, x.block < W.heap.size := by obtain ⟨m, hm⟩ := k1; exact DataW.trod_lt m _ _ _ hm
  have k2 := h2
  have lt2 : ∀ x ∈ p2, x.block < W.heap.size := by obtain ⟨m, hm⟩ := k2; exact DataW.trod_lt m _ _ _ hm
  have k3 := h3
  have lt3 : ∀ x ∈ p3, x.block < W.heap.size := by obtain ⟨m, hm⟩ := k3; exact DataW.trod_lt m _ _ _ hm
  obtain ⟨x0, rfl, rfl, rfl, w0⟩ := open_int Try.underlying22 (hval 0 22 v0 rfl rfl) h0
  obtain ⟨a1, n1, c1, b1, rfl, w1, l1, s1⟩ := open_bys Try.underlying23 Try.underlying5 (by kernel_rfl) (by kernel_rfl) (hval 1 23 v1 rfl rfl) (fun _ => rfl) h1 (fun el sp hd => sized_slice hsz (j := 1) (t := 23) (e := 5) rfl (by rw [hd]; rfl) Try.underlying23)
  obtain ⟨x2, rfl, rfl, rfl, w2⟩ := open_int Try.underlying5 (hval 2 5 v2 rfl rfl) h2
  obtain ⟨x3, rfl, rfl, rfl, w3⟩ := open_int Try.underlying5 (hval 3 5 v3 rfl rfl) h3
  clear hA0 hval0
  refine (walk x0 a1 n1 c1 b1 x2 x3 W (wf_u16 w0) w1 l1 s1 (wf_u8 w2) (wf_u8 w3)).mono fun e W' ⟨he, bel⟩ => ?_
  subst he
  exact ⟨_, rfl, _, _, _, [], _, [], hW', trodAll_mk1 (shut_bool Try.underlying4 _), (trodAll_cons_mk (Below.trod laidOut (by kernel_rfl) (of_decide_eq_true (by kernel_rfl)) k0 bel lt0) (trodAll_cons_mk (Below.trod laidOut (by kernel_rfl) (of_decide_eq_true (by kernel_rfl)) k1 bel lt1) (trodAll_cons_mk (Below.trod laidOut (by kernel_rfl) (of_decide_eq_true (by kernel_rfl)) k2 bel lt2) (trodAll_cons_mk (Below.trod laidOut (by kernel_rfl) (of_decide_eq_true (by kernel_rfl)) k3 bel lt3) trodAll_mk0)))), rfl, bel.frame _, fun h => by cases h⟩

theorem over : Rows.storePrintRow.holds Try.pinned (OpenSpec.ofChange Rows.storePrintSpec) :=
  OpenClaim.holds_of_wide 6 Try.f6 rfl rfl rfl rfl rfl rfl rfl ⟨rfl, rfl, rfl, rfl, rfl⟩ rfl rfl rfl rfl rfl (by kernel_rfl) Try.func6 (by kernel_rfl)
    (of_decide_eq_true (by kernel_rfl)) (by unfold Func.isWrapper; first | (rw [if_pos (by decide +kernel)]; kernel_rfl) | (rw [if_neg (by decide +kernel)]; exact ⟨rfl, rfl⟩))
    (fun os started H enc _ => lifted os started H enc)

theorem proved : Rows.StorePrintSaid := over
end Go.Proofs.Ytomahdfilnbopaa.storePrint
