/-
  'lifelinelaw19.StoreOwn' answers true for every input, and leaves its arguments as they were.
  Conditions: none but what the row itself says of its arguments (how much memory each may take).
-/
import Derived.Test.YtomahdfilnbopaaRows
import Derived.Test.YtomahdfilnbopaaStoreAwake
import Derived.Test.YtomahdfilnbopaaMinMax
import Derived.Test.YtomahdfilnbopaaApp
import Derived.Deep.RegionHeld3
import Derived.Deep.RegionWith
import Derived.Deep.DrawnRows
import Derived.BigQuiet
import Derived.Deep.DeepCutAuto
import Derived.Test.YtomahdfilnbopaaFrame
import Derived.WalkKit
import Derived.ProofKit
import Derived.OpenShut
import Derived.ShutString
import Derived.ChangeOld
import Derived.Below
namespace Go.Proofs.Ytomahdfilnbopaa.storeOwn
open Go.ChangeShapes Go.WideShapes Go.ChangeAt Go.RowKit
open Go.ChangeMaps (open_string shut_string)
set_option linter.unusedVariables false

theorem own : ownKnob Try.prog.godebug = none := by kernel_rfl
theorem laidOut : laidOutB Try.prog = true := by kernel_rfl

set_option maxRecDepth 100000 in
set_option maxHeartbeats 4000000 in
theorem walk (x0 : Int) (a1 : Option Addr) (n1 c1 : Nat) (b1 : List UInt8) (x2 : Int) (w : World) (h0 : 0 ≤ x0 ∧ x0 ≤ 65535) (h1 : Bys w w.heap.size a1 n1 b1) (l1 : n1 ≤ c1) (s1 : c1 ≤ 140737488351232) (h2 : 0 ≤ x2 ∧ x2 ≤ 255) :
    Calls Try.prog 3 #[.int .u16 x0, .slice a1 n1 c1, .int .u8 x2] w fun e w' => e = .returned (.bool true) ∧ Below w.heap.size w w' := by
  have hz := zero_run
  obtain ⟨Z, hZ⟩ : ∃ Z, zrow 16384 = Z := ⟨_, rfl⟩
  rw [hZ] at hz
  have HZ := keepHid hZ
  clear hZ
  obtain ⟨a, ha⟩ : ∃ a : Nat, x0 % 8000 = (a : Int) := ⟨(x0 % 8000).toNat, by omega⟩
  have ha2 : a < 8000 := by omega
  obtain ⟨k, e0⟩ : ∃ k : Nat, min (n1 : Int) 100 = (k : Int) := ⟨min n1 100, by omega⟩
  have q0 := fun W ts t => min_z ts t (n1 : Int) 100 k e0 W
  have hkn : k ≤ n1 := by omega
  have hkc : (k : Int) ≤ (c1 : Int) := by omega
  have hk9 : k ≤ 100 := by omega
  obtain ⟨N, hN⟩ : ∃ N, k + 1 = N := ⟨_, rfl⟩
  have hN1 : 1 ≤ N := by omega
  have hN9 : N ≤ 100 + 1 := by omega
  obtain ⟨xs, hxs⟩ : ∃ xs, b1.take k ++ [7] = xs := ⟨_, rfl⟩
  have hxl : xs.length = N := by rw [← hxs, List.length_append, List.length_take, h1.len]; simp; omega
  have HXS := keepHid hxs
  have HXL := keepHid hxl
  have HN := keepHid hN
  have h7 : ∀ (W : World) (g : Nat), g = W.heap.size → Bys (W.alloc (.cells #[.int .u8 7] 5)) (g + 1) (some ⟨g, 0, none⟩) 1 [7] := fun W g hg => bys_new W _ [7] 1 rfl (by decide) _ rfl g hg
  have H7 := keepHid h7
  have H1 := keepHid h1
  clear h7 hxs hxl hN e0 h1
  obtain ⟨y0, hy0⟩ : ∃ y0, xs[0]? = some y0 := ⟨_, List.getElem?_eq_getElem (by rw [HXL.out]; omega)⟩
  have HY0 := keepHid hy0
  have hy0l := u8lt y0
  have hsz : (strB xs).size = N := by rw [strB_size, HXL.out]
  have heq := strB_same (rfl : xs = xs)
  have hput : getL (splice (zeros 16384) a xs) a N = xs := get_put' (by rw [zeros_len, HXL.out]; omega) HXL.out
  have HPUT := keepHid hput
  have hNk : (0 : Int) < (N : Int) := by omega
  clear hy0 hput
  go_enter Try.func3, Try.ntmps3
  go_wp2_with fail
  refine (awake_any _).mono ?_
  rintro e w1 ⟨rfl, hb1⟩
  obtain ⟨w2, hw2⟩ : ∃ w2, w1.alloc (.cells Z 28) = w2 := ⟨_, rfl⟩
  have HS2 : Hid (Sto w2 w1.heap.size (zeros 16384)) := keepHid (by rw [← hw2]; exact sto_new w1 _ rfl Z HZ.out)
  have HB2 : Hid (Below w.heap.size w w2) := keepHid (by rw [← hw2]; exact hb1.alloc hb1.size _)
  obtain ⟨G, hG⟩ : ∃ G, w1.heap.size = G := ⟨_, rfl⟩
  have hG2 : G < w2.heap.size := by rw [← hw2, ← hG]; simp
  have hGw : w.heap.size ≤ G := by rw [← hG]; exact hb1.size
  rw [hG] at HS2
  clear hb1
  have HI2 := keepHid (H1.out.below HB2.out)
  go_wp2_with (at_builtin; refine wpList_append_bytes _ rfl _ _ 23 rfl w2.heap.size 5 byteT (.slice none 0 0) 0 [] (by rfl) (OwnB.nil _ _ _) _ _ _ _ _ (by rfl) (HI2.out.head hkn) k (Nat.zero_add _) (by omega) (Nat.le_refl _) ?_)
  intro A1 cap1 w3 ho3 ht3 _ hn1 hn2
  have HO3 := keepHid ho3
  have HB3 : Hid (Below w2.heap.size w2 w3) := keepHid (ht3.below (fun i hi => by simp [Value.ownBlock] at hi) (Nat.le_refl _))
  have hs3 := HB3.out.size
  clear ho3 ht3
  go_wp2_with (at_builtin; go_loud (refine wpList_append_bytes _ rfl _ _ 23 rfl w2.heap.size 5 byteT _ _ _ (by rfl) (HO3.out.alloc _) _ _ _ _ _ (by rfl) (H7.out _ _ rfl) N HN.out (by omega) (by simp; omega) ?_))
  intro A2 cap2 w4 ho4 ht4 _ hn3 hn4
  rw [HXS.out] at ho4
  obtain ⟨gx, _, hv, hgx1, hgx2, _, _⟩ := ho4.some_form hN1
  obtain rfl : A2 = some ⟨gx, 0, none⟩ := by injection hv
  have HB4 : Hid (Below w2.heap.size w2 w4) := keepHid ((HB3.out.alloc HB3.out.size _).trans (ht4.below (own_base HO3.out) (by simp; omega)))
  have HO4 := keepHid ho4
  have HX4 := keepHid (ho4.bys (by omega))
  have HS4 := keepHid (HS2.out.below HB4.out (by omega))
  have HB4w := keepHid (HB2.out.trans (HB4.out.mono HB2.out.size))
  have hs4 := HB4.out.size
  have hgG : gx ≠ G := by omega
  clear ho4 ht4 hv
  have hc4 := run_str (P := Try.prog) (c := cap2) 23 5 9 Try.underlying23 Try.underlying5 Try.underlying9 (HX4.out)
  go_wp2_with fail
  refine (swrite_z G (zeros 16384) a _ rfl _ N _ _ xs _ HS4.out HX4.out (by omega)).mono ?_
  rintro e w5 ⟨rfl, hs5, ht5⟩
  have HS5 := keepHid hs5
  have HB5 := keepHid (HB4w.out.trans (ht5.below (B := w.heap.size) (fun i hi => by omega) HB4w.out.size))
  have hsz5 := ht5.size
  have ho5 := HO4.out.turn ht5 hgG
  have hcx := ho5.cell HY0.out
  have hfx := ho5.frozen 0
  clear hs5 ht5 ho5 hc4
  have HSF : Hid (∀ u, Sto (w5.setCell ⟨gx, 0, none⟩ u) G (splice (zeros 16384) a xs)) := keepHid (fun u => HS5.out.far (p := ⟨gx, 0, none⟩) (fun e => hgG e.symm) u)
  have HBF : Hid (∀ u, Below w.heap.size w (w5.setCell ⟨gx, 0, none⟩ u)) := keepHid (fun u => HB5.out.setCell (p := ⟨gx, 0, none⟩) (by show w.heap.size ≤ gx; omega) u)
  go_wp2_with fail
  refine (sread_z G _ a N _ _ rfl rfl _ (HSF.out _) (by omega)).mono ?_
  rintro e w6 ⟨rfl, hk6, hb6⟩
  rw [HPUT.out] at hk6
  have HS6 := keepHid ((HSF.out _).below hb6 (HSF.out _).lt)
  have HB6 := keepHid ((HBF.out _).trans (hb6.mono (HBF.out _).size))
  have HK6 := keepHid hk6
  have hl6 := hk6.lt
  have hc6 := run_str (P := Try.prog) (c := N) 23 5 9 Try.underlying23 Try.underlying5 Try.underlying9 (bys_blk hk6 (n := N) HXL.out (by omega))
  have hca := hk6.cell 0
  rw [show (byteVals xs)[0]? = some (.int .u8 (y0.toNat : Int)) by simp [byteVals, HY0.out]] at hca
  have hfa := hk6.frozen 0
  have hG6 : G < (w5.setCell ⟨gx, 0, none⟩ (.int .u8 (((y0.toNat : Int) + x2) % 256))).heap.size := by have := (HSF.out (.int .u8 (((y0.toNat : Int) + x2) % 256))).lt; exact this
  have hwb : w.heap.size ≤ (w5.setCell ⟨gx, 0, none⟩ (.int .u8 (((y0.toNat : Int) + x2) % 256))).heap.size := (HBF.out _).size
  generalize (w5.setCell ⟨gx, 0, none⟩ (.int .u8 (((y0.toNat : Int) + x2) % 256))).heap.size = R at *
  clear hcx hfx hk6 hb6
  have HSR : Hid (∀ u, Sto (w6.setCell ⟨R, 0, none⟩ u) G (splice (zeros 16384) a xs)) := keepHid (fun u => HS6.out.far (p := ⟨R, 0, none⟩) (by show G ≠ R; omega) u)
  have HBR : Hid (∀ u, Below w.heap.size w (w6.setCell ⟨R, 0, none⟩ u)) := keepHid (fun u => HB6.out.setCell (p := ⟨R, 0, none⟩) hwb u)
  go_wp2_with fail
  refine (sread_z G _ a N _ _ rfl rfl _ (HSR.out _) (by omega)).mono ?_
  rintro e w7 ⟨rfl, hk7, hb7⟩
  rw [HPUT.out, show ∀ u, (w6.setCell ⟨R, 0, none⟩ u).heap.size = w6.heap.size from fun u => by simp [World.setCell]] at hk7
  have HB7 := keepHid ((HBR.out _).trans (hb7.mono (HBR.out _).size))
  have hc7 := run_str (P := Try.prog) (c := N) 23 5 9 Try.underlying23 Try.underlying5 Try.underlying9 (bys_blk hk7 (n := N) HXL.out (by omega))
  clear hk7 hb7 hc6 hca hfa
  go_wp2
  go_ret
  exact ⟨rfl, HB7.out⟩

set_option maxRecDepth 100000 in
theorem lifted (os : Os) (started : os.Started) (H : Type) (enc : TypeId × Value → H) :
    ReturnsInHanded {} Try.checked os 3 .any (Rows.storeOwnSpec.pre6 enc Try.prog Try.f3 Rows.storeOwnRow.domain false) (Rows.storeOwnSpec.post enc Try.prog Try.f3 false true false false) := by
  refine returnsInHanded_of_change_sized (C := Try.checked) own started (by kernel_rfl) Try.func3
    (ChangeSpec.witness6 (enc := enc) (C := Try.checked) false ⟨#[], #[.int .u16 0, .slice none 0 0, .int .u8 0], []⟩ 8 (by kernel_rfl) (by kernel_rfl) (by kernel_rfl) (by kernel_rfl)) ?_
  intro W base args ds gs before hval0 hW hcnd hsz0 _
  have hsz : (DataW.weightsEach Try.prog (Try.f3.params.toList ++ Rows.storeOwnSpec.plain.varTypes Try.prog) (ds ++ gs)).all (· ≤ reachBytes) = true := hsz0
  clear hsz0
  have hval : ∀ (j : Nat) t v, Try.f3.params[j]? = some t → args[j]? = some v → Value.okWide Try.prog W .any base t v := hval0
  have hW' := hW
  obtain ⟨p, q, hA0, hV, rfl, hfz, hnd⟩ := hW
  have hA : DataW.TrodAll enc Try.prog W 0 (fun _ => true) true Try.f3.params.toList args.toList ds p := hA0
  rw [Try.params3] at hA hval hsz
  obtain ⟨v0, vs0, d0, ds0, p0, q0, hargs, rfl, rfl, h0, r0⟩ := trodAll_cons hA
  obtain ⟨v1, vs1, d1, ds1, p1, q1, rfl, rfl, rfl, h1, r1⟩ := trodAll_cons r0
  obtain ⟨v2, vs2, d2, ds2, p2, q2, rfl, rfl, rfl, h2, r2⟩ := trodAll_cons r1
  obtain ⟨rfl, rfl, rfl⟩ := trodAll_nil r2
  obtain rfl : args = #[v0, v1, v2] := by cases args; simp_all
  obtain ⟨rfl, rfl⟩ := trodVars_none hV
  have k0 := h0
  have lt0 : ∀ x ∈ p0, x.block < W.heap.size := by obtain ⟨m, hm⟩ := k0; exact DataW.trod_lt m _ _ _ hm
  have k1 := h1
  have lt1 : ∀ x ∈ p1, x.block < W.heap.size := by obtain ⟨m, hm⟩ := k1; exact DataW.trod_lt m _ _ _ hm
  have k2 := h2
  have lt2 : ∀ x ∈ p2, x.block < W.heap.size := by obtain ⟨m, hm⟩ := k2; exact DataW.trod_lt m _ _ _ hm
  obtain ⟨x0, rfl, rfl, rfl, w0⟩ := open_int Try.underlying22 (hval 0 22 v0 rfl rfl) h0
  obtain ⟨a1, n1, c1, b1, rfl, w1, l1, s1⟩ := open_bys Try.underlying23 Try.underlying5 (by kernel_rfl) (by kernel_rfl) (hval 1 23 v1 rfl rfl) (fun _ => rfl) h1 (fun el sp hd => sized_slice hsz (j := 1) (t := 23) (e := 5) rfl (by rw [hd]; rfl) Try.underlying23)
  obtain ⟨x2, rfl, rfl, rfl, w2⟩ := open_int Try.underlying5 (hval 2 5 v2 rfl rfl) h2
  clear hA0 hval0
  refine (walk x0 a1 n1 c1 b1 x2 W (wf_u16 w0) w1 l1 s1 (wf_u8 w2)).mono fun e W' ⟨he, bel⟩ => ?_
  subst he
  exact ⟨_, rfl, _, _, _, [], _, [], hW', trodAll_mk1 (shut_bool Try.underlying4 _), (trodAll_cons_mk (Below.trod laidOut (by kernel_rfl) (of_decide_eq_true (by kernel_rfl)) k0 bel lt0) (trodAll_cons_mk (Below.trod laidOut (by kernel_rfl) (of_decide_eq_true (by kernel_rfl)) k1 bel lt1) (trodAll_cons_mk (Below.trod laidOut (by kernel_rfl) (of_decide_eq_true (by kernel_rfl)) k2 bel lt2) trodAll_mk0))), rfl, bel.frame _, fun h => by cases h⟩

theorem over : Rows.storeOwnRow.holds Try.pinned (OpenSpec.ofChange Rows.storeOwnSpec) :=
  OpenClaim.holds_of_wide 3 Try.f3 rfl rfl rfl rfl rfl rfl rfl ⟨rfl, rfl, rfl, rfl, rfl⟩ rfl rfl rfl rfl rfl (by kernel_rfl) Try.func3 (by kernel_rfl)
    (of_decide_eq_true (by kernel_rfl)) (by unfold Func.isWrapper; first | (rw [if_pos (by decide +kernel)]; kernel_rfl) | (rw [if_neg (by decide +kernel)]; exact ⟨rfl, rfl⟩))
    (fun os started H enc _ => lifted os started H enc)

theorem proved : Rows.StoreOwnSaid := over
end Go.Proofs.Ytomahdfilnbopaa.storeOwn
