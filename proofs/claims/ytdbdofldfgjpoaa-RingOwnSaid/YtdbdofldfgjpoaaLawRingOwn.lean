/-
  'lifelinelaw02.RingOwn' answers true for every input, and leaves its arguments as they were.
  Conditions: none but what the row itself says of its arguments (how much memory each may take).
-/
import Derived.Test.YtdbdofldfgjpoaaRows
import Derived.Test.YtdbdofldfgjpoaaRingUse
import Derived.Test.YtdbdofldfgjpoaaApp
import Derived.Test.YtdbdofldfgjpoaaFrame
import Derived.WalkKit
import Derived.Deep.RegionHeld3
import Derived.Deep.RegionWith
import Derived.Deep.DrawnRows
import Derived.ProofKit
import Derived.OpenShut
import Derived.ShutString
import Derived.ChangeOld
import Derived.Below
namespace Go.Proofs.Ytdbdofldfgjpoaa.ringOwn
open Go.ChangeShapes Go.WideShapes Go.ChangeAt Go.RowKit
open Go.ChangeMaps (open_string shut_string)
set_option linter.unusedVariables false

theorem own : ownKnob Try.prog.godebug = none := by kernel_rfl
theorem laidOut : laidOutB Try.prog = true := by kernel_rfl

theorem byteT : ByteT Try.prog 27 5 := ⟨Try.underlying27, Try.underlying5, by kernel_rfl⟩
set_option maxHeartbeats 4000000 in
theorem walk (a0 : Option Addr) (n0 c0 : Nat) (b0 : List UInt8) (x1 : Int) (w : World) (h0 : Bys w w.heap.size a0 n0 b0) (l0 : n0 ≤ c0) (s0 : c0 ≤ 140737488351232) (h1 : 0 ≤ x1 ∧ x1 ≤ 255) :
    Calls Try.prog 8 #[.slice a0 n0 c0, .int .u8 x1] w fun e w' => e = .returned (.bool true) ∧ Below w.heap.size w w' := by
  have H0 := keepHid h0
  have hl0 := h0.len
  clear h0
  obtain ⟨m, hm⟩ : ∃ m : Nat, (n0 ≤ 50 ∧ m = n0) ∨ (50 < n0 ∧ m = 50) := by
    by_cases h : n0 ≤ 50
    · exact ⟨n0, .inl ⟨h, rfl⟩⟩
    · exact ⟨50, .inr ⟨by omega, rfl⟩⟩
  have hm50 : m ≤ 50 := by omega
  have hmn : m ≤ n0 := by omega
  have hc1 : (0 : Int) ≤ (m : Int) := by omega
  have hc2 : (m : Int) ≤ (n0 : Int) := by omega
  have hc3 : (m : Int) ≤ (c0 : Int) := by omega
  have hlm : (b0.take m).length = m := by rw [List.length_take, hl0]; omega
  have HLM := keepHid hlm
  have HL := keepHid hl0
  clear hl0 hlm
  obtain ⟨k, hk⟩ : ∃ k, m + 1 = k := ⟨_, rfl⟩
  have hk1 : 1 ≤ k := by omega
  have hk51 : k ≤ 51 := by omega
  have HK := keepHid hk
  clear hk
  have hlx : (b0.take m ++ [7]).length = k := by rw [List.length_append, HLM.out]; exact HK.out
  obtain ⟨xs, hxs⟩ : ∃ xs, b0.take m ++ [7] = xs := ⟨_, rfl⟩
  rw [hxs] at hlx
  obtain ⟨x0, hx0⟩ : ∃ x0, xs[0]? = some x0 := ⟨_, List.getElem?_eq_getElem (by rw [hlx]; omega)⟩
  have htk : xs.take k = xs := List.take_of_length_le (by omega)
  have HXS := keepHid hxs
  have HLX := keepHid hlx
  have HX0 := keepHid hx0
  have HTK := keepHid htk
  have hlo : lostBy 0 ((k : Int) - (k : Int)) = 0 := by rw [lostBy_in] <;> omega
  have HLO := keepHid hlo
  have hcx0 := u8lt x0
  clear hxs hlx hx0 htk hlo
  have h7 : ∀ (W : World) (g : Nat), g = W.heap.size → Bys (W.alloc (.cells #[.int .u8 7] 5)) (g + 1) (some ⟨g, 0, none⟩) 1 [7] := fun W g hg => bys_new W _ [7] 1 rfl (by decide) _ rfl g hg
  have H7 := keepHid h7
  clear h7
  rcases hm with ⟨hm, rfl⟩ | ⟨hm, rfl⟩
  all_goals
    go_enter Try.func8, Try.ntmps8
    go_wp2_with fail
    refine (awake_any _).mono ?_
    rintro e w1 ⟨rfl, hb⟩
    have HB1 := keepHid hb
    clear hb
    go_wp2_with fail
    refine (of_ring _ 200 (.inr (.inl (by omega))) _).mono ?_
    rintro e w2 ⟨g, c, rfl, hr, hg, hc, hb⟩
    have HR2 := keepHid hr
    have hlg := hr.ltg
    have hlc := hr.lth
    have hg' : w.heap.size ≤ g := Nat.le_trans HB1.out.size hg
    have hc' : w.heap.size ≤ c := Nat.le_trans HB1.out.size hc
    have HB2 := keepHid (HB1.out.trans (hb.mono HB1.out.size))
    have H2 := keepHid (H0.out.below HB2.out)
    clear hr hb hg hc
    go_wp2_with (at_builtin; refine wpList_append_bytes _ rfl _ _ 27 rfl w2.heap.size 5 byteT (.slice none 0 0) 0 [] (by rfl) (OwnB.nil _ _ _) _ _ _ _ _ (by rfl) (H2.out.head hmn) _ (Nat.zero_add _) (by omega) (Nat.le_refl _) ?_)
    intro A1 cap1 w3 ho3 ht3 _ hn1 hn2
    have hB3 : Below w2.heap.size w2 w3 := ht3.below (fun i hi => by simp [Value.ownBlock] at hi) (Nat.le_refl _)
    have HO3 := keepHid ho3
    have HB3 := keepHid hB3
    clear ho3 ht3 hB3
    have hs3 : w2.heap.size ≤ w3.heap.size := HB3.out.size
    go_wp2_with (at_builtin; go_loud (refine wpList_append_bytes _ rfl _ _ 27 rfl w2.heap.size 5 byteT _ _ _ (by rfl) (HO3.out.alloc _) _ _ _ _ _ (by rfl) (H7.out _ _ rfl) k HK.out (by omega) (by simp; omega) ?_))
    intro A2 cap2 w4 ho4 ht4 _ hn3 hn4
    rw [HXS.out] at ho4
    obtain ⟨gx, _, hv, hgx1, hgx2, _, _⟩ := ho4.some_form hk1
    obtain rfl : A2 = some ⟨gx, 0, none⟩ := by injection hv
    have HB4 := keepHid ((HB3.out.alloc HB3.out.size _).trans (ht4.below (own_base HO3.out) (by simp; omega)))
    have HO4 := keepHid ho4
    clear ho4 ht4 hv
    go_wp2_with (at_builtin; refine wpList_append_bytes _ rfl _ _ 27 rfl w4.heap.size 5 byteT (.slice none 0 0) 0 [] (by rfl) (OwnB.nil _ _ _) _ _ _ _ _ (by rfl) (HO4.out.bys (by omega)) k (Nat.zero_add _) (by omega) (Nat.le_refl _) ?_)
    intro A3 cap3 w5 ho5 ht5 _ hn5 hn6
    obtain ⟨gy, _, hv, hgy1, hgy2, _, _⟩ := ho5.some_form hk1
    obtain rfl : A3 = some ⟨gy, 0, none⟩ := by injection hv
    have hB45 : Below w4.heap.size w4 w5 := ht5.below (fun i hi => by simp [Value.ownBlock] at hi) (Nat.le_refl _)
    have hs4 := HB4.out.size
    have HB5 := keepHid (HB4.out.trans (hB45.mono hs4))
    have HX5 := keepHid (HO4.out.turn ht5 (by simp [Value.ownBlock]))
    have HY5 := keepHid ho5
    have HR5 := keepHid (HR2.out.turn (Turn.of_below HB5.out (S := fun _ => False)) id id)
    have n1 : ¬ gx = g := by omega
    have n2 : ¬ gx = c := by omega
    have n3 : ¬ gy = g := by omega
    have n4 : ¬ gy = c := by omega
    have n5 : ¬ gx = gy := by omega
    have nX : ¬ Own g c gx := by unfold Own; omega
    have nY : ¬ Own g c gy := by unfold Own; omega
    have NX := keepHid nX
    have NY := keepHid nY
    clear ho5 ht5 hv hB45 nX nY
    go_wp2_with fail
    refine (put_ring g c 200 [] 0 _ k cap2 _ k xs _ HR5.out (HX5.out.bys (by omega)) (Nat.le_refl _) hn3 hn4 (by intro _ ad e; obtain rfl := Option.some.inj e; exact NX.out) (by simp; omega)).mono ?_
    rintro e w6 ⟨rfl, hr6, ht6⟩
    rw [HTK.out, HLO.out, List.nil_append] at hr6
    have HR6 := keepHid hr6
    have HX6 := keepHid (HX5.out.turn ht6 NX.out)
    have HY6 := keepHid (HY5.out.turn ht6 NY.out)
    have HT6 := keepHid ht6
    clear hr6 ht6
    go_wp2_with fail
    refine (put_ring g c 200 xs 0 _ k cap2 _ k xs _ HR6.out (HX6.out.bys (by omega)) (Nat.le_refl _) hn3 hn4 (by intro _ ad e; obtain rfl := Option.some.inj e; exact NX.out) (by rw [HLX.out]; omega)).mono ?_
    rintro e w7 ⟨rfl, hr7, ht7⟩
    rw [HTK.out, HLO.out] at hr7
    have HR7 := keepHid hr7
    have HX7 := keepHid (HX6.out.turn ht7 NX.out)
    have HY7 := keepHid (HY6.out.turn ht7 NY.out)
    have HT7 := keepHid (HT6.out.trans ht7)
    have hc7 := HX7.out.cell HX0.out
    have hf7 := HX7.out.frozen 0
    have hk0 : (0 : Int) < (k : Int) := by omega
    clear hr7 ht7
    go_wp2_with fail
    have hR7s : ∀ u, Ring (w7.setCell ⟨gx, 0, none⟩ u) g c 200 (xs ++ xs) 0 := fun u => HR7.out.setCell n1 n2 u
    have hY7s : ∀ u, OwnB (w7.setCell ⟨gx, 0, none⟩ u) w4.heap.size 5 (.slice (some ⟨gy, 0, none⟩) k cap3) k xs := fun u => HY7.out.keep (fun i hi _ => by
      have : i = gy := by simp [Value.ownBlock] at hi; omega
      subst this
      exact Below.heap_setCell _ _ _ _ (fun e => n5 e.symm))
    have hT7s : ∀ u, Below w.heap.size w (w7.setCell ⟨gx, 0, none⟩ u) := fun u => (HB2.out.trans ((HB5.out.mono HB2.out.size).trans (HT7.out.below (B := w.heap.size) (by intro i hi; rcases hi with rfl | rfl <;> assumption) (Nat.le_trans HB2.out.size HB5.out.size)))).setCell (Nat.le_trans HB2.out.size hgx1) u
    have HR7S := keepHid hR7s
    have HY7S := keepHid hY7s
    have HT7S := keepHid hT7s
    clear hR7s hY7s hT7s hc7 hf7
    refine (take_ring g c 200 (xs ++ xs) 0 _ k _ (HR7S.out _) (.inr (.inl ⟨by omega, by rw [List.length_append, HLX.out]; omega, rfl⟩))).mono ?_
    rintro e w8 ⟨t, rfl, hr8, hk8, ht, ht8⟩
    have e1 : (xs ++ xs).drop k = xs := by rw [← HLX.out]; exact List.drop_left
    have e2 : (xs ++ xs).take k = xs := by rw [← HLX.out]; exact List.take_left
    rw [e1] at hr8
    rw [e2] at hk8
    have hy8 := (HY7S.out _).turn ht8 NY.out
    have hlt8 := hk8.lt
    have hgt : gy < t := by
      have h1 := (HY7S.out (.int .u8 ((↑x0.toNat + x1) % 256))).some_form hk1
      obtain ⟨g', _, hv, _, hg', _, _⟩ := h1
      have : g' = gy := by injection hv with h1; injection h1 with h1; injection h1 with h1; exact h1.symm
      omega
    have hca := run_str (P := Try.prog) (c := k) 27 5 9 Try.underlying27 Try.underlying5 Try.underlying9 (bys_of_blk hk8 (n := k) HLX.out (by omega))
    have hcy := run_str (P := Try.prog) (c := cap3) 27 5 9 Try.underlying27 Try.underlying5 Try.underlying9 (hy8.bys (by omega))
    have hct : w8.cell? ⟨t, 0, none⟩ = some (.int .u8 (x0.toNat : Int)) := (hk8.cell 0).trans (by simp [byteVals, HX0.out])
    have hft : w8.frozen? ⟨t, 0, none⟩ = false := hk8.frozen 0
    have HR8 := keepHid hr8
    have HY8 := keepHid hy8
    have hgt8 : g < t ∧ c < t := ⟨Nat.lt_of_lt_of_le (HR7S.out _).ltg ht, Nat.lt_of_lt_of_le (HR7S.out _).lth ht⟩
    have HT8 := keepHid ((HT7S.out _).trans (ht8.below (B := w.heap.size) (by intro i hi; rcases hi with rfl | rfl <;> assumption) (HT7S.out _).size))
    have m1 : ¬ t = g := by omega
    have m2 : ¬ t = c := by omega
    have m3 : ¬ t = gy := by omega
    have m4 : w.heap.size ≤ t := by have := (HT7S.out (.int .u8 ((↑x0.toNat + x1) % 256))).size; omega
    clear e1 e2 hr8 hk8 ht8 hy8 hlt8 hgt8
    go_wp2_with fail
    have HR9 := keepHid (HR8.out.setCell (p := ⟨t, 0, none⟩) m1 m2 (.int .u8 (((x0.toNat : Int) + x1) % 256)))
    have HY9 := keepHid (HY8.out.keep (w' := w8.setCell ⟨t, 0, none⟩ (.int .u8 (((x0.toNat : Int) + x1) % 256))) (fun i hi _ => by
      have : i = gy := by simp [Value.ownBlock] at hi; omega
      subst this
      exact Below.heap_setCell _ _ _ _ (fun e => m3 e.symm)))
    have HT9 := keepHid (HT8.out.setCell (p := ⟨t, 0, none⟩) m4 (.int .u8 (((x0.toNat : Int) + x1) % 256)))
    clear hca hcy hct hft HR8 HY8 HT8 HR7S HY7S HT7S
    generalize w8.setCell ⟨t, 0, none⟩ (.int .u8 (((x0.toNat : Int) + x1) % 256)) = w9 at *
    have hcy9 := run_str (P := Try.prog) (w := w9.drew) (c := cap3) 27 5 9 Try.underlying27 Try.underlying5 Try.underlying9 (HY9.out.drew.bys (by omega))
    go_region_with
      (first
        | (go_at_call 12
           refine (take_ring g c 200 xs 0 _ k _ HR9.out.drew (.inr (.inl ⟨by omega, by rw [HLX.out]; omega, rfl⟩))).mono ?_
           rintro e w10 ⟨t2, rfl, hr10, hk10, ht, ht10⟩
           rw [HTK.out] at hk10
           have hct2 := run_str (P := Try.prog) (c := k) 27 5 9 Try.underlying27 Try.underlying5 Try.underlying9 (bys_of_blk hk10 (n := k) HLX.out (by omega))
           have hcy10 := run_str (P := Try.prog) (w := w10) (c := cap3) 27 5 9 Try.underlying27 Try.underlying5 Try.underlying9 ((HY9.out.drew.turn ht10 NY.out).bys (by omega))
           have HT10 := keepHid (HT9.out.drew.trans (ht10.below (B := w.heap.size) (by intro i hi; rcases hi with rfl | rfl <;> assumption) HT9.out.size))
           clear hr10 hk10 ht10))
    all_goals
      go_wp2
      go_ret
      exact ⟨rfl, HT10.out⟩

set_option maxRecDepth 100000 in
theorem lifted (os : Os) (started : os.Started) (H : Type) (enc : TypeId × Value → H) :
    ReturnsInHanded {} Try.checked os 8 .any (Rows.ringOwnSpec.pre6 enc Try.prog Try.f8 Rows.ringOwnRow.domain false) (Rows.ringOwnSpec.post enc Try.prog Try.f8 false true false false) := by
  refine returnsInHanded_of_change_sized (C := Try.checked) own started (by kernel_rfl) Try.func8
    (ChangeSpec.witness6 (enc := enc) (C := Try.checked) false ⟨#[], #[.slice none 0 0, .int .u8 0], []⟩ 8 (by kernel_rfl) (by kernel_rfl) (by kernel_rfl) (by kernel_rfl)) ?_
  intro W base args ds gs before hval0 hW hcnd hsz0 _
  have hsz : (DataW.weightsEach Try.prog (Try.f8.params.toList ++ Rows.ringOwnSpec.plain.varTypes Try.prog) (ds ++ gs)).all (· ≤ reachBytes) = true := hsz0
  clear hsz0
  have hval : ∀ (j : Nat) t v, Try.f8.params[j]? = some t → args[j]? = some v → Value.okWide Try.prog W .any base t v := hval0
  have hW' := hW
  obtain ⟨p, q, hA0, hV, rfl, hfz, hnd⟩ := hW
  have hA : DataW.TrodAll enc Try.prog W 0 (fun _ => true) true Try.f8.params.toList args.toList ds p := hA0
  rw [Try.params8] at hA hval hsz
  obtain ⟨v0, vs0, d0, ds0, p0, q0, hargs, rfl, rfl, h0, r0⟩ := trodAll_cons hA
  obtain ⟨v1, vs1, d1, ds1, p1, q1, rfl, rfl, rfl, h1, r1⟩ := trodAll_cons r0
  obtain ⟨rfl, rfl, rfl⟩ := trodAll_nil r1
  obtain rfl : args = #[v0, v1] := by cases args; simp_all
  obtain ⟨rfl, rfl⟩ := trodVars_none hV
  have k0 := h0
  have lt0 : ∀ x ∈ p0, x.block < W.heap.size := by obtain ⟨m, hm⟩ := k0; exact DataW.trod_lt m _ _ _ hm
  have k1 := h1
  have lt1 : ∀ x ∈ p1, x.block < W.heap.size := by obtain ⟨m, hm⟩ := k1; exact DataW.trod_lt m _ _ _ hm
  obtain ⟨a0, n0, c0, b0, rfl, w0, l0, s0⟩ := open_bys Try.underlying27 Try.underlying5 (by kernel_rfl) (by kernel_rfl) (hval 0 27 v0 rfl rfl) (fun _ => rfl) h0 (fun el sp hd => sized_slice hsz (j := 0) (t := 27) (e := 5) rfl (by rw [hd]; rfl) Try.underlying27)
  obtain ⟨x1, rfl, rfl, rfl, w1⟩ := open_int Try.underlying5 (hval 1 5 v1 rfl rfl) h1
  clear hA0 hval0
  refine (walk a0 n0 c0 b0 x1 W w0 l0 s0 (wf_u8 w1)).mono fun e W' ⟨he, bel⟩ => ?_
  subst he
  exact ⟨_, rfl, _, _, _, [], _, [], hW', trodAll_mk1 (shut_bool Try.underlying4 _), (trodAll_cons_mk (Below.trod laidOut (by kernel_rfl) (of_decide_eq_true (by kernel_rfl)) k0 bel lt0) (trodAll_cons_mk (Below.trod laidOut (by kernel_rfl) (of_decide_eq_true (by kernel_rfl)) k1 bel lt1) trodAll_mk0)), rfl, bel.frame _, fun h => by cases h⟩

theorem over : Rows.ringOwnRow.holds Try.pinned (OpenSpec.ofChange Rows.ringOwnSpec) :=
  OpenClaim.holds_of_wide 8 Try.f8 rfl rfl rfl rfl rfl rfl rfl ⟨rfl, rfl, rfl, rfl, rfl⟩ rfl rfl rfl rfl rfl (by kernel_rfl) Try.func8 (by kernel_rfl)
    (of_decide_eq_true (by kernel_rfl)) (by unfold Func.isWrapper; first | (rw [if_pos (by decide +kernel)]; kernel_rfl) | (rw [if_neg (by decide +kernel)]; exact ⟨rfl, rfl⟩))
    (fun os started H enc _ => lifted os started H enc)

theorem proved : Rows.RingOwnSaid := over
end Go.Proofs.Ytdbdofldfgjpoaa.ringOwn
