/-
  'lifelinelaw13.BatchEmpty' answers true for every input of the row, and leaves its arguments as they were.
  Conditions: the package-level variables that the row lists lie as the program's own text lays them (the card ties them to it; what is pinned is a constant of the library's).
-/
import Derived.Test.YtgdjopiejmdbnaaGreatDoorRows
import Derived.Test.YtgdjopiejmdbnaaGreatDoorBatchAwake
import Derived.Test.YtgdjopiejmdbnaaGreatDoorFrameTwo
import Derived.Test.YtgdjopiejmdbnaaGreatDoorFrame
import Derived.Test.YtgdjopiejmdbnaaGreatDoorFrameDoor
import Derived.Test.YtgdjopiejmdbnaaGreatDoorFrameErrs
import Derived.Test.YtgdjopiejmdbnaaGreatDoorCards
import Derived.WalkKit
import Derived.ProofKit
import Derived.OpenShut
import Derived.ShutString
import Derived.ChangeOld
import Derived.Below
namespace Go.Proofs.YtgdjopiejmdbnaaGreatDoor.batchEmpty
open Go.ChangeShapes Go.WideShapes Go.ChangeAt Go.RowKit
open Go.ChangeMaps (open_string shut_string)
set_option linter.unusedVariables false

theorem own : ownKnob Tryz.prog.godebug = none := by kernel_rfl
theorem laidOut : laidOutB Tryz.prog = true := by kernel_rfl

set_option maxRecDepth 100000 in
set_option maxHeartbeats 4000000 in
theorem walk (y0 z0 : Int) (a1 : Option Addr) (n1 c1 : Nat) (b1 : List UInt8) (w : World) (hT : Tabs w) (hE : Errs w) (h0 : -9223372036854775808 ≤ y0 ∧ y0 ≤ 9223372036854775807) (g0 : -9223372036854775808 ≤ z0 ∧ z0 ≤ 9223372036854775807) (h1 : Bys w w.heap.size a1 n1 b1) (l1 : n1 ≤ c1) (s1 : c1 ≤ 140737488351232) :
    Calls Tryz.prog 8 #[.agg #[.int .i64 y0, .int .i64 z0], .slice a1 n1 c1] w fun e w' => e = .returned (.bool true) ∧ Below w.heap.size w w' := by
  obtain ⟨t, v, u, z1, ht, hv, hu, hz, hz1, hz6, t1, t2, v1', v2', u1, u2⟩ := wait_is z0 2
  obtain ⟨wa, hwa⟩ : ∃ wa, w.alloc (.cells #[.int .i64 y0, .int .i64 z0] 23) = wa := ⟨_, rfl⟩
  have hba : Below w.heap.size w wa := by rw [← hwa]; exact (Below.refl _ _).alloc (Nat.le_refl _) _
  have hka : Blk wa w.heap.size 23 #[.int .i64 y0, .int .i64 z0] := by rw [← hwa]; exact Blk.new w _ _
  have hSa : Std w wa := (Std.new hT hE).below hba
  have HSA := keepHid hSa
  have HAW := keepHid (awake13_any wa hSa.t hSa.e)
  have HBA := keepHid hba
  have HKA := keepHid hka
  have HNM := keepHid (nm_later a1 n1 c1 b1 h1)
  have HMAY : Hid (May (sizedF ⟨nmL b1, 77, 0, 0⟩ 0)) := keepHid ⟨nm_name b1, by show (0 : Int) ≤ 0; omega, by show (0 : Int) ≤ 8192; omega, by show (0 : Int) ≤ 0; omega, by show (0 : Int) ≤ 4294967295; omega, by show (0 : Int) ≤ 0; omega, by show (0 : Int) ≤ 65535; omega⟩
  obtain ⟨nm, hnm⟩ : ∃ nm, nmL b1 = nm := ⟨_, rfl⟩
  rw [hnm] at HNM HMAY
  obtain ⟨fx, hfx⟩ : ∃ fx, sizedF ⟨nm, 77, 0, 0⟩ 0 = fx := ⟨_, rfl⟩
  have HFX := keepHid hfx
  clear hT hE h0 g0 h1 l1 s1 hba hka hSa hnm hfx
  go_enter Tryz.func8, Tryz.ntmps8
  go_wp2_with fail
  with_reducible refine HAW.out.mono ?_
  rintro e w1 ⟨rfl, hb1⟩
  have hk1 := HKA.out.below hb1 HKA.out.lt
  have hB1 := HBA.out.trans (hb1.mono HBA.out.size)
  have cc1 : w1.cell? ⟨w.heap.size, 1, none⟩ = some (.int .i64 z0) := hk1.cell 1
  have cf := hk1.frozen
  obtain ⟨w2, hw2⟩ : ∃ w2, w1.setCell ⟨w.heap.size, 1, none⟩ (.int .i64 z1) = w2 := ⟨_, rfl⟩
  have hb2 : Below w.heap.size w w2 := by rw [← hw2]; exact hB1.setCell (Nat.le_refl _) _
  have hk2 : Blk w2 w.heap.size 23 #[.int .i64 y0, .int .i64 z1] := by rw [← hw2]; exact hk1.put 1 _
  have HS2 : Hid (Std w w2) := keepHid ⟨HSA.out.tabs, HSA.out.errs, hb2⟩
  have HB2 := keepHid hb2
  have HK2 := keepHid hk2
  have HCS : Hid (∀ w', Below w2.heap.size w2 w' → w'.cell? ⟨w.heap.size, 0, none⟩ = some (.int .i64 y0) ∧ w'.cell? ⟨w.heap.size, 1, none⟩ = some (.int .i64 z1) ∧ Below w2.heap.size w2 w') := keepHid (fun w' hb => by
    have hk := HK2.out.below hb HK2.out.lt
    exact ⟨hk.cell 0, hk.cell 1, hb⟩)
  have HNM2 : Hid (∀ w', Below w2.heap.size w2 w' → Calls Tryz.prog 10 #[.slice a1 n1 c1] w' fun e w'' => e = .returned (.string (strB nm)) ∧ w' = w'') := keepHid (fun w' hb => HNM.out w' (HB2.out.trans (hb.mono HB2.out.size)))
  have HOF : Hid (∀ w', Below w2.heap.size w2 w' → Calls Tryz.prog 12 #[.agg #[.int .i64 y0, .int .i64 z1], .agg #[.string (strB nm), .int .i64 77, .int .i64 0, .int .i64 0], .slice none 0 0] w' fun e w'' => ∃ G, e = .returned (.tuple #[.pointer (some ⟨G, 0, none⟩), .nilIface]) ∧ Snt w fx [] y0 z1 G w'' ∧ Below w'.heap.size w' w'') := keepHid (fun w' hb => by
    rw [← HFX.out]
    exact of_law y0 z1 ⟨nm, 77, 0, 0⟩ none 0 0 [] (HS2.out.below hb) Bys.none_ (Nat.le_refl _) (by omega) HMAY.out)
  clear hb1 hk1 hB1 hb2 hk2 hwa
  go_wp2_with fail
  go_upto_region 4 with fail
  clear hw2 cc1 cf ht hv hu hz t1 t2 v1' v2' u1 u2
  go_region_held3 (fun w' => w'.cell? ⟨w.heap.size, 0, none⟩ = some (.int .i64 y0) ∧ w'.cell? ⟨w.heap.size, 1, none⟩ = some (.int .i64 z1) ∧ Below w2.heap.size w2 w') (exact HCS.out _ (by (repeat (first | (with_reducible exact Below.refl _ _) | (with_reducible exact HB23.out) | (with_reducible refine Below.drew ?_)))))
    (first
      | (go_at_call 10; (with_reducible refine (HNM2.out _ (by (repeat (first | (with_reducible exact Below.refl _ _) | (with_reducible refine Below.drew ?_))))).mono ?_); rintro e w' ⟨rfl, rfl⟩)
      | (go_at_call 12; (with_reducible refine (HOF.out _ (by (repeat (first | (with_reducible exact Below.refl _ _) | (with_reducible refine Below.drew ?_))))).mono ?_); rintro e w3 ⟨G1, rfl, hs3, hb3⟩; have HB23 := keepHid (bel2 (a := w2) (by (repeat (first | (with_reducible exact Below.refl _ _) | (with_reducible refine Below.drew ?_)))) hb3); have HS3 := keepHid hs3; clear hs3 hb3))
  all_goals
    have hk3 := HK2.out.below HB23.out HK2.out.lt
    have b0 : w3.cell? ⟨w.heap.size, 0, none⟩ = some (.int .i64 y0) := hk3.cell 0
    have b1' : w3.cell? ⟨w.heap.size, 1, none⟩ = some (.int .i64 z1) := hk3.cell 1
    have HTK := keepHid (take_law HS3.out (Below.refl _ _))
    have HB3 := keepHid (HB2.out.trans (HB23.out.mono HB2.out.size))
    clear hk3
    go_wp2_with fail
    with_reducible refine HTK.out.mono ?_
    rintro e w4 ⟨G2, rfl, ht4, hb4⟩
    have HTL := keepHid (talk_lit ht4 20 20 rfl (by decide) (by decide) (by decide) hz1)
    have HB4 := keepHid (HB3.out.trans (hb4.mono HB3.out.size))
    clear ht4 hb4 b0 b1'
    go_wp2_with fail
    with_reducible refine HTL.out.mono ?_
    rintro e w5 ⟨rfl, he5, hb5⟩
    have HSD := keepHid he5.sdone
    have HB5 := keepHid (HB4.out.trans hb5)
    clear he5 hb5
    go_wp2_with fail
    with_reducible refine HSD.out.mono ?_
    rintro e w6 ⟨rfl, hw6, he6⟩
    have HRD := keepHid he6.rdone
    have HB6 : Hid (Below w.heap.size w w6) := keepHid (by rw [hw6]; exact HB5.out.drew)
    clear he6 hw6
    go_wp2_with fail
    with_reducible refine HRD.out.mono ?_
    rintro e w7 ⟨rfl, hw7, he7⟩
    have HDT := keepHid (he7.data (n := 0) rfl)
    have HE7 := keepHid he7
    have HB7 : Hid (Below w.heap.size w w7) := keepHid (by rw [hw7]; exact HB6.out.drew)
    clear he7 hw7
    go_wp2_with fail
    with_reducible refine HDT.out.mono ?_
    rintro e w8 ⟨A8, c8, rfl, hy8, hc81, hc82, hb8⟩
    have hfl := (HE7.out.below hb8).file
    rw [← HFX.out] at hfl
    unfold sizedF flV flCells at hfl
    simp only at hfl
    have HFL := keepHid hfl
    have HB8 := keepHid (HB7.out.trans (hb8.mono HB7.out.size))
    clear hy8 hb8 hfl
    go_wp2_with fail
    with_reducible refine HFL.out.mono ?_
    rintro e w9 ⟨rfl, hb9⟩
    have HB9 := keepHid (HB8.out.trans (hb9.mono HB8.out.size))
    have HNM9 := keepHid (HNM.out w9 HB9.out)
    have heq : ∀ W : World, (binOp .eql 30 (.agg #[.string (strB nm), .int .i64 ((0 : Nat) : Int), .int .i64 0, .int .i64 0]) (.agg #[.string (strB nm), .int .i64 0, .int .i64 0, .int .i64 0])).run Tryz.prog W = .ok (.bool true) W := fun W => by
      have := eq_file ⟨nm, 0, 0, 0⟩ ⟨nm, 0, 0, 0⟩ W
      rw [decide_eq_true rfl] at this
      exact this
    have heq0 : ∀ W : World, (binOp .eql 30 (.agg #[.string (strB nm), .int .i64 0, .int .i64 0, .int .i64 0]) (.agg #[.string (strB nm), .int .i64 0, .int .i64 0, .int .i64 0])).run Tryz.prog W = .ok (.bool true) W := heq
    clear hb9
    go_wp2_with fail
    with_reducible refine HNM9.out.mono ?_
    rintro e w10 ⟨rfl, rfl⟩
    go_wp2
    go_ret
    exact ⟨rfl, HB9.out⟩

set_option maxRecDepth 100000 in
theorem lifted (os : Os) (started : os.Started) (H : Type) (enc : TypeId × Value → H) :
    ReturnsInHanded {} Tryz.checked os 8 .any (fun w args => (Rows.batchEmptySpec.pre enc Tryz.prog Tryz.f8 [] false w args ∧ laidMetH Tryz.prog laid5 w) ∧ sizedMet enc Tryz.prog Tryz.f8 (OpenSpec.ofChange Rows.batchEmptySpec) false w args) (Rows.batchEmptySpec.post enc Tryz.prog Tryz.f8 false true false false) := by
  refine returnsInHanded_of_change_and (C := Tryz.checked) (X := fun w _ => laidMetH Tryz.prog laid5 w) (fun _ _ _ hh h => h.of_heap hh) own started (by kernel_rfl) Tryz.func8
    (ChangeSpec.witness_shaped (enc := enc) (C := Tryz.checked) (os := os) (X := fun w _ => laidMetH Tryz.prog laid5 w) false (World.doorLaid Tryz.prog 400 os) #[.agg #[.int .i64 0, .int .i64 0], .slice none 0 0] 8 rfl (World.shaped_of_RefB (by kernel_rfl) (by kernel_rfl)) (by kernel_rfl) (by kernel_rfl) (by kernel_rfl) (door5 os _)) ?_
  intro W base args ds gs before hval0 hW hcnd hsz0 hL _
  have hsz : (DataW.weightsEach Tryz.prog (Tryz.f8.params.toList ++ Rows.batchEmptySpec.plain.varTypes Tryz.prog) (ds ++ gs)).all (· ≤ reachBytes) = true := hsz0
  clear hsz0
  have hval : ∀ (j : Nat) t v, Tryz.f8.params[j]? = some t → args[j]? = some v → Value.okWide Tryz.prog W .any base t v := hval0
  have hW' := hW
  obtain ⟨p, q, hA0, hV, rfl, hfz, hnd⟩ := hW
  have hA : DataW.TrodAll enc Tryz.prog W 0 (fun _ => true) true Tryz.f8.params.toList args.toList ds p := hA0
  rw [Tryz.params8] at hA hval hsz
  obtain ⟨v0, vs0, d0, ds0, p0, q0, hargs, rfl, rfl, h0, r0⟩ := trodAll_cons hA
  obtain ⟨v1, vs1, d1, ds1, p1, q1, rfl, rfl, rfl, h1, r1⟩ := trodAll_cons r0
  obtain ⟨rfl, rfl, rfl⟩ := trodAll_nil r1
  obtain rfl : args = #[v0, v1] := by cases args; simp_all
  obtain ⟨rfl, rfl⟩ := trodVars_none hV
  have k0 := h0
  have lt0 : ∀ x ∈ p0, x.block < W.heap.size := by obtain ⟨m, hm⟩ := k0; exact DataW.trod_lt m _ _ _ hm
  have k1 := h1
  have lt1 : ∀ x ∈ p1, x.block < W.heap.size := by obtain ⟨m, hm⟩ := k1; exact DataW.trod_lt m _ _ _ hm
  obtain ⟨y0, z0, rfl, w0, u0⟩ := open_two Tryz.underlying23 ⟨rfl, rfl⟩ ⟨rfl, rfl⟩ Tryz.underlying3 (by kernel_rfl) (by kernel_rfl) (hval 0 23 v0 rfl rfl) h0
  obtain ⟨a1, n1, c1, b1, rfl, w1, l1, s1⟩ := open_bys Tryz.underlying24 Tryz.underlying5 (by kernel_rfl) (by kernel_rfl) (hval 1 24 v1 rfl rfl) (fun _ => rfl) h1 (fun el sp hd => sized_slice hsz (j := 1) (t := 24) (e := 5) rfl (by rw [hd]; rfl) Tryz.underlying24)
  clear hA0 hval0
  refine (walk y0 z0 a1 n1 c1 b1 W (tabs5 hL) (errs5 hL) w0 u0 w1 l1 s1).mono fun e W' ⟨he, bel⟩ => ?_
  subst he
  exact ⟨_, rfl, _, _, _, [], _, [], hW', trodAll_mk1 (shut_bool Tryz.underlying4 _), (trodAll_cons_mk (Below.trod laidOut (by kernel_rfl) (of_decide_eq_true (by kernel_rfl)) k0 bel lt0) (trodAll_cons_mk (Below.trod laidOut (by kernel_rfl) (of_decide_eq_true (by kernel_rfl)) k1 bel lt1) trodAll_mk0)), rfl, bel.frame _, fun h => by cases h⟩

theorem over : Rows.batchEmptyRow.holds Tryz.pinned (OpenSpec.ofChange Rows.batchEmptySpec) :=
  OpenClaim.holds_of_wide 8 Tryz.f8 rfl rfl rfl rfl rfl rfl rfl ⟨rfl, rfl, rfl, rfl, rfl⟩ rfl rfl rfl rfl rfl (by kernel_rfl) Tryz.func8 (by kernel_rfl)
    (of_decide_eq_true (by kernel_rfl)) (by unfold Func.isWrapper; first | (rw [if_pos (by decide +kernel)]; kernel_rfl) | (rw [if_neg (by decide +kernel)]; exact ⟨rfl, rfl⟩))
    (fun os started H enc _ => lifted os started H enc)

/-- The card: what the row lists is tied to the program's own text. -/
theorem proved : Rows.BatchEmptyCardSaid :=
  Claim7.holds_tied_plain_at .later [] [.data, .data, .data, .sentinel, .sentinel] true Rows.batchEmptyCard.stood.harness true
    over (fun _ h => by cases h) (by kernel_rfl) (fun _ h => by cases h) batchEmpty_row_tie rfl ⟨rfl, rfl⟩ (by kernel_rfl) rfl
    (fun f fn hf hfn => by
      obtain rfl : f = 8 := Option.some.inj ((show Tryz.prog.funcNamed "lifeline/lifelinelaw13.BatchEmpty" = some 8 by kernel_rfl).symm.trans hf) |>.symm
      obtain rfl : fn = Tryz.f8 := (Option.some.inj (Tryz.func8.symm.trans hfn)).symm
      exact ⟨by kernel_rfl, fun j t ht => by
        rw [Tryz.params8] at ht
        have hm : t ∈ [23, 24] := by simpa using Array.mem_of_getElem? ht
        have hall : ([23, 24].all fun u => !Tryz.prog.wantsStandIn u) = true := by kernel_rfl
        exact (show Tryz.prog.wantsStandIn t = false by simpa using List.all_eq_true.1 hall t hm)⟩)
    (by kernel_rfl)
end Go.Proofs.YtgdjopiejmdbnaaGreatDoor.batchEmpty
