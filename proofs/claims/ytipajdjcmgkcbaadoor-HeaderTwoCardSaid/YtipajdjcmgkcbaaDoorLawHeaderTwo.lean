/-
  'lifelinelaw05.HeaderTwo' answers true for every input of the row, and leaves its arguments as they were.
  Conditions: the package-level variables that the row lists lie as the program's own text lays them (the card ties them to it; what is pinned is a constant of the library's).
-/
import Derived.Test.YtipajdjcmgkcbaaDoorRows
import Derived.Test.YtipajdjcmgkcbaaDoorHeaderEq
import Derived.Test.YtipajdjcmgkcbaaDoorFrame
import Derived.Test.YtipajdjcmgkcbaaDoorFrameDoor
import Derived.Test.YtipajdjcmgkcbaaDoorCards
import Derived.WalkKit
import Derived.ProofKit
import Derived.OpenShut
import Derived.ShutString
import Derived.ChangeOld
import Derived.Below
import Derived.WalkLawsBesides
import Derived.IntWalk
import Derived.RegionTactic
import Derived.Deep.QuietTactic
import Derived.BigQuiet
import Derived.Deep.RegionHeld3
import Derived.Deep.DrawnRows
namespace Go.Proofs.YtipajdjcmgkcbaaDoor.headerTwo
open Go.ChangeShapes Go.WideShapes Go.ChangeAt Go.RowKit
open Go.ChangeMaps (open_string shut_string)
set_option linter.unusedVariables false

theorem own : ownKnob Tryd.prog.godebug = none := by kernel_rfl
theorem laidOut : laidOutB Tryd.prog = true := by kernel_rfl

theorem two_blk (w : World) (o : Obj) (t : TypeId) (cs : Array Value) : Blk ((w.alloc o).alloc (.cells cs t)) (w.heap.size + 1) t cs := by
  have h := Blk.new (w.alloc o) t cs
  have e : (w.alloc o).heap.size = w.heap.size + 1 := by simp
  rw [e] at h
  exact h
set_option maxHeartbeats 4000000 in
theorem walk (f0 : Fl) (f1 : Fl) (a2 : Option Addr) (n2 c2 : Nat) (b2 : List UInt8) (a3 : Option Addr) (n3 c3 : Nat) (b3 : List UInt8) (x4 : Int) (w : World) (hT : Tabs w) (h0 : Fits f0) (h1 : Fits f1) (h2 : Bys w w.heap.size a2 n2 b2) (l2 : n2 ≤ c2) (s2 : c2 ≤ 140737488351232) (h3 : Bys w w.heap.size a3 n3 b3) (l3 : n3 ≤ c3) (s3 : c3 ≤ 140737488351232) (h4 : 0 ≤ x4 ∧ x4 ≤ 65535) :
    Calls Tryd.prog 7 #[flV f0, flV f1, .slice a2 n2 c2, .slice a3 n3 c3, .int .u16 x4] w fun e w' => e = .returned (.bool true) ∧ Below w.heap.size w w' := by
  obtain ⟨l, a, b, c⟩ := f0
  obtain ⟨m, x, y, z⟩ := f1
  obtain ⟨w0, hw0⟩ : ∃ w0, (w.alloc (.cells #[.string (strB l), .int .i64 a, .int .i64 b, .int .i64 c] 23)).alloc (.cells #[.string (strB m), .int .i64 x, .int .i64 y, .int .i64 z] 23) = w0 := ⟨_, rfl⟩
  have hk1 : Blk w0 w.heap.size 23 (flCells ⟨l, a, b, c⟩) := by rw [← hw0]; exact (Blk.new w _ _).alloc _
  have hk2 : Blk w0 (w.heap.size + 1) 23 (flCells ⟨m, x, y, z⟩) := by rw [← hw0]; exact two_blk _ _ _ _
  have hb0 : Below w.heap.size w w0 := by rw [← hw0]; exact ((Below.refl _ _).alloc (Nat.le_refl _) _).alloc (by simp) _
  have HF := keepHid (fileAt_blk hk1)
  have HG := keepHid (fileAt_blk hk2)
  have HB0 := keepHid hb0
  have HT0 := keepHid (hT.below hb0 (Nat.le_refl _))
  have H2 := keepHid ((h2.below hb0).more hb0.size)
  have H3 := keepHid ((h3.below hb0).more hb0.size)
  have HFL := keepHid h0
  have HGL := keepHid h1
  clear hk1 hk2 hb0 h2 h3 hT h0 h1
  obtain ⟨u, rfl⟩ : ∃ u : Nat, x4 = (u : Int) := ⟨x4.toNat, by omega⟩
  show Calls Tryd.prog 7 #[.agg #[.string (strB l), .int .i64 a, .int .i64 b, .int .i64 c], .agg #[.string (strB m), .int .i64 x, .int .i64 y, .int .i64 z], .slice a2 n2 c2, .slice a3 n3 c3, .int .u16 (u : Int)] w _
  go_enter Tryd.func7, Tryd.ntmps7
  go_wp2_with fail
  refine (awake_any _ HT0.out).mono ?_
  rintro e w1 ⟨rfl, hb1⟩
  have HN1 := keepHid (nm_any a2 n2 c2 _ b2 w1 (H2.out.below hb1))
  have HN2 := keepHid (nm_any a3 n3 c3 _ b3 w1 (H3.out.below hb1))
  have hM1 := nm_name b2
  have hM2 := nm_name b3
  generalize nmL b2 = N1 at *
  generalize nmL b3 = N2 at *
  obtain ⟨s1, hs1⟩ : ∃ s, u % 100 = s := ⟨_, rfl⟩
  obtain ⟨s2, hs2⟩ : ∃ s, u / 100 % 100 = s := ⟨_, rfl⟩
  have e1 : (u : Int) % 100 = (s1 : Int) := by omega
  have e2 : (u : Int) / 100 % 100 = (s2 : Int) := by omega
  have HM1 : Hid (May ⟨N1, s1, 0, 0⟩) := keepHid ((mayB_iff _).1 (by unfold mayB; simp only [hM1, Bool.true_and, Bool.and_eq_true, decide_eq_true_eq]; omega))
  have HM2 : Hid (May ⟨N2, s2, 0, 0⟩) := keepHid ((mayB_iff _).1 (by unfold mayB; simp only [hM2, Bool.true_and, Bool.and_eq_true, decide_eq_true_eq]; omega))
  obtain ⟨w2, hw2⟩ : ∃ w2, (w1.alloc (.cells #[.string (strB N1), .int .i64 (s1 : Int), .int .i64 0, .int .i64 0] 23)).alloc (.cells #[.string (strB N2), .int .i64 (s2 : Int), .int .i64 0, .int .i64 0] 23) = w2 := ⟨_, rfl⟩
  have hk1 : Blk w2 w1.heap.size 23 (flCells ⟨N1, s1, 0, 0⟩) := by rw [← hw2]; exact (Blk.new w1 _ _).alloc _
  have hk2 : Blk w2 (w1.heap.size + 1) 23 (flCells ⟨N2, s2, 0, 0⟩) := by rw [← hw2]; exact two_blk _ _ _ _
  have hb2 : Below w1.heap.size w1 w2 := by rw [← hw2]; exact ((Below.refl _ _).alloc (Nat.le_refl _) _).alloc (by simp) _
  have f1 := fileAt_blk hk1
  have f2 := fileAt_blk hk2
  have hc10 := f1.c0; have hc11 := f1.c1; have hc12 := f1.c2; have hc13 := f1.c3
  have hc20 := f2.c0; have hc21 := f2.c1; have hc22 := f2.c2; have hc23 := f2.c3
  have HW2 := keepHid hw2
  have HF1 := keepHid f1
  have HF2 := keepHid f2
  have HB1 := keepHid (HB0.out.trans (hb1.mono HB0.out.size))
  have HB2 := keepHid (HB1.out.trans (hb2.mono HB1.out.size))
  have HT2 := keepHid ((HT0.out.below hb1 (Nat.le_refl _)).below hb2 (Nat.le_refl _))
  have HFF := keepHid ((HF.out.below hb1 HF.out.lt).below hb2 (Nat.lt_of_lt_of_le HF.out.lt hb1.size))
  have HGG := keepHid ((HG.out.below hb1 HG.out.lt).below hb2 (Nat.lt_of_lt_of_le HG.out.lt hb1.size))
  clear hw2 hs1 hs2 hM1 hM2 hw0 HF HG hk1 hk2 f1 f2 hb1 hb2
  go_wp2_with (first
    | ((with_reducible refine HN1.out.mono ?_); rintro e w' ⟨rfl, rfl⟩)
    | ((with_reducible refine HN2.out.mono ?_); rintro e w' ⟨rfl, rfl⟩))
  rw [HW2.out]
  refine (hmake_ok ⟨N1, s1, 0, 0⟩ HM1.out _ HT2.out).mono ?_
  rintro e w3 ⟨g3, rfl, hg3, hk3, hb3⟩
  clear hc10 hc11 hc12 hc13 hc20 hc21 hc22 hc23
  have hF23 := HF2.out.below hb3 HF2.out.lt
  have hc20 := hF23.c0; have hc21 := hF23.c1; have hc22 := hF23.c2; have hc23 := hF23.c3
  have HB3 := keepHid (HB2.out.trans (hb3.mono HB2.out.size))
  go_wp2_with fail
  refine (hmake_ok ⟨N2, s2, 0, 0⟩ HM2.out _ (HT2.out.below hb3 (Nat.le_refl _))).mono ?_
  rintro e w4 ⟨g4, rfl, hg4, hk4, hb4⟩
  have hb24 := hb3.trans (hb4.mono hb3.size)
  have hF14 := HF1.out.below hb24 HF1.out.lt
  have hF24 := hF23.below hb4 hF23.lt
  have HFF4 := keepHid (HFF.out.below hb24 HFF.out.lt)
  have HGG4 := keepHid (HGG.out.below hb24 HGG.out.lt)
  have HT4 := keepHid (HT2.out.below hb24 (Nat.le_refl _))
  have HB4 := keepHid (HB3.out.trans (hb4.mono HB3.out.size))
  clear hc20 hc21 hc22 hc23
  have hc10 := hF14.c0; have hc11 := hF14.c1; have hc12 := hF14.c2; have hc13 := hF14.c3
  have hc20 := hF24.c0; have hc21 := hF24.c1; have hc22 := hF24.c2; have hc23 := hF24.c3
  have hcv1 : ∀ k, (convert 24 9 (.slice (some ⟨g3, 0, none⟩) 128 128)).run Tryd.prog (w4.drewN k) = .ok (.string (strB (encL ⟨N1, s1, 0, 0⟩))) (w4.drewN k) := fun k =>
    run_str 24 5 9 Tryd.underlying24 Tryd.underlying5 Tryd.underlying9 ((mk_bys (hk3.below hb4 hk3.lt) (enc_len HM1.out)).drewN k)
  have hcv2 : ∀ k, (convert 24 9 (.slice (some ⟨g4, 0, none⟩) 128 128)).run Tryd.prog (w4.drewN k) = .ok (.string (strB (encL ⟨N2, s2, 0, 0⟩))) (w4.drewN k) := fun k =>
    run_str 24 5 9 Tryd.underlying24 Tryd.underlying5 Tryd.underlying9 ((mk_bys hk4 (enc_len HM2.out)).drewN k)
  obtain ⟨q, hq⟩ : ∃ q, decide ((⟨N1, s1, 0, 0⟩ : Fl) = ⟨N2, s2, 0, 0⟩) = q := ⟨_, rfl⟩
  have hse : ((strB (encL ⟨N1, s1, 0, 0⟩)).toList == (strB (encL ⟨N2, s2, 0, 0⟩)).toList) = q := by
    rw [strB_beq, ← hq]
    exact decide_eq_decide.2 ⟨fun h => enc_inj HM1.out HM2.out h, fun h => by rw [h]⟩
  have hfe : ∀ W, (binOp .eql 23 (.agg #[.string (strB N1), .int .i64 (s1 : Int), .int .i64 0, .int .i64 0]) (.agg #[.string (strB N2), .int .i64 (s2 : Int), .int .i64 0, .int .i64 0])).run Tryd.prog W = .ok (.bool q) W := fun W => by
    rw [← hq]; exact eq_file ⟨N1, s1, 0, 0⟩ ⟨N2, s2, 0, 0⟩ W
  generalize encL ⟨N1, s1, 0, 0⟩ = E1 at *
  generalize encL ⟨N2, s2, 0, 0⟩ = E2 at *
  clear hk3 hk4 hb3 hb4 hb24 hF14 hF24 hF23 hq HW2 HN1 HN2
  generalize w1.heap.size = k1 at *
  cases q
  all_goals
    go_wp2
    go_quiet (fail)
    have HFF5 : Hid (FileAt (w4.drewN nq) w.heap.size ⟨l, a, b, c⟩) := keepHid ⟨HFF4.out.c0, HFF4.out.c1, HFF4.out.c2, HFF4.out.c3⟩
    have HGG5 : Hid (FileAt (w4.drewN nq) (w.heap.size + 1) ⟨m, x, y, z⟩) := keepHid ⟨HGG4.out.c0, HGG4.out.c1, HGG4.out.c2, HGG4.out.c3⟩
    have HT5 : Hid (Tabs (w4.drewN nq)) := keepHid (HT4.out.below (below_drewN (Below.refl _ _) nq) (Nat.le_refl _))
    have HB5 : Hid (Below w.heap.size w (w4.drewN nq)) := keepHid (below_drewN HB4.out nq)
    clear hcv1 hcv2 hfe hse hc10 hc11 hc12 hc13 hc20 hc21 hc22 hc23
    generalize w4.drewN nq = w5 at *
    have hc10 := HFF5.out.c0; have hc11 := HFF5.out.c1; have hc12 := HFF5.out.c2; have hc13 := HFF5.out.c3
    go_wp2_with fail
    refine (make_any ⟨l, a, b, c⟩ HFL.out.name _ HT5.out).mono ?_
    rintro e w6 ⟨⟨A6, n6, c6, E6, rfl, hy6, hn6, hc6, he6⟩, hb6⟩
    have HGG6 := keepHid (HGG5.out.below hb6 HGG5.out.lt)
    clear hc10 hc11 hc12 hc13
    have hc20 := HGG6.out.c0; have hc21 := HGG6.out.c1; have hc22 := HGG6.out.c2; have hc23 := HGG6.out.c3
    go_wp2_with fail
    refine (make_any ⟨m, x, y, z⟩ HGL.out.name _ (HT5.out.below hb6 (Nat.le_refl _))).mono ?_
    rintro e w7 ⟨⟨A7, n7, c7, E7, rfl, hy7, hn7, hc7, he7⟩, hb7⟩
    have hb57 := hb6.trans (hb7.mono hb6.size)
    have hFF7 := HFF5.out.below hb57 HFF5.out.lt
    have hGG7 := HGG6.out.below hb7 HGG6.out.lt
    have HB7 := keepHid (HB5.out.trans (hb57.mono HB5.out.size))
    clear hc20 hc21 hc22 hc23
    have hc10 := hFF7.c0; have hc11 := hFF7.c1; have hc12 := hFF7.c2; have hc13 := hFF7.c3
    have hc20 := hGG7.c0; have hc21 := hGG7.c1; have hc22 := hGG7.c2; have hc23 := hGG7.c3
    have hcv1 : ∀ k, (convert 24 9 (.slice A6 n6 c6)).run Tryd.prog (w7.drewN k) = .ok (.string (strB E6)) (w7.drewN k) := fun k =>
      run_str 24 5 9 Tryd.underlying24 Tryd.underlying5 Tryd.underlying9 ((hy6.below hb7).drewN k)
    have hcv2 : ∀ k, (convert 24 9 (.slice A7 n7 c7)).run Tryd.prog (w7.drewN k) = .ok (.string (strB E7)) (w7.drewN k) := fun k =>
      run_str 24 5 9 Tryd.underlying24 Tryd.underlying5 Tryd.underlying9 (hy7.drewN k)
    obtain ⟨q, hq⟩ : ∃ q, decide ((⟨l, a, b, c⟩ : Fl) = ⟨m, x, y, z⟩) = q := ⟨_, rfl⟩
    have hse : mayB ⟨l, a, b, c⟩ = true → mayB ⟨m, x, y, z⟩ = true → ((strB E6).toList == (strB E7).toList) = q := by
      intro h1 h2
      rw [he6, he7, if_pos h1, if_pos h2, strB_beq, ← hq]
      exact decide_eq_decide.2 ⟨fun h => enc_inj ((mayB_iff _).1 h1) ((mayB_iff _).1 h2) h, fun h => by rw [h]⟩
    have hfe : ∀ W, (binOp .eql 23 (.agg #[.string (strB l), .int .i64 a, .int .i64 b, .int .i64 c]) (.agg #[.string (strB m), .int .i64 x, .int .i64 y, .int .i64 z])).run Tryd.prog W = .ok (.bool q) W := fun W => by
      rw [← hq]; exact eq_file ⟨l, a, b, c⟩ ⟨m, x, y, z⟩ W
    clear he6 he7 hq hFF7 hGG7 hy6 hy7 hb6 hb7 hb57 HFL HGL HM1 HM2
    generalize mayB ⟨l, a, b, c⟩ = p1 at *
    generalize mayB ⟨m, x, y, z⟩ = p2 at *
    have HSE := keepHid hse
    clear hse
    cases p1
    · go_wp2
      go_quiet (fail)
      go_wp2
      go_ret
      exact ⟨rfl, below_drewN HB7.out nq⟩
    · cases p2
      · go_wp2
        go_quiet (fail)
        go_wp2
        go_ret
        exact ⟨rfl, below_drewN HB7.out nq⟩
      · have hse := HSE.out rfl rfl
        clear HSE
        cases q
        all_goals
          go_wp2
          go_quiet (fail)
          go_wp2
          go_ret
          exact ⟨rfl, below_drewN HB7.out nq⟩

set_option maxRecDepth 100000 in
theorem lifted (os : Os) (started : os.Started) (H : Type) (enc : TypeId × Value → H) :
    ReturnsInHanded {} Tryd.checked os 7 .any (fun w args => (Rows.headerTwoSpec.pre enc Tryd.prog Tryd.f7 [] false w args ∧ laidMetH Tryd.prog laid3 w) ∧ sizedMet enc Tryd.prog Tryd.f7 (OpenSpec.ofChange Rows.headerTwoSpec) false w args) (Rows.headerTwoSpec.post enc Tryd.prog Tryd.f7 false true false false) := by
  refine returnsInHanded_of_change_and (C := Tryd.checked) (X := fun w _ => laidMetH Tryd.prog laid3 w) (fun _ _ _ hh h => h.of_heap hh) own started (by kernel_rfl) Tryd.func7
    (ChangeSpec.witness_shaped (enc := enc) (C := Tryd.checked) (os := os) (X := fun w _ => laidMetH Tryd.prog laid3 w) false (World.doorLaid Tryd.prog 400 os) #[.agg #[.string ⟨#[]⟩, .int .i64 0, .int .i64 0, .int .i64 0], .agg #[.string ⟨#[]⟩, .int .i64 0, .int .i64 0, .int .i64 0], .slice none 0 0, .slice none 0 0, .int .u16 0] 8 rfl (World.shaped_of_RefB (by kernel_rfl) (by kernel_rfl)) (by kernel_rfl) (by kernel_rfl) (by kernel_rfl) (door3 os _)) ?_
  intro W base args ds gs before hval0 hW hcnd hsz0 hL _
  have hsz : (DataW.weightsEach Tryd.prog (Tryd.f7.params.toList ++ Rows.headerTwoSpec.plain.varTypes Tryd.prog) (ds ++ gs)).all (· ≤ reachBytes) = true := hsz0
  clear hsz0
  have hval : ∀ (j : Nat) t v, Tryd.f7.params[j]? = some t → args[j]? = some v → Value.okWide Tryd.prog W .any base t v := hval0
  have hW' := hW
  obtain ⟨p, q, hA0, hV, rfl, hfz, hnd⟩ := hW
  have hA : DataW.TrodAll enc Tryd.prog W 0 (fun _ => true) true Tryd.f7.params.toList args.toList ds p := hA0
  rw [Tryd.params7] at hA hval hsz
  obtain ⟨v0, vs0, d0, ds0, p0, q0, hargs, rfl, rfl, h0, r0⟩ := trodAll_cons hA
  obtain ⟨v1, vs1, d1, ds1, p1, q1, rfl, rfl, rfl, h1, r1⟩ := trodAll_cons r0
  obtain ⟨v2, vs2, d2, ds2, p2, q2, rfl, rfl, rfl, h2, r2⟩ := trodAll_cons r1
  obtain ⟨v3, vs3, d3, ds3, p3, q3, rfl, rfl, rfl, h3, r3⟩ := trodAll_cons r2
  obtain ⟨v4, vs4, d4, ds4, p4, q4, rfl, rfl, rfl, h4, r4⟩ := trodAll_cons r3
  obtain ⟨rfl, rfl, rfl⟩ := trodAll_nil r4
  obtain rfl : args = #[v0, v1, v2, v3, v4] := by cases args; simp_all
  obtain ⟨rfl, rfl⟩ := trodVars_none hV
  have k0 := h0
  have lt0 : ∀ x ∈ p0, x.block < W.heap.size := by obtain ⟨m, hm⟩ := k0; exact DataW.trod_lt m _ _ _ hm
  have k1 := h1
  have lt1 : ∀ x ∈ p1, x.block < W.heap.size := by obtain ⟨m, hm⟩ := k1; exact DataW.trod_lt m _ _ _ hm
  have k2 := h2
  have lt2 : ∀ x ∈ p2, x.block < W.heap.size := by obtain ⟨m, hm⟩ := k2; exact DataW.trod_lt m _ _ _ hm
  have k3 := h3
  have lt3 : ∀ x ∈ p3, x.block < W.heap.size := by obtain ⟨m, hm⟩ := k3; exact DataW.trod_lt m _ _ _ hm
  have k4 := h4
  have lt4 : ∀ x ∈ p4, x.block < W.heap.size := by obtain ⟨m, hm⟩ := k4; exact DataW.trod_lt m _ _ _ hm
  obtain ⟨f0, rfl, w0⟩ := open_file Tryd.underlying23 ⟨rfl, rfl⟩ ⟨rfl, rfl⟩ ⟨rfl, rfl⟩ ⟨rfl, rfl⟩ Tryd.underlying9 Tryd.underlying3 (by kernel_rfl) (by kernel_rfl) (by kernel_rfl) (hval 0 23 v0 rfl rfl) h0
  obtain ⟨f1, rfl, w1⟩ := open_file Tryd.underlying23 ⟨rfl, rfl⟩ ⟨rfl, rfl⟩ ⟨rfl, rfl⟩ ⟨rfl, rfl⟩ Tryd.underlying9 Tryd.underlying3 (by kernel_rfl) (by kernel_rfl) (by kernel_rfl) (hval 1 23 v1 rfl rfl) h1
  obtain ⟨a2, n2, c2, b2, rfl, w2, l2, s2⟩ := open_bys Tryd.underlying24 Tryd.underlying5 (by kernel_rfl) (by kernel_rfl) (hval 2 24 v2 rfl rfl) (fun _ => rfl) h2 (fun el sp hd => sized_slice hsz (j := 2) (t := 24) (e := 5) rfl (by rw [hd]; rfl) Tryd.underlying24)
  obtain ⟨a3, n3, c3, b3, rfl, w3, l3, s3⟩ := open_bys Tryd.underlying24 Tryd.underlying5 (by kernel_rfl) (by kernel_rfl) (hval 3 24 v3 rfl rfl) (fun _ => rfl) h3 (fun el sp hd => sized_slice hsz (j := 3) (t := 24) (e := 5) rfl (by rw [hd]; rfl) Tryd.underlying24)
  obtain ⟨x4, rfl, rfl, rfl, w4⟩ := open_int Tryd.underlying25 (hval 4 25 v4 rfl rfl) h4
  clear hA0 hval0
  refine (walk f0 f1 a2 n2 c2 b2 a3 n3 c3 b3 x4 W (tabs3 hL) w0 w1 w2 l2 s2 w3 l3 s3 (wf_u16 w4)).mono fun e W' ⟨he, bel⟩ => ?_
  subst he
  exact ⟨_, rfl, _, _, _, [], _, [], hW', trodAll_mk1 (shut_bool Tryd.underlying4 _), (trodAll_cons_mk (Below.trod laidOut (by kernel_rfl) (of_decide_eq_true (by kernel_rfl)) k0 bel lt0) (trodAll_cons_mk (Below.trod laidOut (by kernel_rfl) (of_decide_eq_true (by kernel_rfl)) k1 bel lt1) (trodAll_cons_mk (Below.trod laidOut (by kernel_rfl) (of_decide_eq_true (by kernel_rfl)) k2 bel lt2) (trodAll_cons_mk (Below.trod laidOut (by kernel_rfl) (of_decide_eq_true (by kernel_rfl)) k3 bel lt3) (trodAll_cons_mk (Below.trod laidOut (by kernel_rfl) (of_decide_eq_true (by kernel_rfl)) k4 bel lt4) trodAll_mk0))))), rfl, bel.frame _, fun h => by cases h⟩

theorem over : Rows.headerTwoRow.holds Tryd.pinned (OpenSpec.ofChange Rows.headerTwoSpec) :=
  OpenClaim.holds_of_wide 7 Tryd.f7 rfl rfl rfl rfl rfl rfl rfl ⟨rfl, rfl, rfl, rfl, rfl⟩ rfl rfl rfl rfl rfl (by kernel_rfl) Tryd.func7 (by kernel_rfl)
    (of_decide_eq_true (by kernel_rfl)) (by unfold Func.isWrapper; first | (rw [if_pos (by decide +kernel)]; kernel_rfl) | (rw [if_neg (by decide +kernel)]; exact ⟨rfl, rfl⟩))
    (fun os started H enc _ => lifted os started H enc)

/-- The card: what the row lists is tied to the program's own text. -/
theorem proved : Rows.HeaderTwoCardSaid :=
  Claim7.holds_tied_plain_at .later [] [.data, .data, .data] true Rows.headerTwoCard.stood.harness true
    over (fun _ h => by cases h) (by kernel_rfl) (fun _ h => by cases h) headerTwo_row_tie rfl ⟨rfl, rfl⟩ (by kernel_rfl) rfl
    (fun f fn hf hfn => by
      obtain rfl : f = 7 := Option.some.inj ((show Tryd.prog.funcNamed "lifeline/lifelinelaw05.HeaderTwo" = some 7 by kernel_rfl).symm.trans hf) |>.symm
      obtain rfl : fn = Tryd.f7 := (Option.some.inj (Tryd.func7.symm.trans hfn)).symm
      exact ⟨by kernel_rfl, fun j t ht => by
        rw [Tryd.params7] at ht
        have hm : t ∈ [23, 23, 24, 24, 25] := by simpa using Array.mem_of_getElem? ht
        have hall : ([23, 23, 24, 24, 25].all fun u => !Tryd.prog.wantsStandIn u) = true := by kernel_rfl
        exact (show Tryd.prog.wantsStandIn t = false by simpa using List.all_eq_true.1 hall t hm)⟩)
    (by kernel_rfl)
end Go.Proofs.YtipajdjcmgkcbaaDoor.headerTwo
