/-
  'lifelinelaw13.BatchEnds' answers true for every input of the row, and leaves its arguments as they were.
  Conditions: the package-level variables that the row lists lie as the program's own text lays them (the card ties them to it; what is pinned is a constant of the library's).
-/
import Derived.Test.YtgdjopiejmdbnaaGreatDoorRows
import Derived.Test.YtgdjopiejmdbnaaGreatDoorBatchAlone
import Derived.Test.YtgdjopiejmdbnaaGreatDoorFrameTwo
import Derived.Test.YtgdjopiejmdbnaaGreatDoorFrame
import Derived.Test.YtgdjopiejmdbnaaGreatDoorFrameDoor
import Derived.Test.YtgdjopiejmdbnaaGreatDoorFrameSix
import Derived.Test.YtgdjopiejmdbnaaGreatDoorCards
import Derived.WalkKit
import Derived.ProofKit
import Derived.OpenShut
import Derived.ShutString
import Derived.ChangeOld
import Derived.Below
namespace Go.Proofs.YtgdjopiejmdbnaaGreatDoor.batchEnds
open Go.ChangeShapes Go.WideShapes Go.ChangeAt Go.RowKit
open Go.ChangeMaps (open_string shut_string)
set_option linter.unusedVariables false

theorem own : ownKnob Tryz.prog.godebug = none := by kernel_rfl
theorem laidOut : laidOutB Tryz.prog = true := by kernel_rfl

set_option maxRecDepth 100000 in
set_option maxHeartbeats 4000000 in
theorem walk (y0 z0 : Int) (a1 : Option Addr) (n1 c1 : Nat) (b1 : List UInt8) (x2 : Int) (w : World) (hT : Tabs w) (hE : Errs w) (hR : ErrT w) (h0 : -9223372036854775808 ≤ y0 ∧ y0 ≤ 9223372036854775807) (g0 : -9223372036854775808 ≤ z0 ∧ z0 ≤ 9223372036854775807) (h1 : Bys w w.heap.size a1 n1 b1) (l1 : n1 ≤ c1) (s1 : c1 ≤ 140737488351232) (h2 : 0 ≤ x2 ∧ x2 ≤ 65535) :
    Calls Tryz.prog 7 #[.agg #[.int .i64 y0, .int .i64 z0], .slice a1 n1 c1, .int .u16 x2] w fun e w' => e = .returned (.bool true) ∧ Below w.heap.size w w' := by
  have hT0 := hT
  obtain ⟨m2, rfl⟩ : ∃ m2 : Nat, x2 = (m2 : Int) := ⟨x2.toNat, by omega⟩
  obtain ⟨w2, hw2⟩ : ∃ w2, w.alloc (.cells #[.int .i64 y0, .int .i64 z0] 23) = w2 := ⟨_, rfl⟩
  have hba : Below w.heap.size w w2 := by rw [← hw2]; exact (Below.refl _ _).alloc (Nat.le_refl _) _
  have hka : Blk w2 w.heap.size 23 #[.int .i64 y0, .int .i64 z0] := by rw [← hw2]; exact Blk.new w _ _
  have hSa : Std w w2 := (Std.new hT hE).below hba
  have HSA := keepHid hSa
  have HRT := keepHid hR
  have HAW := keepHid (awake13_any w2 hSa.t hSa.e)
  have HBA := keepHid hba
  have HKA := keepHid hka
  have HY1 := keepHid h1
  have HM2 : Hid ((m2 : Int) ≤ 65535) := keepHid h2.2
  have HPOS : Hid (0 < w.heap.size) := keepHid hR.pos
  clear hT hT0 hE hR h0 g0 h1 l1 s1 h2 hba hka hSa
  go_enter Tryz.func7, Tryz.ntmps7
  go_wp2_with fail
  with_reducible refine HAW.out.mono ?_
  rintro e w3 ⟨rfl, hb3⟩
  have HB3 := keepHid (HBA.out.trans (hb3.mono HBA.out.size))
  have HK3 := keepHid (HKA.out.below hb3 HKA.out.lt)
  have HS3 := keepHid (HSA.out.below hb3)
  clear hb3 hw2
  have HCS : Hid (∀ w', Below w3.heap.size w3 w' → w'.cell? ⟨w.heap.size, 0, none⟩ = some (.int .i64 y0) ∧ w'.cell? ⟨w.heap.size, 1, none⟩ = some (.int .i64 z0) ∧ Below w3.heap.size w3 w') := keepHid (fun w' hb => by
    have hk := HK3.out.below hb HK3.out.lt
    exact ⟨hk.cell 0, hk.cell 1, hb⟩)
  have HBT : Hid (∀ w', Below w3.heap.size w3 w' → Calls Tryz.prog 11 #[.slice a1 n1 c1, .int .u16 (m2 : Int)] w' fun e w'' => ∃ g L bs, e = .returned (.slice (some ⟨g, 0, none⟩) L L) ∧ L < 2500 ∧ Bys w'' w''.heap.size (some ⟨g, 0, none⟩) L bs ∧ Below w'.heap.size w' w'') := keepHid (fun w' hb => by
    have hbw := HB3.out.trans (hb.mono HB3.out.size)
    exact (bytes13_any a1 n1 c1 w.heap.size b1 m2 HM2.out w' (HY1.out.below hbw) hbw.size).mono fun e w'' ⟨L, bs, q1, q2, q3, q4⟩ => ⟨_, L, bs, q1, q2, q3, q4⟩)
  have HMAY : Hid (∀ L : Nat, L < 2500 → May (sizedF ⟨[97], 0, 0, 0⟩ L)) := keepHid (fun L hL => ⟨(by decide : nameB [97] = true), by show (0 : Int) ≤ (L : Int); omega, by show (L : Int) ≤ 8192; omega, by show (0 : Int) ≤ 0; omega, by show (0 : Int) ≤ 4294967295; omega, by show (0 : Int) ≤ 0; omega, by show (0 : Int) ≤ 65535; omega⟩)
  have HOFX : Hid (∀ w4 g L bs, Below w3.heap.size w3 w4 → L < 2500 → Bys w4 w4.heap.size (some ⟨g, 0, none⟩) L bs → ∀ w', Below w4.heap.size w4 w' → Calls Tryz.prog 12 #[.agg #[.int .i64 y0, .int .i64 z0], .agg #[.string ⟨#[97]⟩, .int .i64 0, .int .i64 0, .int .i64 0], .slice (some ⟨g, 0, none⟩) L L] w' fun e w'' => ∃ G, e = .returned (.tuple #[.pointer (some ⟨G, 0, none⟩), .nilIface]) ∧ Snt w (sizedF ⟨[97], 0, 0, 0⟩ L) bs y0 z0 G w'' ∧ Below w'.heap.size w' w'') := keepHid (fun w4 g L bs h34 hL hy w' hb =>
    of_law y0 z0 ⟨[97], 0, 0, 0⟩ (some ⟨g, 0, none⟩) L L bs (HS3.out.below (bel2 h34 hb)) ((hy.below hb).more hb.size) (Nat.le_refl _) (by omega) (HMAY.out L hL))
  go_upto_region 3 with fail
  go_region_held3 (fun w' => w'.cell? ⟨w.heap.size, 0, none⟩ = some (.int .i64 y0) ∧ w'.cell? ⟨w.heap.size, 1, none⟩ = some (.int .i64 z0) ∧ Below w3.heap.size w3 w') (exact HCS.out _ (by (repeat (first | (with_reducible exact Below.refl _ _) | (with_reducible exact HB23.out) | (with_reducible exact HB24.out) | (with_reducible refine Below.drew ?_)))))
    (first
      | (go_at_call 11; (with_reducible refine (HBT.out _ (by (repeat (first | (with_reducible exact Below.refl _ _) | (with_reducible exact HB23.out) | (with_reducible exact HB24.out) | (with_reducible refine Below.drew ?_))))).mono ?_); rintro e w4 ⟨g, L, bs, rfl, hL, hy4, hb4⟩; have hb34 := bel2 (a := w3) (by (repeat (first | (with_reducible exact Below.refl _ _) | (with_reducible exact HB23.out) | (with_reducible exact HB24.out) | (with_reducible refine Below.drew ?_)))) hb4; have HB23 := keepHid hb34; have HOF := keepHid (HOFX.out w4 g L bs hb34 hL hy4); clear hL hy4 hb4 hb34)
      | (go_at_call 12; (with_reducible refine (HOF.out _ (by (repeat (first | (with_reducible exact Below.refl _ _) | (with_reducible refine Below.drew ?_))))).mono ?_); rintro e w5 ⟨G1, rfl, hs5, hb5⟩; have HB24 := keepHid (bel2 HB23.out (bel2 (a := w4) (by (repeat (first | (with_reducible exact Below.refl _ _) | (with_reducible refine Below.drew ?_)))) hb5)); have HTK := keepHid (take_law hs5 (Below.refl _ _)); clear hs5 hb5))
  all_goals
    have hk5 := HK3.out.below HB24.out HK3.out.lt
    have r0 : w5.cell? ⟨w.heap.size, 0, none⟩ = some (.int .i64 y0) := hk5.cell 0
    have r1 : w5.cell? ⟨w.heap.size, 1, none⟩ = some (.int .i64 z0) := hk5.cell 1
    clear hk5
    go_wp2_with fail
    with_reducible refine HTK.out.mono ?_
    rintro e w6 ⟨G2, rfl, ht6, hb6⟩
    obtain ⟨p, Lb, Hb, B, ha6⟩ := ht6.aln
    have HA6 := keepHid ha6
    clear ht6 hb6 ha6 r0 r1
    go_wp2_with fail
    go_loopw [10] (fun kv wr => ∃ (k : Nat), k ≤ 893 ∧ kv = .int .i64 k ∧ Aln p w Lb Hb G1 B G2 y0 z0 k k wr) (fun kv _ => 893 - (intOf kv).toNat)
    case atStart => exact ⟨0, Nat.zero_le _, rfl, HA6.out⟩
    case round =>
      obtain ⟨k, hk, rfl, hal⟩ := hrel
      rcases Nat.lt_or_ge k 893 with hlt | hge
      · have hi : (k : Int) < 893 := by omega
        have HTS := keepHid hal.tickS
        clear hal
        go_wp2_with fail
        with_reducible refine HTS.out.mono ?_
        rintro e w7 ⟨A7, n7, c7, rfl, ha7⟩
        have HTR := keepHid ha7.tickR
        clear ha7
        go_wp2_with fail
        with_reducible refine HTR.out.mono ?_
        rintro e w8 ⟨A8, n8, c8, rfl, ha8⟩
        have HA8 := keepHid ha8
        clear ha8
        go_wp2_with fail
        go_roundw
        case rel => exact ⟨k + 1, by omega, by go_num, HA8.out⟩
        case measure => simp [intOf]; omega
      · obtain rfl : k = 893 := by omega
        have HSD := keepHid hal.sdone
        clear hal
        go_wp2_with fail
        with_reducible refine HSD.out.mono ?_
        rintro e w7 ⟨rfl, hw7, ha7⟩
        have HRD := keepHid ha7.rdone
        clear ha7 hw7
        go_wp2_with fail
        with_reducible refine HRD.out.mono ?_
        rintro e w8 ⟨rfl, hw8, ha8⟩
        have hB8 := ha8.std.bel
        have hR8 : ErrT w8 := HRT.out.below hB8 HPOS.out
        have HN8 := keepHid (number_e 10 w8 hR8)
        have HA8 := keepHid ha8
        have HB8 := keepHid hB8
        have HR8 := keepHid hR8
        clear ha8 hw8 hB8 hR8
        go_wp2_with fail
        with_reducible refine HN8.out.mono ?_
        rintro e w9 ⟨rfl, hb9⟩
        have ha9 := HA8.out.below hb9
        have hR9 : ErrT w9 := HR8.out.below hb9 (Nat.lt_of_lt_of_le HPOS.out HB8.out.size)
        have HN9 := keepHid (number_e 10 w9 hR9)
        have HA9 := keepHid ha9
        clear ha9 hb9 hR9
        go_wp2_with fail
        with_reducible refine HN9.out.mono ?_
        rintro e w10 ⟨rfl, hb10⟩
        have HDT := keepHid (HA9.out.below hb10).data
        clear hb10
        go_wp2_with fail
        with_reducible refine HDT.out.mono ?_
        rintro e w11 ⟨A11, c11, rfl, hb11, ha11⟩
        have HFL := keepHid ha11.file
        have HB11 := keepHid ha11.std.bel
        clear hb11 ha11
        have heq : ∀ W : World, (binOp .eql 30 (.agg #[.string ⟨#[]⟩, .int .i64 0, .int .i64 0, .int .i64 0]) (.agg #[.string ⟨#[]⟩, .int .i64 0, .int .i64 0, .int .i64 0])).run Tryz.prog W = .ok (.bool true) W := fun W => by
          have := eq_file fl0 fl0 W
          rw [decide_eq_true rfl] at this
          exact this
        go_wp2_with fail
        with_reducible refine HFL.out.mono ?_
        rintro e w12 ⟨rfl, hb12⟩
        have HB12 := keepHid (HB11.out.trans (hb12.mono HB11.out.size))
        clear hb12
        go_wp2
        go_ret
        exact ⟨rfl, HB12.out⟩

set_option maxRecDepth 100000 in
theorem lifted (os : Os) (started : os.Started) (H : Type) (enc : TypeId × Value → H) :
    ReturnsInHanded {} Tryz.checked os 7 .any (fun w args => (Rows.batchEndsSpec.pre enc Tryz.prog Tryz.f7 [] false w args ∧ laidMetH Tryz.prog laid6 w) ∧ sizedMet enc Tryz.prog Tryz.f7 (OpenSpec.ofChange Rows.batchEndsSpec) false w args) (Rows.batchEndsSpec.post enc Tryz.prog Tryz.f7 false true false false) := by
  refine returnsInHanded_of_change_and (C := Tryz.checked) (X := fun w _ => laidMetH Tryz.prog laid6 w) (fun _ _ _ hh h => h.of_heap hh) own started (by kernel_rfl) Tryz.func7
    (ChangeSpec.witness_shaped (enc := enc) (C := Tryz.checked) (os := os) (X := fun w _ => laidMetH Tryz.prog laid6 w) false (World.doorLaid Tryz.prog 400 os) #[.agg #[.int .i64 0, .int .i64 0], .slice none 0 0, .int .u16 0] 8 rfl (World.shaped_of_RefB (by kernel_rfl) (by kernel_rfl)) (by kernel_rfl) (by kernel_rfl) (by kernel_rfl) (door6 os _)) ?_
  intro W base args ds gs before hval0 hW hcnd hsz0 hL _
  have hsz : (DataW.weightsEach Tryz.prog (Tryz.f7.params.toList ++ Rows.batchEndsSpec.plain.varTypes Tryz.prog) (ds ++ gs)).all (· ≤ reachBytes) = true := hsz0
  clear hsz0
  have hval : ∀ (j : Nat) t v, Tryz.f7.params[j]? = some t → args[j]? = some v → Value.okWide Tryz.prog W .any base t v := hval0
  have hW' := hW
  obtain ⟨p, q, hA0, hV, rfl, hfz, hnd⟩ := hW
  have hA : DataW.TrodAll enc Tryz.prog W 0 (fun _ => true) true Tryz.f7.params.toList args.toList ds p := hA0
  rw [Tryz.params7] at hA hval hsz
  obtain ⟨v0, vs0, d0, ds0, p0, q0, hargs, rfl, rfl, h0, r0⟩ := trodAll_cons hA
  obtain ⟨v1, vs1, d1, ds1, p1, q1, rfl, rfl, rfl, h1, r1⟩ := trodAll_cons r0
  obtain ⟨v2, vs2, d2, ds2, p2, q2, rfl, rfl, rfl, h2, r2⟩ := trodAll_cons r1
  obtain ⟨rfl, rfl, rfl⟩ := trodAll_nil r2
  obtain rfl : args = #[v0, v1, v2] := by cases args; simp_all
  obtain ⟨rfl, rfl⟩ := trodVars_none hV
  have k0 := h0
  have lt0 : ∀ x ∈ p0, x.block < W.heap.size := by obtain ⟨m, hm⟩ := k0; exact DataW.trod_lt m _ _ _ hm
  have k1 := h1
  have lt1 : ∀ x ∈ p1, x.block < W.heap.size := by obtain ⟨m, hm⟩ := k1; exact DataW.trod_lt m _ _ _ hm
  have k2 := h2
  have lt2 : ∀ x ∈ p2, x.block < W.heap.size := by obtain ⟨m, hm⟩ := k2; exact DataW.trod_lt m _ _ _ hm
  obtain ⟨y0, z0, rfl, w0, u0⟩ := open_two Tryz.underlying23 ⟨rfl, rfl⟩ ⟨rfl, rfl⟩ Tryz.underlying3 (by kernel_rfl) (by kernel_rfl) (hval 0 23 v0 rfl rfl) h0
  obtain ⟨a1, n1, c1, b1, rfl, w1, l1, s1⟩ := open_bys Tryz.underlying24 Tryz.underlying5 (by kernel_rfl) (by kernel_rfl) (hval 1 24 v1 rfl rfl) (fun _ => rfl) h1 (fun el sp hd => sized_slice hsz (j := 1) (t := 24) (e := 5) rfl (by rw [hd]; rfl) Tryz.underlying24)
  obtain ⟨x2, rfl, rfl, rfl, w2⟩ := open_int Tryz.underlying25 (hval 2 25 v2 rfl rfl) h2
  clear hA0 hval0
  refine (walk y0 z0 a1 n1 c1 b1 x2 W (tabs6 hL) (errs6 hL) (errT6 hL) w0 u0 w1 l1 s1 (wf_u16 w2)).mono fun e W' ⟨he, bel⟩ => ?_
  subst he
  exact ⟨_, rfl, _, _, _, [], _, [], hW', trodAll_mk1 (shut_bool Tryz.underlying4 _), (trodAll_cons_mk (Below.trod laidOut (by kernel_rfl) (of_decide_eq_true (by kernel_rfl)) k0 bel lt0) (trodAll_cons_mk (Below.trod laidOut (by kernel_rfl) (of_decide_eq_true (by kernel_rfl)) k1 bel lt1) (trodAll_cons_mk (Below.trod laidOut (by kernel_rfl) (of_decide_eq_true (by kernel_rfl)) k2 bel lt2) trodAll_mk0))), rfl, bel.frame _, fun h => by cases h⟩

theorem over : Rows.batchEndsRow.holds Tryz.pinned (OpenSpec.ofChange Rows.batchEndsSpec) :=
  OpenClaim.holds_of_wide 7 Tryz.f7 rfl rfl rfl rfl rfl rfl rfl ⟨rfl, rfl, rfl, rfl, rfl⟩ rfl rfl rfl rfl rfl (by kernel_rfl) Tryz.func7 (by kernel_rfl)
    (of_decide_eq_true (by kernel_rfl)) (by unfold Func.isWrapper; first | (rw [if_pos (by decide +kernel)]; kernel_rfl) | (rw [if_neg (by decide +kernel)]; exact ⟨rfl, rfl⟩))
    (fun os started H enc _ => lifted os started H enc)

/-- The card: what the row lists is tied to the program's own text. -/
theorem proved : Rows.BatchEndsCardSaid :=
  Claim7.holds_tied_plain_at .later [] [.data, .data, .data, .handle, .sentinel, .sentinel] true Rows.batchEndsCard.stood.harness true
    over (fun _ h => by cases h) (by kernel_rfl) (fun _ h => by cases h) batchEnds_row_tie rfl ⟨rfl, rfl⟩ (by kernel_rfl) rfl
    (fun f fn hf hfn => by
      obtain rfl : f = 7 := Option.some.inj ((show Tryz.prog.funcNamed "lifeline/lifelinelaw13.BatchEnds" = some 7 by kernel_rfl).symm.trans hf) |>.symm
      obtain rfl : fn = Tryz.f7 := (Option.some.inj (Tryz.func7.symm.trans hfn)).symm
      exact ⟨by kernel_rfl, fun j t ht => by
        rw [Tryz.params7] at ht
        have hm : t ∈ [23, 24, 25] := by simpa using Array.mem_of_getElem? ht
        have hall : ([23, 24, 25].all fun u => !Tryz.prog.wantsStandIn u) = true := by kernel_rfl
        exact (show Tryz.prog.wantsStandIn t = false by simpa using List.all_eq_true.1 hall t hm)⟩)
    (by kernel_rfl)
end Go.Proofs.YtgdjopiejmdbnaaGreatDoor.batchEnds
