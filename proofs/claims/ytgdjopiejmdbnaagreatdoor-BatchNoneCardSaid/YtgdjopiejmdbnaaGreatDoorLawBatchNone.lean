/-
  'lifelinelaw13.BatchNone' answers true for every input of the row, and leaves its arguments as they were.
  Conditions: the package-level variables that the row lists lie as the program's own text lays them (the card ties them to it; what is pinned is a constant of the library's).
-/
import Derived.Test.YtgdjopiejmdbnaaGreatDoorRows
import Derived.Test.YtgdjopiejmdbnaaGreatDoorBatchAwake
import Derived.Test.YtgdjopiejmdbnaaGreatDoorFrame
import Derived.Test.YtgdjopiejmdbnaaGreatDoorFrameDoor
import Derived.Test.YtgdjopiejmdbnaaGreatDoorFrameSix
import Derived.Test.YtgdjopiejmdbnaaGreatDoorCards
import Derived.WalkKit
import Derived.ProofKit
import Derived.OpenShut
import Derived.ShutString
import Derived.ChangeOld
import Derived.Below
namespace Go.Proofs.YtgdjopiejmdbnaaGreatDoor.batchNone
open Go.ChangeShapes Go.WideShapes Go.ChangeAt Go.RowKit
open Go.ChangeMaps (open_string shut_string)
set_option linter.unusedVariables false

theorem own : ownKnob Tryz.prog.godebug = none := by kernel_rfl
theorem laidOut : laidOutB Tryz.prog = true := by kernel_rfl

set_option maxRecDepth 100000 in
set_option maxHeartbeats 4000000 in
theorem walk (f0 : Fl) (a1 : Option Addr) (n1 c1 : Nat) (b1 : List UInt8) (w : World) (hT : Tabs w) (hE : Errs w) (hR : ErrT w) (h0 : Fits f0) (h1 : Bys w w.heap.size a1 n1 b1) (l1 : n1 ≤ c1) (s1 : c1 ≤ 140737488351232) :
    Calls Tryz.prog 6 #[flV f0, .slice a1 n1 c1] w fun e w' => e = .returned (.bool true) ∧ Below w.heap.size w w' := by
  obtain ⟨l, z, t, m⟩ := f0
  have hfn : l.length ≤ 9223372036854775807 := h0.name
  obtain ⟨w2, hw2⟩ : ∃ w2, w.alloc (.cells #[.string (strB l), .int .i64 z, .int .i64 t, .int .i64 m] 30) = w2 := ⟨_, rfl⟩
  have hba : Below w.heap.size w w2 := by rw [← hw2]; exact (Below.refl _ _).alloc (Nat.le_refl _) _
  have hka : Blk w2 w.heap.size 30 #[.string (strB l), .int .i64 z, .int .i64 t, .int .i64 m] := by rw [← hw2]; exact Blk.new w _ _
  have hSa : Std w w2 := (Std.new hT hE).below hba
  have HSA := keepHid hSa
  have HRT := keepHid hR
  have HAW := keepHid (awake13_any w2 hSa.t hSa.e)
  have HBA := keepHid hba
  have HKA := keepHid hka
  have HPOS : Hid (0 < w.heap.size) := keepHid hR.pos
  have HOFX : Hid (∀ w3, Below w2.heap.size w2 w3 → (mayB (sizedF ⟨l, z, t, m⟩ n1) = false → Calls Tryz.prog 12 #[.agg #[.int .i64 0, .int .i64 0], .agg #[.string (strB l), .int .i64 z, .int .i64 t, .int .i64 m], .slice a1 n1 c1] w3 fun e w4 => e = .returned (.tuple #[.pointer none, .iface 71 (.int .i64 14)]) ∧ Below w3.heap.size w3 w4) ∧
      (mayB (sizedF ⟨l, z, t, m⟩ n1) = true → Calls Tryz.prog 12 #[.agg #[.int .i64 0, .int .i64 0], .agg #[.string (strB l), .int .i64 z, .int .i64 t, .int .i64 m], .slice a1 n1 c1] w3 fun e w4 => ∃ G, e = .returned (.tuple #[.pointer (some ⟨G, 0, none⟩), .nilIface]) ∧ Below w3.heap.size w3 w4)) := keepHid (fun w3 hb => by
    have hbw : Below w.heap.size w w3 := hba.trans (hb.mono hba.size)
    have hS3 : Std w w3 := hSa.below hb
    have hy3 : Bys w3 w3.heap.size a1 n1 b1 := (h1.below hbw).more hbw.size
    refine ⟨fun hm => ?_, fun hm => ?_⟩
    · refine (bof_any 0 0 ⟨l, z, t, m⟩ hfn a1 n1 c1 b1 w3 hS3.t hy3 l1 (by omega)).mono ?_
      rintro e w4 (⟨_, h2, h3⟩ | ⟨h2, _⟩)
      · exact ⟨h2, h3⟩
      · rw [hm] at h2; cases h2
    · exact (of_law 0 0 ⟨l, z, t, m⟩ a1 n1 c1 b1 hS3 hy3 l1 (by omega) ((mayB_iff _).1 hm)).mono fun e w4 ⟨G, e1, _, e3⟩ => ⟨G, e1, e3⟩)
  have HMY : Hid (∀ w3, Calls Tryz.prog 38 #[.agg #[.string (strB l), .int .i64 (n1 : Int), .int .i64 t, .int .i64 m]] w3 fun e w4 => e = .returned (.bool (mayB (sizedF ⟨l, z, t, m⟩ n1))) ∧ Below w3.heap.size w3 w4) := keepHid (fun w3 => may_any (sizedF ⟨l, z, t, m⟩ n1) hfn w3)
  have hnm := h1.max
  clear hT hE hR h0 h1 l1 s1 hba hka hSa hfn
  unfold flV flCells
  dsimp only
  go_enter Tryz.func6, Tryz.ntmps6
  go_wp2_with fail
  with_reducible refine HAW.out.mono ?_
  rintro e w3 ⟨rfl, hb3⟩
  have hk3 := HKA.out.below hb3 HKA.out.lt
  have c0 : w3.cell? ⟨w.heap.size, 0, none⟩ = some (.string (strB l)) := hk3.cell 0
  have c1' : w3.cell? ⟨w.heap.size, 1, none⟩ = some (.int .i64 z) := hk3.cell 1
  have c2 : w3.cell? ⟨w.heap.size, 2, none⟩ = some (.int .i64 t) := hk3.cell 2
  have c3 : w3.cell? ⟨w.heap.size, 3, none⟩ = some (.int .i64 m) := hk3.cell 3
  have HB3 := keepHid (HBA.out.trans (hb3.mono HBA.out.size))
  have HK3 := keepHid hk3
  have HOF3 := keepHid (HOFX.out w3 hb3)
  clear hb3 hk3 hw2
  obtain ⟨ok, hok⟩ : ∃ ok, mayB (sizedF ⟨l, z, t, m⟩ n1) = ok := ⟨_, rfl⟩
  rw [hok] at HOF3 HMY
  clear hok
  cases ok
  · have HOF := keepHid (HOF3.out.1 rfl)
    go_wp2_with fail
    with_reducible refine HOF.out.mono ?_
    rintro e w4 ⟨rfl, hb4⟩
    have hk4 := HK3.out.below hb4 HK3.out.lt
    have d1 : w4.cell? ⟨w.heap.size, 1, none⟩ = some (.int .i64 z) := hk4.cell 1
    have df := hk4.frozen
    obtain ⟨w5, hw5⟩ : ∃ w5, w4.setCell ⟨w.heap.size, 1, none⟩ (.int .i64 (n1 : Int)) = w5 := ⟨_, rfl⟩
    have hk5 : Blk w5 w.heap.size 30 #[.string (strB l), .int .i64 (n1 : Int), .int .i64 t, .int .i64 m] := by rw [← hw5]; exact hk4.put 1 _
    have hb5 : Below w.heap.size w w5 := by rw [← hw5]; exact (HB3.out.trans (hb4.mono HB3.out.size)).setCell (Nat.le_refl _) _
    have e0 : w5.cell? ⟨w.heap.size, 0, none⟩ = some (.string (strB l)) := hk5.cell 0
    have e1 : w5.cell? ⟨w.heap.size, 1, none⟩ = some (.int .i64 (n1 : Int)) := hk5.cell 1
    have e2 : w5.cell? ⟨w.heap.size, 2, none⟩ = some (.int .i64 t) := hk5.cell 2
    have e3 : w5.cell? ⟨w.heap.size, 3, none⟩ = some (.int .i64 m) := hk5.cell 3
    have HMY5 := keepHid (HMY.out w5)
    have HB5 := keepHid hb5
    clear hb4 hk4 hk5 hb5 c0 c1' c2 c3
    go_wp2_with fail
    with_reducible refine HMY5.out.mono ?_
    rintro e w6 ⟨rfl, hb6⟩
    have hB6 := HB5.out.trans (hb6.mono HB5.out.size)
    have HN := keepHid (number_e 14 w6 (HRT.out.below hB6 HPOS.out))
    have HB6 := keepHid hB6
    clear hb6 hB6 e0 e1 e2 e3 d1 df
    go_wp2_with fail
    with_reducible refine HN.out.mono ?_
    rintro e w7 ⟨rfl, hb7⟩
    have HB7 := keepHid (HB6.out.trans (hb7.mono HB6.out.size))
    clear hb7
    go_wp2
    go_ret
    exact ⟨rfl, HB7.out⟩
  · have HOF := keepHid (HOF3.out.2 rfl)
    go_wp2_with fail
    with_reducible refine HOF.out.mono ?_
    rintro e w4 ⟨G, rfl, hb4⟩
    have hk4 := HK3.out.below hb4 HK3.out.lt
    have d1 : w4.cell? ⟨w.heap.size, 1, none⟩ = some (.int .i64 z) := hk4.cell 1
    have df := hk4.frozen
    obtain ⟨w5, hw5⟩ : ∃ w5, w4.setCell ⟨w.heap.size, 1, none⟩ (.int .i64 (n1 : Int)) = w5 := ⟨_, rfl⟩
    have hk5 : Blk w5 w.heap.size 30 #[.string (strB l), .int .i64 (n1 : Int), .int .i64 t, .int .i64 m] := by rw [← hw5]; exact hk4.put 1 _
    have hb5 : Below w.heap.size w w5 := by rw [← hw5]; exact (HB3.out.trans (hb4.mono HB3.out.size)).setCell (Nat.le_refl _) _
    have e0 : w5.cell? ⟨w.heap.size, 0, none⟩ = some (.string (strB l)) := hk5.cell 0
    have e1 : w5.cell? ⟨w.heap.size, 1, none⟩ = some (.int .i64 (n1 : Int)) := hk5.cell 1
    have e2 : w5.cell? ⟨w.heap.size, 2, none⟩ = some (.int .i64 t) := hk5.cell 2
    have e3 : w5.cell? ⟨w.heap.size, 3, none⟩ = some (.int .i64 m) := hk5.cell 3
    have HMY5 := keepHid (HMY.out w5)
    have HB5 := keepHid hb5
    clear hb4 hk4 hk5 hb5 c0 c1' c2 c3
    go_wp2_with fail
    with_reducible refine HMY5.out.mono ?_
    rintro e w6 ⟨rfl, hb6⟩
    have HB6 := keepHid (HB5.out.trans (hb6.mono HB5.out.size))
    clear hb6 e0 e1 e2 e3 d1 df
    go_wp2
    go_ret
    exact ⟨rfl, HB6.out⟩

set_option maxRecDepth 100000 in
theorem lifted (os : Os) (started : os.Started) (H : Type) (enc : TypeId × Value → H) :
    ReturnsInHanded {} Tryz.checked os 6 .any (fun w args => (Rows.batchNoneSpec.pre enc Tryz.prog Tryz.f6 [] false w args ∧ laidMetH Tryz.prog laid6 w) ∧ sizedMet enc Tryz.prog Tryz.f6 (OpenSpec.ofChange Rows.batchNoneSpec) false w args) (Rows.batchNoneSpec.post enc Tryz.prog Tryz.f6 false true false false) := by
  refine returnsInHanded_of_change_and (C := Tryz.checked) (X := fun w _ => laidMetH Tryz.prog laid6 w) (fun _ _ _ hh h => h.of_heap hh) own started (by kernel_rfl) Tryz.func6
    (ChangeSpec.witness_shaped (enc := enc) (C := Tryz.checked) (os := os) (X := fun w _ => laidMetH Tryz.prog laid6 w) false (World.doorLaid Tryz.prog 400 os) #[.agg #[.string ⟨#[]⟩, .int .i64 0, .int .i64 0, .int .i64 0], .slice none 0 0] 8 rfl (World.shaped_of_RefB (by kernel_rfl) (by kernel_rfl)) (by kernel_rfl) (by kernel_rfl) (by kernel_rfl) (door6 os _)) ?_
  intro W base args ds gs before hval0 hW hcnd hsz0 hL _
  have hsz : (DataW.weightsEach Tryz.prog (Tryz.f6.params.toList ++ Rows.batchNoneSpec.plain.varTypes Tryz.prog) (ds ++ gs)).all (· ≤ reachBytes) = true := hsz0
  clear hsz0
  have hval : ∀ (j : Nat) t v, Tryz.f6.params[j]? = some t → args[j]? = some v → Value.okWide Tryz.prog W .any base t v := hval0
  have hW' := hW
  obtain ⟨p, q, hA0, hV, rfl, hfz, hnd⟩ := hW
  have hA : DataW.TrodAll enc Tryz.prog W 0 (fun _ => true) true Tryz.f6.params.toList args.toList ds p := hA0
  rw [Tryz.params6] at hA hval hsz
  obtain ⟨v0, vs0, d0, ds0, p0, q0, hargs, rfl, rfl, h0, r0⟩ := trodAll_cons hA
  obtain ⟨v1, vs1, d1, ds1, p1, q1, rfl, rfl, rfl, h1, r1⟩ := trodAll_cons r0
  obtain ⟨rfl, rfl, rfl⟩ := trodAll_nil r1
  obtain rfl : args = #[v0, v1] := by cases args; simp_all
  obtain ⟨rfl, rfl⟩ := trodVars_none hV
  have k0 := h0
  have lt0 : ∀ x ∈ p0, x.block < W.heap.size := by obtain ⟨m, hm⟩ := k0; exact DataW.trod_lt m _ _ _ hm
  have k1 := h1
  have lt1 : ∀ x ∈ p1, x.block < W.heap.size := by obtain ⟨m, hm⟩ := k1; exact DataW.trod_lt m _ _ _ hm
  obtain ⟨f0, rfl, w0⟩ := open_file Tryz.underlying30 ⟨rfl, rfl⟩ ⟨rfl, rfl⟩ ⟨rfl, rfl⟩ ⟨rfl, rfl⟩ Tryz.underlying9 Tryz.underlying3 (by kernel_rfl) (by kernel_rfl) (by kernel_rfl) (hval 0 30 v0 rfl rfl) h0
  obtain ⟨a1, n1, c1, b1, rfl, w1, l1, s1⟩ := open_bys Tryz.underlying24 Tryz.underlying5 (by kernel_rfl) (by kernel_rfl) (hval 1 24 v1 rfl rfl) (fun _ => rfl) h1 (fun el sp hd => sized_slice hsz (j := 1) (t := 24) (e := 5) rfl (by rw [hd]; rfl) Tryz.underlying24)
  clear hA0 hval0
  refine (walk f0 a1 n1 c1 b1 W (tabs6 hL) (errs6 hL) (errT6 hL) w0 w1 l1 s1).mono fun e W' ⟨he, bel⟩ => ?_
  subst he
  exact ⟨_, rfl, _, _, _, [], _, [], hW', trodAll_mk1 (shut_bool Tryz.underlying4 _), (trodAll_cons_mk (Below.trod laidOut (by kernel_rfl) (of_decide_eq_true (by kernel_rfl)) k0 bel lt0) (trodAll_cons_mk (Below.trod laidOut (by kernel_rfl) (of_decide_eq_true (by kernel_rfl)) k1 bel lt1) trodAll_mk0)), rfl, bel.frame _, fun h => by cases h⟩

theorem over : Rows.batchNoneRow.holds Tryz.pinned (OpenSpec.ofChange Rows.batchNoneSpec) :=
  OpenClaim.holds_of_wide 6 Tryz.f6 rfl rfl rfl rfl rfl rfl rfl ⟨rfl, rfl, rfl, rfl, rfl⟩ rfl rfl rfl rfl rfl (by kernel_rfl) Tryz.func6 (by kernel_rfl)
    (of_decide_eq_true (by kernel_rfl)) (by unfold Func.isWrapper; first | (rw [if_pos (by decide +kernel)]; kernel_rfl) | (rw [if_neg (by decide +kernel)]; exact ⟨rfl, rfl⟩))
    (fun os started H enc _ => lifted os started H enc)

/-- The card: what the row lists is tied to the program's own text. -/
theorem proved : Rows.BatchNoneCardSaid :=
  Claim7.holds_tied_plain_at .later [] [.data, .data, .data, .handle, .sentinel, .sentinel] true Rows.batchNoneCard.stood.harness true
    over (fun _ h => by cases h) (by kernel_rfl) (fun _ h => by cases h) batchNone_row_tie rfl ⟨rfl, rfl⟩ (by kernel_rfl) rfl
    (fun f fn hf hfn => by
      obtain rfl : f = 6 := Option.some.inj ((show Tryz.prog.funcNamed "lifeline/lifelinelaw13.BatchNone" = some 6 by kernel_rfl).symm.trans hf) |>.symm
      obtain rfl : fn = Tryz.f6 := (Option.some.inj (Tryz.func6.symm.trans hfn)).symm
      exact ⟨by kernel_rfl, fun j t ht => by
        rw [Tryz.params6] at ht
        have hm : t ∈ [30, 24] := by simpa using Array.mem_of_getElem? ht
        have hall : ([30, 24].all fun u => !Tryz.prog.wantsStandIn u) = true := by kernel_rfl
        exact (show Tryz.prog.wantsStandIn t = false by simpa using List.all_eq_true.1 hall t hm)⟩)
    (by kernel_rfl)
end Go.Proofs.YtgdjopiejmdbnaaGreatDoor.batchNone
