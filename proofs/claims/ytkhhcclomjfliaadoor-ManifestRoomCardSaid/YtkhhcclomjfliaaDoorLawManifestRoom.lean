/-
  'lifelinelaw16.ManifestRoom' answers true for every input of the row, and leaves its arguments as they were.
  Conditions: the package-level variables that the row lists lie as the program's own text lays them (the card ties them to it; what is pinned is a constant of the library's).
-/
import Derived.Test.YtkhhcclomjfliaaDoorRows
import Derived.Test.YtkhhcclomjfliaaDoorManifestRoom
import Derived.Test.YtkhhcclomjfliaaDoorFrame
import Derived.Test.YtkhhcclomjfliaaDoorFrameNum
import Derived.Test.YtkhhcclomjfliaaDoorCards
import Derived.Test.YtkhhcclomjfliaaDoorManifestAwake
import Derived.Test.YtkhhcclomjfliaaDoorFrameEns
import Derived.Lib.QuietBelow
import Derived.Deep.DeepCutAuto
import Derived.OwnWalk
import Derived.WalkKit
import Derived.ProofKit
import Derived.OpenShut
import Derived.ShutString
import Derived.ChangeOld
import Derived.Below
namespace Go.Proofs.YtkhhcclomjfliaaDoor.manifestRoom
open Go.ChangeShapes Go.WideShapes Go.ChangeAt Go.RowKit
open Go.ChangeMaps (open_string shut_string)
set_option linter.unusedVariables false

theorem own : ownKnob Tryd.prog.godebug = none := by kernel_rfl
theorem laidOut : laidOutB Tryd.prog = true := by kernel_rfl

set_option maxRecDepth 100000 in
set_option maxHeartbeats 4000000 in
theorem walkL (NM : ByteArray) (AD SZ PR WY : Int) (n : Nat) (hn : n ≤ 65535) (w : World) (hT : NumT w) :
    Calls Tryd.prog 5 #[.agg #[.string NM, .int .i64 AD, .int .i64 SZ, .int .u32 PR, .int .i64 WY], .int .u16 (n : Int)] w fun e w' => e = .returned (.bool true) ∧ Below w.heap.size w w' := by
  obtain ⟨w1, hw1⟩ : ∃ w1, w.alloc (.cells #[.string NM, .int .i64 AD, .int .i64 SZ, .int .u32 PR, .int .i64 WY] 36) = w1 := ⟨_, rfl⟩
  have hK1 : Blk w1 w.heap.size 36 #[.string NM, .int .i64 AD, .int .i64 SZ, .int .u32 PR, .int .i64 WY] := by rw [← hw1]; exact Blk.new w _ _
  have hB1 : Below w.heap.size w w1 := by rw [← hw1]; exact (Below.refl _ _).alloc (Nat.le_refl _) _
  have HK1 := keepHid hK1
  have HB1 := keepHid hB1
  have HA := keepHid (awake_any w1 (hT.below hB1 (Nat.le_refl _)))
  obtain ⟨m, hm⟩ : ∃ m, n % 9000 = m := ⟨_, rfl⟩
  have hm1 : (n : Int) % 9000 = (m : Int) := by omega
  have hm2 : Int.tmod (n : Int) 9000 = (m : Int) := by rw [Int.tmod_eq_emod_of_nonneg (by omega)]; exact hm1
  have hm9 : (m : Int) ≤ 9000 := by omega
  have v1 : IntKind.i64.wrap (n : Int) = (n : Int) := by rw [IntKind.wrap_i64]; omega
  obtain ⟨l, hl⟩ : ∃ l, min (m : Int) 8192 = l := ⟨_, rfl⟩
  have q1 := fun ts t W => min_z ts t (m : Int) 8192 l hl W
  have hll : l ≤ roomI (m : Int) WY := by
    have := (room_is (m : Int) WY).2.2
    unfold limI at this
    omega
  have HR1 := keepHid (fun w => room_any NM AD SZ PR WY w)
  have HL1 := keepHid (fun w => lroom_any NM AD SZ PR WY w)
  have HR2 := keepHid (fun w => room_any ⟨#[]⟩ 0 (m : Int) 0 WY w)
  have HL2 := keepHid (fun w => lroom_any ⟨#[]⟩ 0 (m : Int) 0 WY w)
  obtain ⟨R1, hR1⟩ : ∃ R, roomI SZ WY = R := ⟨_, rfl⟩
  obtain ⟨R2, hR2⟩ : ∃ R, roomI (m : Int) WY = R := ⟨_, rfl⟩
  rw [hR1] at HR1 HL1
  rw [hR2] at HR2 HL2 hll
  have eq1 : (R1 == R1) = true := by simp
  have eq2 : (R2 == R2) = true := by simp
  clear hK1 hB1 hT hR1 hR2 hm hl
  go_enter Tryd.func5, Tryd.ntmps5
  go_wp2_with fail
  try rw [hw1]
  refine HA.out.mono ?_
  rintro e w2 ⟨rfl, hb2⟩
  have hK2 := HK1.out.below hb2 HK1.out.lt
  have HB2 := keepHid (HB1.out.trans (hb2.mono HB1.out.size))
  have HL := keepHid hK2.lt
  have a4 : w2.cell? ⟨w.heap.size, 4, none⟩ = some (.int .i64 WY) := hK2.cell 4
  obtain ⟨w3, hw3⟩ : ∃ w3, w2.alloc (.cells #[.string ⟨#[]⟩, .int .i64 0, .int .i64 (m : Int), .int .u32 0, .int .i64 WY] 36) = w3 := ⟨_, rfl⟩
  have hK3 : Blk w3 w2.heap.size 36 #[.string ⟨#[]⟩, .int .i64 0, .int .i64 (m : Int), .int .u32 0, .int .i64 WY] := by rw [← hw3]; exact Blk.new w2 _ _
  have hB3 : Below w2.heap.size w2 w3 := by rw [← hw3]; exact (Below.refl _ _).alloc (Nat.le_refl _) _
  have hK23 := hK2.below hB3 HL.out
  have HB3 := keepHid (HB2.out.trans (hB3.mono HB2.out.size))
  have b0 := cell_regrown (show w3.cell? ⟨w.heap.size, 0, none⟩ = some (.string NM) from hK23.cell 0)
  have b1 := cell_regrown (show w3.cell? ⟨w.heap.size, 1, none⟩ = some (.int .i64 AD) from hK23.cell 1)
  have b2 := cell_regrown (show w3.cell? ⟨w.heap.size, 2, none⟩ = some (.int .i64 SZ) from hK23.cell 2)
  have b3 := cell_regrown (show w3.cell? ⟨w.heap.size, 3, none⟩ = some (.int .u32 PR) from hK23.cell 3)
  have b4 := cell_regrown (show w3.cell? ⟨w.heap.size, 4, none⟩ = some (.int .i64 WY) from hK23.cell 4)
  have c0 := cell_regrown (show w3.cell? ⟨w2.heap.size, 0, none⟩ = some (.string ⟨#[]⟩) from hK3.cell 0)
  have c1 := cell_regrown (show w3.cell? ⟨w2.heap.size, 1, none⟩ = some (.int .i64 0) from hK3.cell 1)
  have c2 := cell_regrown (show w3.cell? ⟨w2.heap.size, 2, none⟩ = some (.int .i64 (m : Int)) from hK3.cell 2)
  have c3 := cell_regrown (show w3.cell? ⟨w2.heap.size, 3, none⟩ = some (.int .u32 0) from hK3.cell 3)
  have c4 := cell_regrown (show w3.cell? ⟨w2.heap.size, 4, none⟩ = some (.int .i64 WY) from hK3.cell 4)
  have C1 := keepHid (fun d os => Calls.regrown_of (HR1.out (Sort.grow (redrawn w3 d) os)))
  have C2 := keepHid (fun d os => Calls.regrown_of (HL1.out (Sort.grow (redrawn w3 d) os)))
  have C3 := keepHid (fun d os => Calls.regrown_of (HR2.out (Sort.grow (redrawn w3 d) os)))
  have C4 := keepHid (fun d os => Calls.regrown_of (HL2.out (Sort.grow (redrawn w3 d) os)))
  clear hw1 hb2 hK2 hK3 hB3 hK23 HR1 HR2 HL1 HL2 HA
  go_upto_region 4 with fail
  try rw [hw3]
  clear hw3 a4
  refine wp_region_quiet_below (by kernel_rfl) (by kernel_rfl) ?_
  repeat (go_big_quiet_step (first | (with_reducible exact C1.out _ _) | (with_reducible exact C2.out _ _) | (with_reducible exact C3.out _ _) | (with_reducible exact C4.out _ _)))
  refine wpQuiet_nil ?_
  intro _ hw'
  obtain ⟨⟨dq, osq⟩, hw''⟩ := hw'
  subst hw''
  have HB5 := keepHid (HB3.out.trans ((below_regrown w3 dq osq).mono HB3.out.size))
  clear b0 b1 b2 b3 b4 c0 c1 c2 c3 c4 C1 C2 C3 C4
  go_wp2
  go_ret
  exact ⟨rfl, HB5.out⟩
theorem walk (e0 : En) (x1 : Int) (w : World) (hT : NumT w) (h0 : EnF e0) (h1 : 0 ≤ x1 ∧ x1 ≤ 65535) :
    Calls Tryd.prog 5 #[enV e0, .int .u16 x1] w fun e w' => e = .returned (.bool true) ∧ Below w.heap.size w w' := by
  obtain ⟨n, rfl⟩ : ∃ n : Nat, x1 = (n : Int) := ⟨x1.toNat, by omega⟩
  exact walkL (strB e0.name) e0.addr e0.size e0.print e0.way n (by omega) w hT

set_option maxRecDepth 100000 in
theorem lifted (os : Os) (started : os.Started) (H : Type) (enc : TypeId × Value → H) :
    ReturnsInHanded {} Tryd.checked os 5 .any (fun w args => (Rows.manifestRoomSpec.pre enc Tryd.prog Tryd.f5 [] false w args ∧ laidMetH Tryd.prog laid7 w) ∧ sizedMet enc Tryd.prog Tryd.f5 (OpenSpec.ofChange Rows.manifestRoomSpec) false w args) (Rows.manifestRoomSpec.post enc Tryd.prog Tryd.f5 false true false false) := by
  refine returnsInHanded_of_change_and (C := Tryd.checked) (X := fun w _ => laidMetH Tryd.prog laid7 w) (fun _ _ _ hh h => h.of_heap hh) own started (by kernel_rfl) Tryd.func5
    (ChangeSpec.witness_shaped (enc := enc) (C := Tryd.checked) (os := os) (X := fun w _ => laidMetH Tryd.prog laid7 w) false (worldF os) #[.agg #[.string ⟨#[]⟩, .int .i64 0, .int .i64 0, .int .u32 0, .int .i64 0], .int .u16 0] 8 (worldF_os os) (World.shaped_of_RefB (by kernel_rfl) (by kernel_rfl)) (by kernel_rfl) (by kernel_rfl) (by kernel_rfl) (door7 os _)) ?_
  intro W base args ds gs before hval0 hW hcnd hsz0 hL _
  have hsz : (DataW.weightsEach Tryd.prog (Tryd.f5.params.toList ++ Rows.manifestRoomSpec.plain.varTypes Tryd.prog) (ds ++ gs)).all (· ≤ reachBytes) = true := hsz0
  clear hsz0
  have hval : ∀ (j : Nat) t v, Tryd.f5.params[j]? = some t → args[j]? = some v → Value.okWide Tryd.prog W .any base t v := hval0
  have hW' := hW
  obtain ⟨p, q, hA0, hV, rfl, hfz, hnd⟩ := hW
  have hA : DataW.TrodAll enc Tryd.prog W 0 (fun _ => true) true Tryd.f5.params.toList args.toList ds p := hA0
  rw [Tryd.params5] at hA hval hsz
  obtain ⟨v0, vs0, d0, ds0, p0, q0, hargs, rfl, rfl, h0, r0⟩ := trodAll_cons hA
  obtain ⟨v1, vs1, d1, ds1, p1, q1, rfl, rfl, rfl, h1, r1⟩ := trodAll_cons r0
  obtain ⟨rfl, rfl, rfl⟩ := trodAll_nil r1
  obtain rfl : args = #[v0, v1] := by cases args; simp_all
  obtain ⟨rfl, rfl⟩ := trodVars_none hV
  have k0 := h0
  have lt0 : ∀ x ∈ p0, x.block < W.heap.size := by obtain ⟨m, hm⟩ := k0; exact DataW.trod_lt m _ _ _ hm
  have k1 := h1
  have lt1 : ∀ x ∈ p1, x.block < W.heap.size := by obtain ⟨m, hm⟩ := k1; exact DataW.trod_lt m _ _ _ hm
  obtain ⟨e0, rfl, w0⟩ := open_en Tryd.underlying36 ⟨rfl, rfl⟩ ⟨rfl, rfl⟩ ⟨rfl, rfl⟩ ⟨rfl, rfl⟩ ⟨rfl, rfl⟩ Tryd.underlying9 Tryd.underlying3 Tryd.underlying33 Tryd.underlying34 (by kernel_rfl) (by kernel_rfl) (by kernel_rfl) (by kernel_rfl) (by kernel_rfl) (hval 0 36 v0 rfl rfl) h0
  obtain ⟨x1, rfl, rfl, rfl, w1⟩ := open_int Tryd.underlying40 (hval 1 40 v1 rfl rfl) h1
  clear hA0 hval0
  refine (walk e0 x1 W (num7 hL) w0 (wf_u16 w1)).mono fun e W' ⟨he, bel⟩ => ?_
  subst he
  exact ⟨_, rfl, _, _, _, [], _, [], hW', trodAll_mk1 (shut_bool Tryd.underlying4 _), (trodAll_cons_mk (Below.trod laidOut (by kernel_rfl) (of_decide_eq_true (by kernel_rfl)) k0 bel lt0) (trodAll_cons_mk (Below.trod laidOut (by kernel_rfl) (of_decide_eq_true (by kernel_rfl)) k1 bel lt1) trodAll_mk0)), rfl, bel.frame _, fun h => by cases h⟩

theorem over : Rows.manifestRoomRow.holds Tryd.pinned (OpenSpec.ofChange Rows.manifestRoomSpec) :=
  OpenClaim.holds_of_wide 5 Tryd.f5 rfl rfl rfl rfl rfl rfl rfl ⟨rfl, rfl, rfl, rfl, rfl⟩ rfl rfl rfl rfl rfl (by kernel_rfl) Tryd.func5 (by kernel_rfl)
    (of_decide_eq_true (by kernel_rfl)) (by unfold Func.isWrapper; first | (rw [if_pos (by decide +kernel)]; kernel_rfl) | (rw [if_neg (by decide +kernel)]; exact ⟨rfl, rfl⟩))
    (fun os started H enc _ => lifted os started H enc)

/-- The card: what the row lists is tied to the program's own text. -/
theorem proved : Rows.ManifestRoomCardSaid :=
  Claim7.holds_tied_plain_at .later [] [.data, .data, .data, .data, .sentinel, .sentinel, .pinned] true Rows.manifestRoomCard.stood.harness true
    over (fun _ h => by cases h) (by kernel_rfl) (fun _ h => by cases h) manifestRoom_row_tie rfl ⟨rfl, rfl⟩ (by kernel_rfl) rfl
    (fun f fn hf hfn => by
      obtain rfl : f = 5 := Option.some.inj ((show Tryd.prog.funcNamed "lifeline/lifelinelaw16.ManifestRoom" = some 5 by kernel_rfl).symm.trans hf) |>.symm
      obtain rfl : fn = Tryd.f5 := (Option.some.inj (Tryd.func5.symm.trans hfn)).symm
      exact ⟨by kernel_rfl, fun j t ht => by
        rw [Tryd.params5] at ht
        have hm : t ∈ [36, 40] := by simpa using Array.mem_of_getElem? ht
        have hall : ([36, 40].all fun u => !Tryd.prog.wantsStandIn u) = true := by kernel_rfl
        exact (show Tryd.prog.wantsStandIn t = false by simpa using List.all_eq_true.1 hall t hm)⟩)
    (by kernel_rfl)
end Go.Proofs.YtkhhcclomjfliaaDoor.manifestRoom
