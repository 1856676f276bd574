/-
  'lifelinelaw06.RegexParse' answers true for every input of the row, and leaves its arguments as they were.
  Conditions: the package-level variables that the row lists lie as the program's own text lays them (the card ties them to it; what is pinned is a constant of the library's).
-/
import Derived.Test.YtjceaojffdaihaaDoorRows
import Derived.Test.YtjceaojffdaihaaDoorRegexSame
import Derived.Test.YtjceaojffdaihaaDoorRegexMake3
import Derived.Test.YtjceaojffdaihaaDoorRegexMakesAll
import Derived.Test.YtjceaojffdaihaaDoorFrame
import Derived.Test.YtjceaojffdaihaaDoorFrameRegex
import Derived.Test.YtjceaojffdaihaaDoorCards
import Derived.WalkKit
import Derived.ProofKit
import Derived.OpenShut
import Derived.ShutString
import Derived.ChangeOld
import Derived.Below
import Derived.WalkLawsBesides
import Derived.IntWalk
import Derived.Deep.QuietTactic
import Derived.BigQuiet
import Derived.Deep.DeepCutAuto
import Derived.Outline
namespace Go.Proofs.YtjceaojffdaihaaDoor.regexParse
open Go.ChangeShapes Go.WideShapes Go.ChangeAt Go.RowKit
open Go.ChangeMaps (open_string shut_string)
set_option linter.unusedVariables false

theorem own : ownKnob Tryd.prog.godebug = none := by kernel_rfl
theorem laidOut : laidOutB Tryd.prog = true := by kernel_rfl

set_option maxHeartbeats 2000000 in
theorem walk0 (HB : BuildSpec 3) (a0 : Option Addr) (n0 c0 : Nat) (b0 : List UInt8) (w : World) (hT : ErrT w) (h0 : Bys w w.heap.size a0 n0 b0) (l0 : n0 ≤ c0) (s0 : c0 ≤ 140737488351232) :
    Calls Tryd.prog 3 #[.slice a0 n0 c0] w fun e w' => e = .returned (.bool true) ∧ Below w.heap.size w w' := by
  have HA := keepHid (awake_any w hT)
  have HY := keepHid h0
  clear hT h0
  go_enter Tryd.func3, Tryd.ntmps3
  go_wp2_with fail
  refine HA.out.mono ?_
  rintro e w1 ⟨rfl, hb1⟩
  have HB1 := keepHid hb1
  have HM := keepHid (makes_any HB a0 n0 c0 b0 w1 ((HY.out.below hb1).more hb1.size) l0 (by omega))
  clear hb1 HA
  go_wp2_with fail
  refine HM.out.mono ?_
  rintro e w2 ⟨h, rfl, hi, hb2⟩
  obtain ⟨w3, hw3⟩ : ∃ w3, w2.alloc (.cells (hdC h) 30) = w3 := ⟨_, rfl⟩
  have hb23 : Below w2.heap.size w2 w3 := by rw [← hw3]; exact (Below.refl _ _).alloc (Nat.le_refl _) _
  have HN3 : Hid (Blk w3 w2.heap.size 30 (hdC h)) := keepHid (by rw [← hw3]; exact Blk.new _ _ _)
  have hb13 := hb2.trans (hb23.mono hb2.size)
  have HB3 := keepHid (HB1.out.trans (hb13.mono HB1.out.size))
  have HI3 := keepHid (hi.below hb23)
  have hshort := bld_short b0
  have HPA := keepHid (parse_any (bldL 3 b0).1 w3)
  have hpar := bld_parse b0
  have HPAR := keepHid (fun e w' (p : ParsePost (bldL 3 b0).1 w3 e w') => parse_pat hpar p hshort)
  obtain ⟨m, hm⟩ : ∃ m, (bldL 3 b0).1.length = m := ⟨_, rfl⟩
  rw [hm] at hshort
  have hsz : (strB (bldL 3 b0).1).size = m := by rw [strB_size, hm]
  have hms : (m : Int) ≤ 64 := by omega
  clear hb2 hb23 hb13 hi hpar hm hshort HM
  generalize strB (bldL 3 b0).1 = S at *
  obtain ⟨q2, hq2⟩ : ∃ q, w2.heap.size = q := ⟨_, rfl⟩
  rw [hq2] at HN3
  unfold hdV
  unfold hdC at hw3
  go_wp2_with fail
  try rw [hw3]
  try rw [hq2]
  clear hw3 hq2
  refine HPA.out.mono ?_
  intro e w4 hp
  obtain ⟨h4, rfl, hi4, hb4⟩ := HPAR.out e w4 hp
  obtain ⟨w5, hw5⟩ : ∃ w5, w4.alloc (.cells (hdC h4) 30) = w5 := ⟨_, rfl⟩
  have hb45 : Below w4.heap.size w4 w5 := by rw [← hw5]; exact (Below.refl _ _).alloc (Nat.le_refl _) _
  have hb35 := hb4.trans (hb45.mono hb4.size)
  have hn5 := HN3.out.below hb35 HN3.out.lt
  have hm5 : Blk w5 w4.heap.size 30 (hdC h4) := by rw [← hw5]; exact Blk.new _ _ _
  have HB5 := keepHid (HB3.out.trans (hb35.mono HB3.out.size))
  have HS := keepHid (same_any (bldL 3 b0).2.1 _ _ h4 h w5 (hi4.below hb45) (HI3.out.below hb35))
  obtain ⟨q4, hq4⟩ : ∃ q, w4.heap.size = q := ⟨_, rfl⟩
  rw [hq4] at hm5
  clear hp hb4 hb45 hb35 hi4 HPA HPAR
  unfold hdV at HS ⊢
  unfold hdC at hw5
  go_upto_region 7 with fail
  try rw [hw5]
  try rw [hq4]
  clear hw5 hq4
  obtain ⟨k0, k1, k2, k3, k4, k5, kf⟩ := blk6 hn5
  obtain ⟨l0', l1, l2, l3, l4, l5, lf⟩ := blk6 hm5
  clear hn5 hm5
  go_wp2_with fail
  refine HS.out.mono ?_
  rintro e w6 ⟨rfl, hb6⟩
  have HB6 := keepHid (HB5.out.trans (hb6.mono HB5.out.size))
  go_wp2
  go_ret
  exact ⟨rfl, HB6.out⟩

theorem walk (a0 : Option Addr) (n0 c0 : Nat) (b0 : List UInt8) (w : World) (hT : ErrT w) (h0 : Bys w w.heap.size a0 n0 b0) (l0 : n0 ≤ c0) (s0 : c0 ≤ 140737488351232) :
    Calls Tryd.prog 3 #[.slice a0 n0 c0] w fun e w' => e = .returned (.bool true) ∧ Below w.heap.size w w' :=
  walk0 (build_all 3 (by omega)) a0 n0 c0 b0 w hT h0 l0 s0

set_option maxRecDepth 100000 in
theorem lifted (os : Os) (started : os.Started) (H : Type) (enc : TypeId × Value → H) :
    ReturnsInHanded {} Tryd.checked os 3 .any (fun w args => (Rows.regexParseSpec.pre enc Tryd.prog Tryd.f3 [] false w args ∧ laidMetH Tryd.prog laidR w) ∧ sizedMet enc Tryd.prog Tryd.f3 (OpenSpec.ofChange Rows.regexParseSpec) false w args) (Rows.regexParseSpec.post enc Tryd.prog Tryd.f3 false true false false) := by
  refine returnsInHanded_of_change_and (C := Tryd.checked) (X := fun w _ => laidMetH Tryd.prog laidR w) (fun _ _ _ hh h => h.of_heap hh) own started (by kernel_rfl) Tryd.func3
    (ChangeSpec.witness_shaped (enc := enc) (C := Tryd.checked) (os := os) (X := fun w _ => laidMetH Tryd.prog laidR w) false (World.doorLaid Tryd.prog 400 os) #[.slice none 0 0] 8 rfl (World.shaped_of_RefB (by kernel_rfl) (by kernel_rfl)) (by kernel_rfl) (by kernel_rfl) (by kernel_rfl) (doorR os _)) ?_
  intro W base args ds gs before hval0 hW hcnd hsz0 hL _
  have hsz : (DataW.weightsEach Tryd.prog (Tryd.f3.params.toList ++ Rows.regexParseSpec.plain.varTypes Tryd.prog) (ds ++ gs)).all (· ≤ reachBytes) = true := hsz0
  clear hsz0
  have hval : ∀ (j : Nat) t v, Tryd.f3.params[j]? = some t → args[j]? = some v → Value.okWide Tryd.prog W .any base t v := hval0
  have hW' := hW
  obtain ⟨p, q, hA0, hV, rfl, hfz, hnd⟩ := hW
  have hA : DataW.TrodAll enc Tryd.prog W 0 (fun _ => true) true Tryd.f3.params.toList args.toList ds p := hA0
  rw [Tryd.params3] at hA hval hsz
  obtain ⟨v0, vs0, d0, ds0, p0, q0, hargs, rfl, rfl, h0, r0⟩ := trodAll_cons hA
  obtain ⟨rfl, rfl, rfl⟩ := trodAll_nil r0
  obtain rfl : args = #[v0] := by cases args; simp_all
  obtain ⟨rfl, rfl⟩ := trodVars_none hV
  have k0 := h0
  have lt0 : ∀ x ∈ p0, x.block < W.heap.size := by obtain ⟨m, hm⟩ := k0; exact DataW.trod_lt m _ _ _ hm
  obtain ⟨a0, n0, c0, b0, rfl, w0, l0, s0⟩ := open_bys Tryd.underlying22 Tryd.underlying5 (by kernel_rfl) (by kernel_rfl) (hval 0 22 v0 rfl rfl) (fun _ => rfl) h0 (fun el sp hd => sized_slice hsz (j := 0) (t := 22) (e := 5) rfl (by rw [hd]; rfl) Tryd.underlying22)
  clear hA0 hval0
  refine (walk a0 n0 c0 b0 W (tabsR hL) w0 l0 s0).mono fun e W' ⟨he, bel⟩ => ?_
  subst he
  exact ⟨_, rfl, _, _, _, [], _, [], hW', trodAll_mk1 (shut_bool Tryd.underlying4 _), (trodAll_cons_mk (Below.trod laidOut (by kernel_rfl) (of_decide_eq_true (by kernel_rfl)) k0 bel lt0) trodAll_mk0), rfl, bel.frame _, fun h => by cases h⟩

theorem over : Rows.regexParseRow.holds Tryd.pinned (OpenSpec.ofChange Rows.regexParseSpec) :=
  OpenClaim.holds_of_wide 3 Tryd.f3 rfl rfl rfl rfl rfl rfl rfl ⟨rfl, rfl, rfl, rfl, rfl⟩ rfl rfl rfl rfl rfl (by kernel_rfl) Tryd.func3 (by kernel_rfl)
    (of_decide_eq_true (by kernel_rfl)) (by unfold Func.isWrapper; first | (rw [if_pos (by decide +kernel)]; kernel_rfl) | (rw [if_neg (by decide +kernel)]; exact ⟨rfl, rfl⟩))
    (fun os started H enc _ => lifted os started H enc)

/-- The card: what the row lists is tied to the program's own text. -/
theorem proved : Rows.RegexParseCardSaid :=
  Claim7.holds_tied_plain_at .later [] [.handle] true Rows.regexParseCard.stood.harness true
    over (fun _ h => by cases h) (by kernel_rfl) (fun _ h => by cases h) regexParse_row_tie rfl ⟨rfl, rfl⟩ (by kernel_rfl) rfl
    (fun f fn hf hfn => by
      obtain rfl : f = 3 := Option.some.inj ((show Tryd.prog.funcNamed "lifeline/lifelinelaw06.RegexParse" = some 3 by kernel_rfl).symm.trans hf) |>.symm
      obtain rfl : fn = Tryd.f3 := (Option.some.inj (Tryd.func3.symm.trans hfn)).symm
      exact ⟨by kernel_rfl, fun j t ht => by
        rw [Tryd.params3] at ht
        have hm : t ∈ [22] := by simpa using Array.mem_of_getElem? ht
        have hall : ([22].all fun u => !Tryd.prog.wantsStandIn u) = true := by kernel_rfl
        exact (show Tryd.prog.wantsStandIn t = false by simpa using List.all_eq_true.1 hall t hm)⟩)
    (by kernel_rfl)
end Go.Proofs.YtjceaojffdaihaaDoor.regexParse
