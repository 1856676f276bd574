/-
  'lifelinelaw06.RegexWrong' answers true for every input of the row, and leaves its arguments as they were.
  Conditions: the package-level variables that the row lists lie as the program's own text lays them (the card ties them to it; what is pinned is a constant of the library's).
-/
import Derived.Test.YtjceaojffdaihaaDoorRows
import Derived.Test.YtjceaojffdaihaaDoorRegexSame
import Derived.Test.YtjceaojffdaihaaDoorRegexRight
import Derived.Test.YtjceaojffdaihaaDoorFrame
import Derived.Test.YtjceaojffdaihaaDoorFrameRegex
import Derived.Test.YtjceaojffdaihaaDoorCards
import Derived.WalkKit
import Derived.ProofKit
import Derived.OpenShut
import Derived.ShutString
import Derived.ChangeOld
import Derived.Below
import Derived.WalkLawsBesides
import Derived.IntWalk
import Derived.Deep.QuietTactic
import Derived.BigQuiet
import Derived.Deep.DeepCutAuto
import Derived.Outline
namespace Go.Proofs.YtjceaojffdaihaaDoor.regexWrong
open Go.ChangeShapes Go.WideShapes Go.ChangeAt Go.RowKit
open Go.ChangeMaps (open_string shut_string)
set_option linter.unusedVariables false

theorem own : ownKnob Tryd.prog.godebug = none := by kernel_rfl
theorem laidOut : laidOutB Tryd.prog = true := by kernel_rfl

theorem parseF_le {bs : List UInt8} {p : Nat} (h : parseF bs = (none, p)) : p ≤ bs.length := by
  unfold parseF at h
  split at h
  · cases h
  · injection h with _ h
    omega

set_option maxHeartbeats 2000000 in
theorem walk (x0 : ByteArray) (w : World) (hT : ErrT w) (h0 : x0.size ≤ 140737488351232) :
    Calls Tryd.prog 6 #[.string x0] w fun e w' => e = .returned (.bool true) ∧ Below w.heap.size w w' := by
  obtain ⟨bs, rfl⟩ : ∃ bs : List UInt8, x0 = strB bs := ⟨x0.data.toList, rfl⟩
  have hsz : (strB bs).size = bs.length := strB_size bs
  have hlen : bs.length ≤ 140737488351232 := by rw [← hsz]; exact h0
  have HA := keepHid (awake_any w hT)
  have HT := keepHid hT
  have HPA := keepHid (fun w => parse_any bs w)
  generalize strB bs = D at *
  clear hT h0
  go_enter Tryd.func6, Tryd.ntmps6
  go_wp2_with fail
  refine HA.out.mono ?_
  rintro e w1 ⟨rfl, hb1⟩
  have HB1 := keepHid hb1
  have HT1 := keepHid (HT.out.below hb1 HT.out.pos)
  clear hb1 HA
  go_wp2_with fail
  refine (HPA.out w1).mono ?_
  rintro e w2 hp
  obtain ⟨hb2, hcase⟩ := hp
  have HB2 := keepHid (HB1.out.trans (hb2.mono HB1.out.size))
  have HT2 := keepHid (HT1.out.below hb2 HT1.out.pos)
  clear hb2
  rcases hcase with ⟨h64, rfl⟩ | ⟨h64, ⟨r, h, hf, rfl, hir⟩ | ⟨p, hf, rfl⟩⟩
  · have i1 : (64 : Int) < (bs.length : Int) := by omega
    obtain ⟨w3, hw3⟩ : ∃ w3, w2.alloc (.cells #[.int .i64 0, .int .u64 0, .int .u64 0, .int .u64 0, .int .u64 0, .slice none 0 0] 30) = w3 := ⟨_, rfl⟩
    have HW3 := keepHid hw3
    have HK3 := keepHid (node_new hw3)
    have hb23 : Below w2.heap.size w2 w3 := by rw [← hw3]; exact (Below.refl _ _).alloc (Nat.le_refl _) _
    have HB3 := keepHid (HB2.out.trans (hb23.mono HB2.out.size))
    have HT3 := keepHid (HT2.out.below hb23 HT2.out.pos)
    clear hw3 hb23
    rw [hdV_hd0]
    unfold faultV
    go_wp2_with fail
    rw [HW3.out]
    have HN := keepHid (number_any 7 64 w3 HT3.out)
    have hk3 := HK3.out
    unfold faultV at HN
    refine HN.out.mono ?_
    rintro e w4 ⟨rfl, hb4⟩
    have HB4 := keepHid (HB3.out.trans (hb4.mono HB3.out.size))
    have HT4 := keepHid (HT3.out.below hb4 HT3.out.pos)
    have HQ := keepHid (place_any 7 64 w4 HT4.out)
    unfold faultV at HQ
    have HK4 := keepHid (HK3.out.below hb4 HK3.out.lt)
    clear hb4 hk3
    go_wp2_with fail
    refine HQ.out.mono ?_
    rintro e w5 ⟨rfl, hb5⟩
    have HB5 := keepHid (HB4.out.trans (hb5.mono HB4.out.size))
    obtain ⟨k0, k1, k2, k3, k4, k5, kf⟩ := blk6 (HK4.out.below hb5 HK4.out.lt)
    have HS := keepHid (same_any .nil (fun _ => True) (fun _ => True) hd0 hd0 w5 rfl rfl)
    rw [hdV_hd0] at HS
    clear hb5
    go_wp2_with fail
    refine HS.out.mono ?_
    rintro e w6 ⟨rfl, hb6⟩
    have HB6 := keepHid (HB5.out.trans (hb6.mono HB5.out.size))
    go_wp2
    go_ret
    exact ⟨rfl, HB6.out⟩
  · have i1 : (bs.length : Int) ≤ 64 := by omega
    obtain ⟨w3, hw3⟩ : ∃ w3, w2.alloc (.cells (hdC h) 30) = w3 := ⟨_, rfl⟩
    have hk3 : Blk w3 w2.heap.size 30 (hdC h) := by rw [← hw3]; exact Blk.new _ _ _
    have hb23 : Below w2.heap.size w2 w3 := by rw [← hw3]; exact (Below.refl _ _).alloc (Nat.le_refl _) _
    have HB3 := keepHid (HB2.out.trans (hb23.mono HB2.out.size))
    have HR := keepHid (right_any r (fun g => w1.heap.size ≤ g) h w3 (hir.below hb23))
    have HW3 := keepHid hw3
    clear hw3 hb23 hir hf hk3
    unfold hdV at HR ⊢
    unfold hdC at HW3
    go_wp2_with fail
    rw [HW3.out]
    refine HR.out.mono ?_
    rintro e w6 ⟨rfl, hb6⟩
    have HB6 := keepHid (HB3.out.trans (hb6.mono HB3.out.size))
    go_wp2
    go_ret
    exact ⟨rfl, HB6.out⟩
  · have i1 : (bs.length : Int) ≤ 64 := by omega
    have i2 : (p : Int) ≤ (bs.length : Int) := by have := parseF_le hf; omega
    have i3 : (0 : Int) ≤ (p : Int) := by omega
    obtain ⟨w3, hw3⟩ : ∃ w3, w2.alloc (.cells #[.int .i64 0, .int .u64 0, .int .u64 0, .int .u64 0, .int .u64 0, .slice none 0 0] 30) = w3 := ⟨_, rfl⟩
    have HW3 := keepHid hw3
    have HK3 := keepHid (node_new hw3)
    have hb23 : Below w2.heap.size w2 w3 := by rw [← hw3]; exact (Below.refl _ _).alloc (Nat.le_refl _) _
    have HB3 := keepHid (HB2.out.trans (hb23.mono HB2.out.size))
    have HT3 := keepHid (HT2.out.below hb23 HT2.out.pos)
    clear hw3 hb23 hf
    rw [hdV_hd0]
    unfold faultV
    go_wp2_with fail
    rw [HW3.out]
    have HN := keepHid (number_any 8 (p : Int) w3 HT3.out)
    have hk3 := HK3.out
    unfold faultV at HN
    refine HN.out.mono ?_
    rintro e w4 ⟨rfl, hb4⟩
    have HB4 := keepHid (HB3.out.trans (hb4.mono HB3.out.size))
    have HT4 := keepHid (HT3.out.below hb4 HT3.out.pos)
    have HQ := keepHid (place_any 8 (p : Int) w4 HT4.out)
    unfold faultV at HQ
    have HK4 := keepHid (HK3.out.below hb4 HK3.out.lt)
    clear hb4 hk3
    go_wp2_with fail
    refine HQ.out.mono ?_
    rintro e w5 ⟨rfl, hb5⟩
    have HB5 := keepHid (HB4.out.trans (hb5.mono HB4.out.size))
    obtain ⟨k0, k1, k2, k3, k4, k5, kf⟩ := blk6 (HK4.out.below hb5 HK4.out.lt)
    have HS := keepHid (same_any .nil (fun _ => True) (fun _ => True) hd0 hd0 w5 rfl rfl)
    rw [hdV_hd0] at HS
    clear hb5
    go_wp2_with fail
    refine HS.out.mono ?_
    rintro e w6 ⟨rfl, hb6⟩
    have HB6 := keepHid (HB5.out.trans (hb6.mono HB5.out.size))
    go_wp2
    go_ret
    exact ⟨rfl, HB6.out⟩

set_option maxRecDepth 100000 in
theorem lifted (os : Os) (started : os.Started) (H : Type) (enc : TypeId × Value → H) :
    ReturnsInHanded {} Tryd.checked os 6 .any (fun w args => (Rows.regexWrongSpec.pre enc Tryd.prog Tryd.f6 [] false w args ∧ laidMetH Tryd.prog laidR w) ∧ sizedMet enc Tryd.prog Tryd.f6 (OpenSpec.ofChange Rows.regexWrongSpec) false w args) (Rows.regexWrongSpec.post enc Tryd.prog Tryd.f6 false true false false) := by
  refine returnsInHanded_of_change_and (C := Tryd.checked) (X := fun w _ => laidMetH Tryd.prog laidR w) (fun _ _ _ hh h => h.of_heap hh) own started (by kernel_rfl) Tryd.func6
    (ChangeSpec.witness_shaped (enc := enc) (C := Tryd.checked) (os := os) (X := fun w _ => laidMetH Tryd.prog laidR w) false (World.doorLaid Tryd.prog 400 os) #[.string ⟨#[]⟩] 8 rfl (World.shaped_of_RefB (by kernel_rfl) (by kernel_rfl)) (by kernel_rfl) (by kernel_rfl) (by kernel_rfl) (doorR os _)) ?_
  intro W base args ds gs before hval0 hW hcnd hsz0 hL _
  have hsz : (DataW.weightsEach Tryd.prog (Tryd.f6.params.toList ++ Rows.regexWrongSpec.plain.varTypes Tryd.prog) (ds ++ gs)).all (· ≤ reachBytes) = true := hsz0
  clear hsz0
  have hval : ∀ (j : Nat) t v, Tryd.f6.params[j]? = some t → args[j]? = some v → Value.okWide Tryd.prog W .any base t v := hval0
  have hW' := hW
  obtain ⟨p, q, hA0, hV, rfl, hfz, hnd⟩ := hW
  have hA : DataW.TrodAll enc Tryd.prog W 0 (fun _ => true) true Tryd.f6.params.toList args.toList ds p := hA0
  rw [Tryd.params6] at hA hval hsz
  obtain ⟨v0, vs0, d0, ds0, p0, q0, hargs, rfl, rfl, h0, r0⟩ := trodAll_cons hA
  obtain ⟨rfl, rfl, rfl⟩ := trodAll_nil r0
  obtain rfl : args = #[v0] := by cases args; simp_all
  obtain ⟨rfl, rfl⟩ := trodVars_none hV
  have k0 := h0
  have lt0 : ∀ x ∈ p0, x.block < W.heap.size := by obtain ⟨m, hm⟩ := k0; exact DataW.trod_lt m _ _ _ hm
  obtain ⟨x0, rfl, rfl, rfl, _⟩ := open_string Tryd.underlying9 (hval 0 9 v0 rfl rfl) h0
  have w0 : x0.size ≤ 140737488351232 := by have := sized_string hsz (j := 0) (t := 9) rfl rfl; simpa [reachBytes] using this
  clear hA0 hval0
  refine (walk x0 W (tabsR hL) w0).mono fun e W' ⟨he, bel⟩ => ?_
  subst he
  exact ⟨_, rfl, _, _, _, [], _, [], hW', trodAll_mk1 (shut_bool Tryd.underlying4 _), (trodAll_cons_mk (Below.trod laidOut (by kernel_rfl) (of_decide_eq_true (by kernel_rfl)) k0 bel lt0) trodAll_mk0), rfl, bel.frame _, fun h => by cases h⟩

theorem over : Rows.regexWrongRow.holds Tryd.pinned (OpenSpec.ofChange Rows.regexWrongSpec) :=
  OpenClaim.holds_of_wide 6 Tryd.f6 rfl rfl rfl rfl rfl rfl rfl ⟨rfl, rfl, rfl, rfl, rfl⟩ rfl rfl rfl rfl rfl (by kernel_rfl) Tryd.func6 (by kernel_rfl)
    (of_decide_eq_true (by kernel_rfl)) (by unfold Func.isWrapper; first | (rw [if_pos (by decide +kernel)]; kernel_rfl) | (rw [if_neg (by decide +kernel)]; exact ⟨rfl, rfl⟩))
    (fun os started H enc _ => lifted os started H enc)

/-- The card: what the row lists is tied to the program's own text. -/
theorem proved : Rows.RegexWrongCardSaid :=
  Claim7.holds_tied_plain_at .later [] [.handle] true Rows.regexWrongCard.stood.harness true
    over (fun _ h => by cases h) (by kernel_rfl) (fun _ h => by cases h) regexWrong_row_tie rfl ⟨rfl, rfl⟩ (by kernel_rfl) rfl
    (fun f fn hf hfn => by
      obtain rfl : f = 6 := Option.some.inj ((show Tryd.prog.funcNamed "lifeline/lifelinelaw06.RegexWrong" = some 6 by kernel_rfl).symm.trans hf) |>.symm
      obtain rfl : fn = Tryd.f6 := (Option.some.inj (Tryd.func6.symm.trans hfn)).symm
      exact ⟨by kernel_rfl, fun j t ht => by
        rw [Tryd.params6] at ht
        have hm : t ∈ [9] := by simpa using Array.mem_of_getElem? ht
        have hall : ([9].all fun u => !Tryd.prog.wantsStandIn u) = true := by kernel_rfl
        exact (show Tryd.prog.wantsStandIn t = false by simpa using List.all_eq_true.1 hall t hm)⟩)
    (by kernel_rfl)
end Go.Proofs.YtjceaojffdaihaaDoor.regexWrong
