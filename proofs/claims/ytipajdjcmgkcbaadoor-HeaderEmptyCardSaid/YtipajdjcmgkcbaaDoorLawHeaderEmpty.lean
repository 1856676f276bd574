/-
  'lifelinelaw05.HeaderEmpty' answers true for every input of the row, and leaves its arguments as they were.
  Conditions: the package-level variables that the row lists lie as the program's own text lays them (the card ties them to it; what is pinned is a constant of the library's).
-/
import Derived.Test.YtipajdjcmgkcbaaDoorRows
import Derived.Test.YtipajdjcmgkcbaaDoorHeaderRead
import Derived.Test.YtipajdjcmgkcbaaDoorFrame
import Derived.Test.YtipajdjcmgkcbaaDoorFrameDoor
import Derived.Test.YtipajdjcmgkcbaaDoorFrameErrs
import Derived.Test.YtipajdjcmgkcbaaDoorCards
import Derived.WalkKit
import Derived.ProofKit
import Derived.OpenShut
import Derived.ShutString
import Derived.ChangeOld
import Derived.Below
import Derived.WalkLawsBesides
import Derived.IntWalk
import Derived.RegionTactic
import Derived.Deep.QuietTactic
import Derived.BigQuiet
import Derived.Deep.RegionHeld3
import Derived.Deep.DrawnRows
namespace Go.Proofs.YtipajdjcmgkcbaaDoor.headerEmpty
open Go.ChangeShapes Go.WideShapes Go.ChangeAt Go.RowKit
open Go.ChangeMaps (open_string shut_string)
set_option linter.unusedVariables false

theorem own : ownKnob Tryd.prog.godebug = none := by kernel_rfl
theorem laidOut : laidOutB Tryd.prog = true := by kernel_rfl

theorem enc_head {f : Fl} (h : May f) : endsB (encL f) = false := by
  obtain ⟨l, a, b, c⟩ := f
  have hn := h.name
  simp only at hn
  rcases l with _ | ⟨x, r⟩
  · cases hn
  · have hx : letterB x = true := by
      unfold nameB at hn
      simp only [Bool.and_eq_true] at hn
      exact hn.1.2
    have hx0 := within_pos (letter_within hx)
    have he : (encL ⟨x :: r, a, b, c⟩).headD 0 = x := by unfold encL bodyL; simp
    unfold endsB
    rw [he, decide_eq_false hx0, Bool.and_false]
set_option maxHeartbeats 4000000 in
theorem walk (a0 : Option Addr) (n0 c0 : Nat) (b0 : List UInt8) (a1 : Option Addr) (n1 c1 : Nat) (b1 : List UInt8) (w : World) (hT : Tabs w) (hE : Errs w) (h0 : Bys w w.heap.size a0 n0 b0) (l0 : n0 ≤ c0) (s0 : c0 ≤ 140737488351232) (h1 : Bys w w.heap.size a1 n1 b1) (l1 : n1 ≤ c1) (s1 : c1 ≤ 140737488351232) :
    Calls Tryd.prog 6 #[.slice a0 n0 c0, .slice a1 n1 c1] w fun e w' => e = .returned (.bool true) ∧ Below w.heap.size w w' := by
  have H0 := keepHid (awake_any w hT)
  have HT := keepHid hT
  have HE := keepHid hE
  have HY0 := keepHid h0
  have HY1 := keepHid h1
  clear hT hE h0 h1
  go_enter Tryd.func6, Tryd.ntmps6
  go_wp2_with fail
  refine H0.out.mono ?_
  rintro e w1 ⟨rfl, hb1⟩
  have HM := keepHid (empty_any w1)
  have hk2 : Blk (w1.alloc (.cells (zrow 128) 5)) w1.heap.size 5 (byteVals (zeros 128)) := Blk.new w1 _ (zrow 128)
  have hb2 : Below w1.heap.size w1 (w1.alloc (.cells (zrow 128) 5)) := (Below.refl _ _).alloc (Nat.le_refl _) _
  have hz : endsB (zeros 128) = true := ends_zeros
  have hzl : (zeros 128).length = 128 := zeros_len 128
  generalize w1.alloc (.cells (zrow 128) 5) = w2 at *
  generalize zeros 128 = Z at *
  have HZ := keepHid hz
  have HZL := keepHid hzl
  have HK2 := keepHid hk2
  have hb02 := hb1.trans (hb2.mono hb1.size)
  have HB2 := keepHid hb02
  have HT2 := keepHid (HT.out.below hb02 (Nat.le_refl _))
  have HE2 := keepHid (HE.out.below hb02 (Nat.le_refl _))
  clear hz hzl hk2 hb1 hb2 hb02
  go_wp2_with fail
  refine HM.out.mono ?_
  rintro e w' ⟨rfl, rfl⟩
  go_wp2_with fail
  refine (read_any _ 128 128 Z _ ((mk_bys HK2.out HZL.out).more (by have := HK2.out.lt; omega)) HT2.out HE2.out).mono ?_
  rintro e w3 ⟨⟨f, ok, rfl, hrd⟩, hb3⟩
  have hok : ok = false := by
    cases ok
    · rfl
    · obtain ⟨hm, he⟩ := hrd.yes rfl
      have := HZ.out
      rw [he, enc_head hm] at this
      cases this
  subst hok
  obtain ⟨fl, fa, fb, fc⟩ := f
  unfold flV flCells
  dsimp only
  obtain ⟨w4, hw4⟩ : ∃ w4, w3.alloc (.cells #[.string (strB fl), .int .i64 fa, .int .i64 fb, .int .i64 fc] 23) = w4 := ⟨_, rfl⟩
  have hb4 : Below w3.heap.size w3 w4 := by rw [← hw4]; exact (Below.refl _ _).alloc (Nat.le_refl _) _
  have HW4 := keepHid hw4
  have hb24 := hb3.trans (hb4.mono hb3.size)
  have HB4 := keepHid (HB2.out.trans (hb24.mono HB2.out.size))
  have HT4 := keepHid (HT2.out.below hb24 (Nat.le_refl _))
  have HK4 := keepHid (HK2.out.below hb24 HK2.out.lt)
  clear hw4 hb3 hb4 hb24 hrd HK2 HT2 HE2 HM
  go_wp2_with (go_at_call 10; fail)
  rw [HW4.out]
  have hN := nm_any a1 n1 c1 w4.heap.size b1 w4 ((HY1.out.below HB4.out).more HB4.out.size)
  have hM : May ⟨nmL b1, 0, 0, 0⟩ := (mayB_iff _).1 (by unfold mayB; simp only [nm_name b1]; rfl)
  generalize nmL b1 = N1 at *
  have HM := keepHid hM
  refine hN.mono ?_
  rintro e w' ⟨rfl, rfl⟩
  clear hN hM HW4
  go_wp2_with fail
  refine (hmake_ok ⟨N1, 0, 0, 0⟩ HM.out _ HT4.out).mono ?_
  rintro e w5 ⟨g5, rfl, hg5, hk5, hb5⟩
  have HB5 := keepHid (HB4.out.trans (hb5.mono HB4.out.size))
  have HEa := keepHid (ends_any _ 128 128 _ Z w5 (mk_bys (HK4.out.below hb5 HK4.out.lt) HZL.out) (Nat.le_refl _))
  have HEb := keepHid (ends_any _ 128 128 _ _ w5 (mk_bys hk5 (enc_len HM.out)) (Nat.le_refl _))
  have HEc := keepHid (ends_any a0 n0 c0 _ b0 w5 (HY0.out.below HB5.out) l0)
  rw [HZ.out] at HEa
  rw [enc_head HM.out] at HEb
  have HY5 := keepHid (HY0.out.below HB5.out)
  clear hk5 hb5
  by_cases hn : n0 = 128
  · subst hn
    obtain ⟨ad, x, rfl, _, hx, hcell⟩ := HY5.out.at_ (k := 0) (by omega)
    have e0 : ad.add 0 = ad := by unfold Addr.add; split <;> simp_all
    rw [e0] at hcell
    have hl := HY5.out.len
    have hh : b0.headD 0 = x := by
      rcases b0 with _ | ⟨y, r⟩
      · simp at hx
      · simpa using hx
    obtain ⟨q, hq⟩ : ∃ q, decide (x = 0) = q := ⟨_, rfl⟩
    have hE : endsB b0 = q := by unfold endsB; rw [hl, hh, hq]; simp
    rw [hE] at HEc
    have hX : ((x.toNat : Int) == 0) = q := by
      rw [← hq, Bool.eq_iff_iff]
      simp only [beq_iff_eq, decide_eq_true_eq]
      constructor
      · intro h; exact UInt8.toNat_inj.1 (by have h2 : x.toNat = 0 := by omega
                                             rw [h2]; rfl)
      · rintro rfl; rfl
    clear e0 hl hh hq hE hx
    cases q
    all_goals
      go_wp2_with (first
        | ((with_reducible refine HEa.out.mono ?_); rintro e w' ⟨rfl, rfl⟩)
        | ((with_reducible refine HEb.out.mono ?_); rintro e w' ⟨rfl, rfl⟩)
        | ((with_reducible refine HEc.out.mono ?_); rintro e w' ⟨rfl, rfl⟩))
      go_ret
      exact ⟨rfl, HB5.out⟩
  · have hl := HY5.out.len
    have hE : endsB b0 = false := by unfold endsB; rw [hl, decide_eq_false hn]; rfl
    rw [hE] at HEc
    have hne : ((n0 : Int) == 128) = false := by simp; omega
    clear hl hE
    go_wp2_with (first
      | ((with_reducible refine HEa.out.mono ?_); rintro e w' ⟨rfl, rfl⟩)
      | ((with_reducible refine HEb.out.mono ?_); rintro e w' ⟨rfl, rfl⟩)
      | ((with_reducible refine HEc.out.mono ?_); rintro e w' ⟨rfl, rfl⟩))
    go_ret
    exact ⟨rfl, HB5.out⟩

set_option maxRecDepth 100000 in
theorem lifted (os : Os) (started : os.Started) (H : Type) (enc : TypeId × Value → H) :
    ReturnsInHanded {} Tryd.checked os 6 .any (fun w args => (Rows.headerEmptySpec.pre enc Tryd.prog Tryd.f6 [] false w args ∧ laidMetH Tryd.prog laid5 w) ∧ sizedMet enc Tryd.prog Tryd.f6 (OpenSpec.ofChange Rows.headerEmptySpec) false w args) (Rows.headerEmptySpec.post enc Tryd.prog Tryd.f6 false true false false) := by
  refine returnsInHanded_of_change_and (C := Tryd.checked) (X := fun w _ => laidMetH Tryd.prog laid5 w) (fun _ _ _ hh h => h.of_heap hh) own started (by kernel_rfl) Tryd.func6
    (ChangeSpec.witness_shaped (enc := enc) (C := Tryd.checked) (os := os) (X := fun w _ => laidMetH Tryd.prog laid5 w) false (World.doorLaid Tryd.prog 400 os) #[.slice none 0 0, .slice none 0 0] 8 rfl (World.shaped_of_RefB (by kernel_rfl) (by kernel_rfl)) (by kernel_rfl) (by kernel_rfl) (by kernel_rfl) (door5 os _)) ?_
  intro W base args ds gs before hval0 hW hcnd hsz0 hL _
  have hsz : (DataW.weightsEach Tryd.prog (Tryd.f6.params.toList ++ Rows.headerEmptySpec.plain.varTypes Tryd.prog) (ds ++ gs)).all (· ≤ reachBytes) = true := hsz0
  clear hsz0
  have hval : ∀ (j : Nat) t v, Tryd.f6.params[j]? = some t → args[j]? = some v → Value.okWide Tryd.prog W .any base t v := hval0
  have hW' := hW
  obtain ⟨p, q, hA0, hV, rfl, hfz, hnd⟩ := hW
  have hA : DataW.TrodAll enc Tryd.prog W 0 (fun _ => true) true Tryd.f6.params.toList args.toList ds p := hA0
  rw [Tryd.params6] at hA hval hsz
  obtain ⟨v0, vs0, d0, ds0, p0, q0, hargs, rfl, rfl, h0, r0⟩ := trodAll_cons hA
  obtain ⟨v1, vs1, d1, ds1, p1, q1, rfl, rfl, rfl, h1, r1⟩ := trodAll_cons r0
  obtain ⟨rfl, rfl, rfl⟩ := trodAll_nil r1
  obtain rfl : args = #[v0, v1] := by cases args; simp_all
  obtain ⟨rfl, rfl⟩ := trodVars_none hV
  have k0 := h0
  have lt0 : ∀ x ∈ p0, x.block < W.heap.size := by obtain ⟨m, hm⟩ := k0; exact DataW.trod_lt m _ _ _ hm
  have k1 := h1
  have lt1 : ∀ x ∈ p1, x.block < W.heap.size := by obtain ⟨m, hm⟩ := k1; exact DataW.trod_lt m _ _ _ hm
  obtain ⟨a0, n0, c0, b0, rfl, w0, l0, s0⟩ := open_bys Tryd.underlying24 Tryd.underlying5 (by kernel_rfl) (by kernel_rfl) (hval 0 24 v0 rfl rfl) (fun _ => rfl) h0 (fun el sp hd => sized_slice hsz (j := 0) (t := 24) (e := 5) rfl (by rw [hd]; rfl) Tryd.underlying24)
  obtain ⟨a1, n1, c1, b1, rfl, w1, l1, s1⟩ := open_bys Tryd.underlying24 Tryd.underlying5 (by kernel_rfl) (by kernel_rfl) (hval 1 24 v1 rfl rfl) (fun _ => rfl) h1 (fun el sp hd => sized_slice hsz (j := 1) (t := 24) (e := 5) rfl (by rw [hd]; rfl) Tryd.underlying24)
  clear hA0 hval0
  refine (walk a0 n0 c0 b0 a1 n1 c1 b1 W (tabs5 hL) (errs5 hL) w0 l0 s0 w1 l1 s1).mono fun e W' ⟨he, bel⟩ => ?_
  subst he
  exact ⟨_, rfl, _, _, _, [], _, [], hW', trodAll_mk1 (shut_bool Tryd.underlying4 _), (trodAll_cons_mk (Below.trod laidOut (by kernel_rfl) (of_decide_eq_true (by kernel_rfl)) k0 bel lt0) (trodAll_cons_mk (Below.trod laidOut (by kernel_rfl) (of_decide_eq_true (by kernel_rfl)) k1 bel lt1) trodAll_mk0)), rfl, bel.frame _, fun h => by cases h⟩

theorem over : Rows.headerEmptyRow.holds Tryd.pinned (OpenSpec.ofChange Rows.headerEmptySpec) :=
  OpenClaim.holds_of_wide 6 Tryd.f6 rfl rfl rfl rfl rfl rfl rfl ⟨rfl, rfl, rfl, rfl, rfl⟩ rfl rfl rfl rfl rfl (by kernel_rfl) Tryd.func6 (by kernel_rfl)
    (of_decide_eq_true (by kernel_rfl)) (by unfold Func.isWrapper; first | (rw [if_pos (by decide +kernel)]; kernel_rfl) | (rw [if_neg (by decide +kernel)]; exact ⟨rfl, rfl⟩))
    (fun os started H enc _ => lifted os started H enc)

/-- The card: what the row lists is tied to the program's own text. -/
theorem proved : Rows.HeaderEmptyCardSaid :=
  Claim7.holds_tied_plain_at .later [] [.data, .data, .data, .sentinel, .sentinel] true Rows.headerEmptyCard.stood.harness true
    over (fun _ h => by cases h) (by kernel_rfl) (fun _ h => by cases h) headerEmpty_row_tie rfl ⟨rfl, rfl⟩ (by kernel_rfl) rfl
    (fun f fn hf hfn => by
      obtain rfl : f = 6 := Option.some.inj ((show Tryd.prog.funcNamed "lifeline/lifelinelaw05.HeaderEmpty" = some 6 by kernel_rfl).symm.trans hf) |>.symm
      obtain rfl : fn = Tryd.f6 := (Option.some.inj (Tryd.func6.symm.trans hfn)).symm
      exact ⟨by kernel_rfl, fun j t ht => by
        rw [Tryd.params6] at ht
        have hm : t ∈ [24, 24] := by simpa using Array.mem_of_getElem? ht
        have hall : ([24, 24].all fun u => !Tryd.prog.wantsStandIn u) = true := by kernel_rfl
        exact (show Tryd.prog.wantsStandIn t = false by simpa using List.all_eq_true.1 hall t hm)⟩)
    (by kernel_rfl)
end Go.Proofs.YtipajdjcmgkcbaaDoor.headerEmpty
