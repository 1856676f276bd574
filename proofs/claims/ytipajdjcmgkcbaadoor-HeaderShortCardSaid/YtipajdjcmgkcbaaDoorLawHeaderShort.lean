/-
  'lifelinelaw05.HeaderShort' answers true for every input of the row, and leaves its arguments as they were.
  Conditions: the package-level variables that the row lists lie as the program's own text lays them (the card ties them to it; what is pinned is a constant of the library's).
-/
import Derived.Test.YtipajdjcmgkcbaaDoorRows
import Derived.Test.YtipajdjcmgkcbaaDoorHeaderRead
import Derived.Test.YtipajdjcmgkcbaaDoorFrame
import Derived.Test.YtipajdjcmgkcbaaDoorFrameDoor
import Derived.Test.YtipajdjcmgkcbaaDoorFrameErrs
import Derived.Test.YtipajdjcmgkcbaaDoorCards
import Derived.WalkKit
import Derived.ProofKit
import Derived.OpenShut
import Derived.ShutString
import Derived.ChangeOld
import Derived.Below
import Derived.WalkLawsBesides
import Derived.IntWalk
import Derived.RegionTactic
import Derived.Deep.QuietTactic
import Derived.BigQuiet
import Derived.Deep.RegionHeld3
import Derived.Deep.DrawnRows
namespace Go.Proofs.YtipajdjcmgkcbaaDoor.headerShort
open Go.ChangeShapes Go.WideShapes Go.ChangeAt Go.RowKit
open Go.ChangeMaps (open_string shut_string)
set_option linter.unusedVariables false

theorem own : ownKnob Tryd.prog.godebug = none := by kernel_rfl
theorem laidOut : laidOutB Tryd.prog = true := by kernel_rfl

def flS : Fl := ⟨[97], 0, 0, 0⟩
theorem may_S : mayB flS = true := by decide
theorem neq_file (f g : Fl) (W : World) : (binOp .neq 23 (flV f) (flV g)).run Tryd.prog W = .ok (.bool (!decide (f = g))) W := by
  have h := eq_file f g W
  unfold flV at h ⊢
  rw [run_eql_struct] at h
  rw [run_neq_struct]
  cases hr : (Op.equalIn 10000 23 (.agg (flCells f)) (.agg (flCells g))).run Tryd.prog W with
  | ok b w' =>
    rw [hr] at h
    simp only [Result.andThen] at h ⊢
    injection h with h1 h2
    injection h1 with h1
    rw [h1, h2]
  | halt x w' => rw [hr] at h; simp [Result.andThen] at h
set_option maxHeartbeats 4000000 in
theorem walk (f0 : Fl) (a1 : Option Addr) (n1 c1 : Nat) (b1 : List UInt8) (x2 : Int) (a3 : Option Addr) (n3 c3 : Nat) (b3 : List UInt8) (w : World) (hT : Tabs w) (hE : Errs w) (h0 : Fits f0) (h1 : Bys w w.heap.size a1 n1 b1) (l1 : n1 ≤ c1) (s1 : c1 ≤ 140737488351232) (h2 : 0 ≤ x2 ∧ x2 ≤ 255) (h3 : Bys w w.heap.size a3 n3 b3) (l3 : n3 ≤ c3) (s3 : c3 ≤ 140737488351232) :
    Calls Tryd.prog 8 #[flV f0, .slice a1 n1 c1, .int .u8 x2, .slice a3 n3 c3] w fun e w' => e = .returned (.bool true) ∧ Below w.heap.size w w' := by
  obtain ⟨l, a, b, c⟩ := f0
  obtain ⟨u, rfl⟩ : ∃ u : Nat, x2 = (u : Int) := ⟨x2.toNat, by omega⟩
  obtain ⟨w0, hw0⟩ : ∃ w0, w.alloc (.cells #[.string (strB l), .int .i64 a, .int .i64 b, .int .i64 c] 23) = w0 := ⟨_, rfl⟩
  have hk0 : Blk w0 w.heap.size 23 (flCells ⟨l, a, b, c⟩) := by rw [← hw0]; exact Blk.new w _ _
  have hb0 : Below w.heap.size w w0 := by rw [← hw0]; exact (Below.refl _ _).alloc (Nat.le_refl _) _
  have HF0 := keepHid (fileAt_blk hk0)
  have HB0 := keepHid hb0
  have H0 := keepHid (awake_any w0 (hT.below hb0 (Nat.le_refl _)))
  have HT0 := keepHid (hT.below hb0 (Nat.le_refl _))
  have HE0 := keepHid (hE.below hb0 (Nat.le_refl _))
  have HY1 := keepHid h1
  have HY3 := keepHid h3
  have HFIT := keepHid h0
  have hl3 := h3.len
  have HL3 := keepHid hl3
  clear hk0 hb0 hT hE h0 h1 h3 hl3
  show Calls Tryd.prog 8 #[.agg #[.string (strB l), .int .i64 a, .int .i64 b, .int .i64 c], .slice a1 n1 c1, .int .u8 (u : Int), .slice a3 n3 c3] w _
  go_enter Tryd.func8, Tryd.ntmps8
  go_wp2_with fail
  refine H0.out.mono ?_
  rintro e w1 ⟨rfl, hb1⟩
  have HB1 := keepHid (HB0.out.trans (hb1.mono HB0.out.size))
  have HT1 := keepHid (HT0.out.below hb1 (Nat.le_refl _))
  have HE1 := keepHid (HE0.out.below hb1 (Nat.le_refl _))
  have HF1 := keepHid (HF0.out.below hb1 HF0.out.lt)
  have hN := nm_any a1 n1 c1 w1.heap.size b1 w1 ((HY1.out.below HB1.out).more HB1.out.size)
  have hM : May ⟨nmL b1, 5, 0, 0⟩ := (mayB_iff _).1 (by unfold mayB; simp only [nm_name b1]; rfl)
  generalize nmL b1 = N1 at *
  have HM := keepHid hM
  have HN := keepHid hN
  clear hN hM hw0 hb1
  go_wp2_with fail
  refine HN.out.mono ?_
  rintro e w' ⟨rfl, rfl⟩
  go_wp2_with fail
  refine (hmake_ok ⟨N1, 5, 0, 0⟩ HM.out _ HT1.out).mono ?_
  rintro e w2 ⟨g2, rfl, hg2, hk2, hb2⟩
  obtain ⟨E, hEE⟩ : ∃ E, encL ⟨N1, 5, 0, 0⟩ = E := ⟨_, rfl⟩
  have hEl : E.length = 128 := by rw [← hEE]; exact enc_len HM.out
  rw [hEE] at hk2
  have HEE := keepHid hEE
  have HEL := keepHid hEl
  have HK2 := keepHid hk2
  have HB2 := keepHid (HB1.out.trans (hb2.mono HB1.out.size))
  have HT2 := keepHid (HT1.out.below hb2 (Nat.le_refl _))
  have HE2 := keepHid (HE1.out.below hb2 (Nat.le_refl _))
  have HF2 := keepHid (HF1.out.below hb2 HF1.out.lt)
  have hy2 := (mk_bys hk2 hEl).more (B' := w2.heap.size) (by have := hk2.lt; omega)
  have HY2 := keepHid hy2
  obtain ⟨k, hk⟩ : ∃ k, u % 128 = k := ⟨_, rfl⟩
  have hk128 : k < 128 := by rw [← hk]; exact Nat.mod_lt _ (by omega)
  have eu : (u : Int) % 128 = (k : Int) := by omega
  clear hEE hEl hk2 hb2 hk hy2
  go_wp2_with fail
  refine (read_any (some ⟨g2, 0, none⟩) k 128 (E.take k) _ (HY2.out.head (by omega)) HT2.out HE2.out).mono ?_
  rintro e w3 ⟨⟨f3, ok3, rfl, hrd3⟩, hb3⟩
  have hok3 : ok3 = false := by
    cases ok3
    · rfl
    · obtain ⟨hm, he⟩ := hrd3.yes rfl
      have := congrArg List.length he
      rw [enc_len hm, List.length_take, HEL.out] at this
      omega
  subst hok3
  obtain ⟨fl, fa, fb, fc⟩ := f3
  unfold flV flCells
  dsimp only
  obtain ⟨w4, hw4⟩ : ∃ w4, w3.alloc (.cells #[.string (strB fl), .int .i64 fa, .int .i64 fb, .int .i64 fc] 23) = w4 := ⟨_, rfl⟩
  have hb4 : Below w3.heap.size w3 w4 := by rw [← hw4]; exact (Below.refl _ _).alloc (Nat.le_refl _) _
  have HW4 := keepHid hw4
  have hb24 := hb3.trans (hb4.mono hb3.size)
  have HB4 := keepHid (HB2.out.trans (hb24.mono HB2.out.size))
  have HT4 := keepHid (HT2.out.below hb24 (Nat.le_refl _))
  have HE4 := keepHid (HE2.out.below hb24 (Nat.le_refl _))
  have HF4 := keepHid (HF2.out.below hb24 HF2.out.lt)
  have HY4 := keepHid ((HY2.out.below hb24).more hb24.size)
  clear hw4 hb3 hb4 hb24 hrd3
  go_wp2_with (at_builtin; rw [HW4.out]; go_loud (refine wpList_append_bytes _ rfl _ _ 24 rfl w4.heap.size 5 byteT _ _ _ (by rfl) (OwnB.nil w4 w4.heap.size 5) _ _ _ _ _ (by rfl) HY4.out 128 (Nat.zero_add _) (by omega) (Nat.le_refl _) ?_))
  intro A5 cap5 w5 ho5 ht5 _ _ _
  have hb45 : Below w4.heap.size w4 w5 := ht5.below (fun i hi => by simp [Value.ownBlock] at hi) (Nat.le_refl _)
  have HO5 := keepHid ho5
  have hs45 := hb45.size
  have HB5 := keepHid (HB4.out.trans (hb45.mono HB4.out.size))
  have HY35 := keepHid ((HY3.out.below HB5.out).more HB5.out.size)
  have HBB5 := keepHid hb45
  clear ho5 ht5 hb45
  go_wp2_with (at_builtin; go_loud (refine wpList_append_bytes _ rfl _ _ 24 rfl w4.heap.size 5 byteT _ _ _ (by rfl) HO5.out _ _ _ _ _ (by rfl) HY35.out (128 + n3) rfl (by omega) hs45 ?_))
  intro A6 cap6 w6 ho6 ht6 _ hc61 hc62
  have hb46 : Below w4.heap.size w4 w6 := HBB5.out.trans (ht6.below (own_base HO5.out) hs45)
  have hy6 := ho6.bys (by omega)
  have HY6 := keepHid hy6
  have HB6 := keepHid (HB4.out.trans (hb46.mono HB4.out.size))
  have HT6 := keepHid (HT4.out.below hb46 (Nat.le_refl _))
  have HE6 := keepHid (HE4.out.below hb46 (Nat.le_refl _))
  have HF6 := keepHid (HF4.out.below hb46 HF4.out.lt)
  have HYd6 := keepHid ((HY4.out.below hb46).more hb46.size)
  clear ho6 ht6 hb46 hy6 HO5 HBB5
  go_wp2_with fail
  refine (read_any A6 (128 + n3) cap6 (E ++ b3) _ HY6.out HT6.out HE6.out).mono ?_
  rintro e w7 ⟨⟨f7, ok7, rfl, hrd7⟩, hb7⟩
  have hok7 : ok7 = ((n3 : Int) == 0) := by
    rcases Nat.eq_zero_or_pos n3 with h0 | h0
    · have hb : b3 = [] := List.eq_nil_of_length_eq_zero (by rw [HL3.out, h0])
      cases ok7
      · exact absurd (by rw [hb, List.append_nil, HEE.out]) ((hrd7.no rfl).2 _ HM.out)
      · subst h0; rfl
    · cases ok7
      · symm; simp; omega
      · obtain ⟨hm, he⟩ := hrd7.yes rfl
        have := congrArg List.length he
        rw [enc_len hm, List.length_append, HEL.out, HL3.out] at this
        omega
  have HOK := keepHid hok7
  obtain ⟨gl, ga, gb, gc⟩ := f7
  unfold flV flCells
  dsimp only
  obtain ⟨w8, hw8⟩ : ∃ w8, w7.alloc (.cells #[.string (strB gl), .int .i64 ga, .int .i64 gb, .int .i64 gc] 23) = w8 := ⟨_, rfl⟩
  have hb8 : Below w7.heap.size w7 w8 := by rw [← hw8]; exact (Below.refl _ _).alloc (Nat.le_refl _) _
  have HW8 := keepHid hw8
  have hb68 := hb7.trans (hb8.mono hb7.size)
  have HB8 := keepHid (HB6.out.trans (hb68.mono HB6.out.size))
  have HT8 := keepHid (HT6.out.below hb68 (Nat.le_refl _))
  have HE8 := keepHid (HE6.out.below hb68 (Nat.le_refl _))
  have HF8 := keepHid (HF6.out.below hb68 HF6.out.lt)
  have HYd8 := keepHid ((HYd6.out.below hb68).more hb68.size)
  clear hw8 hb7 hb8 hb68 hrd7 hok7
  go_wp2_with (go_at_call 12; fail)
  rw [HW8.out]
  refine (read_any (some ⟨g2, 0, none⟩) 128 128 E _ HYd8.out HT8.out HE8.out).mono ?_
  rintro e w9 ⟨⟨f9, ok9, rfl, hrd9⟩, hb9⟩
  have hok9 : ok9 = true := by
    cases ok9
    · exact absurd HEE.out.symm ((hrd9.no rfl).2 _ HM.out)
    · rfl
  subst hok9
  obtain ⟨ql, qa, qb, qc⟩ := f9
  unfold flV flCells
  dsimp only
  obtain ⟨w10, hw10⟩ : ∃ w10, w9.alloc (.cells #[.string (strB ql), .int .i64 qa, .int .i64 qb, .int .i64 qc] 23) = w10 := ⟨_, rfl⟩
  have hb10 : Below w9.heap.size w9 w10 := by rw [← hw10]; exact (Below.refl _ _).alloc (Nat.le_refl _) _
  have HW10 := keepHid hw10
  have hb810 := hb9.trans (hb10.mono hb9.size)
  have HB10 := keepHid (HB8.out.trans (hb810.mono HB8.out.size))
  have hF10 := HF8.out.below hb810 HF8.out.lt
  have HF10 := keepHid hF10
  have hc0 := hF10.c0; have hc1 := hF10.c1; have hc2 := hF10.c2; have hc3 := hF10.c3
  have hMA := may_any ⟨l, a, b, c⟩ HFIT.out.name w10
  have hne : ∀ W, (binOp .neq 23 (.agg #[.string (strB l), .int .i64 a, .int .i64 b, .int .i64 c]) (.agg #[.string ⟨#[97]⟩, .int .i64 0, .int .i64 0, .int .i64 0])).run Tryd.prog W = .ok (.bool (!decide ((⟨l, a, b, c⟩ : Fl) = flS))) W := fun W => neq_file ⟨l, a, b, c⟩ flS W
  have hdec : mayB ⟨l, a, b, c⟩ = false → decide ((⟨l, a, b, c⟩ : Fl) = flS) = false := fun h => by
    apply decide_eq_false
    intro h2
    rw [h2, may_S] at h
    cases h
  have HDEC := keepHid hdec
  obtain ⟨q, hq⟩ : ∃ q, decide ((⟨l, a, b, c⟩ : Fl) = flS) = q := ⟨_, rfl⟩
  obtain ⟨p, hp⟩ : ∃ p, mayB ⟨l, a, b, c⟩ = p := ⟨_, rfl⟩
  rw [hq] at hne HDEC
  rw [hp] at hMA HDEC
  have HMA := keepHid hMA
  clear hb9 hb10 hb810 hrd9 hF10 hMA hdec hq hp HW10
  obtain ⟨z, hz⟩ : ∃ z, ((n3 : Int) == 0) = z := ⟨_, rfl⟩
  have hok := HOK.out
  rw [hz] at hok
  subst hok
  clear HOK
  cases p
  · obtain rfl := HDEC.out rfl
    clear HDEC
    cases ok7
    all_goals
      go_wp2_with (refine HMA.out.mono ?_; rintro e w' ⟨rfl, hb⟩; have HB11 := keepHid (HB10.out.trans (hb.mono HB10.out.size)); have gF := HF10.out.below hb HF10.out.lt; have d0 := gF.c0; have d1 := gF.c1; have d2 := gF.c2; have d3 := gF.c3; clear hb gF)
      go_ret
      exact ⟨rfl, HB11.out⟩
  · clear HDEC hne
    cases ok7
    all_goals
      go_wp2_with (refine HMA.out.mono ?_; rintro e w' ⟨rfl, hb⟩; have HB11 := keepHid (HB10.out.trans (hb.mono HB10.out.size)); clear hb)
      go_ret
      exact ⟨rfl, HB11.out⟩

set_option maxRecDepth 100000 in
theorem lifted (os : Os) (started : os.Started) (H : Type) (enc : TypeId × Value → H) :
    ReturnsInHanded {} Tryd.checked os 8 .any (fun w args => (Rows.headerShortSpec.pre enc Tryd.prog Tryd.f8 [] false w args ∧ laidMetH Tryd.prog laid5 w) ∧ sizedMet enc Tryd.prog Tryd.f8 (OpenSpec.ofChange Rows.headerShortSpec) false w args) (Rows.headerShortSpec.post enc Tryd.prog Tryd.f8 false true false false) := by
  refine returnsInHanded_of_change_and (C := Tryd.checked) (X := fun w _ => laidMetH Tryd.prog laid5 w) (fun _ _ _ hh h => h.of_heap hh) own started (by kernel_rfl) Tryd.func8
    (ChangeSpec.witness_shaped (enc := enc) (C := Tryd.checked) (os := os) (X := fun w _ => laidMetH Tryd.prog laid5 w) false (World.doorLaid Tryd.prog 400 os) #[.agg #[.string ⟨#[]⟩, .int .i64 0, .int .i64 0, .int .i64 0], .slice none 0 0, .int .u8 0, .slice none 0 0] 8 rfl (World.shaped_of_RefB (by kernel_rfl) (by kernel_rfl)) (by kernel_rfl) (by kernel_rfl) (by kernel_rfl) (door5 os _)) ?_
  intro W base args ds gs before hval0 hW hcnd hsz0 hL _
  have hsz : (DataW.weightsEach Tryd.prog (Tryd.f8.params.toList ++ Rows.headerShortSpec.plain.varTypes Tryd.prog) (ds ++ gs)).all (· ≤ reachBytes) = true := hsz0
  clear hsz0
  have hval : ∀ (j : Nat) t v, Tryd.f8.params[j]? = some t → args[j]? = some v → Value.okWide Tryd.prog W .any base t v := hval0
  have hW' := hW
  obtain ⟨p, q, hA0, hV, rfl, hfz, hnd⟩ := hW
  have hA : DataW.TrodAll enc Tryd.prog W 0 (fun _ => true) true Tryd.f8.params.toList args.toList ds p := hA0
  rw [Tryd.params8] at hA hval hsz
  obtain ⟨v0, vs0, d0, ds0, p0, q0, hargs, rfl, rfl, h0, r0⟩ := trodAll_cons hA
  obtain ⟨v1, vs1, d1, ds1, p1, q1, rfl, rfl, rfl, h1, r1⟩ := trodAll_cons r0
  obtain ⟨v2, vs2, d2, ds2, p2, q2, rfl, rfl, rfl, h2, r2⟩ := trodAll_cons r1
  obtain ⟨v3, vs3, d3, ds3, p3, q3, rfl, rfl, rfl, h3, r3⟩ := trodAll_cons r2
  obtain ⟨rfl, rfl, rfl⟩ := trodAll_nil r3
  obtain rfl : args = #[v0, v1, v2, v3] := by cases args; simp_all
  obtain ⟨rfl, rfl⟩ := trodVars_none hV
  have k0 := h0
  have lt0 : ∀ x ∈ p0, x.block < W.heap.size := by obtain ⟨m, hm⟩ := k0; exact DataW.trod_lt m _ _ _ hm
  have k1 := h1
  have lt1 : ∀ x ∈ p1, x.block < W.heap.size := by obtain ⟨m, hm⟩ := k1; exact DataW.trod_lt m _ _ _ hm
  have k2 := h2
  have lt2 : ∀ x ∈ p2, x.block < W.heap.size := by obtain ⟨m, hm⟩ := k2; exact DataW.trod_lt m _ _ _ hm
  have k3 := h3
  have lt3 : ∀ x ∈ p3, x.block < W.heap.size := by obtain ⟨m, hm⟩ := k3; exact DataW.trod_lt m _ _ _ hm
  obtain ⟨f0, rfl, w0⟩ := open_file Tryd.underlying23 ⟨rfl, rfl⟩ ⟨rfl, rfl⟩ ⟨rfl, rfl⟩ ⟨rfl, rfl⟩ Tryd.underlying9 Tryd.underlying3 (by kernel_rfl) (by kernel_rfl) (by kernel_rfl) (hval 0 23 v0 rfl rfl) h0
  obtain ⟨a1, n1, c1, b1, rfl, w1, l1, s1⟩ := open_bys Tryd.underlying24 Tryd.underlying5 (by kernel_rfl) (by kernel_rfl) (hval 1 24 v1 rfl rfl) (fun _ => rfl) h1 (fun el sp hd => sized_slice hsz (j := 1) (t := 24) (e := 5) rfl (by rw [hd]; rfl) Tryd.underlying24)
  obtain ⟨x2, rfl, rfl, rfl, w2⟩ := open_int Tryd.underlying5 (hval 2 5 v2 rfl rfl) h2
  obtain ⟨a3, n3, c3, b3, rfl, w3, l3, s3⟩ := open_bys Tryd.underlying24 Tryd.underlying5 (by kernel_rfl) (by kernel_rfl) (hval 3 24 v3 rfl rfl) (fun _ => rfl) h3 (fun el sp hd => sized_slice hsz (j := 3) (t := 24) (e := 5) rfl (by rw [hd]; rfl) Tryd.underlying24)
  clear hA0 hval0
  refine (walk f0 a1 n1 c1 b1 x2 a3 n3 c3 b3 W (tabs5 hL) (errs5 hL) w0 w1 l1 s1 (wf_u8 w2) w3 l3 s3).mono fun e W' ⟨he, bel⟩ => ?_
  subst he
  exact ⟨_, rfl, _, _, _, [], _, [], hW', trodAll_mk1 (shut_bool Tryd.underlying4 _), (trodAll_cons_mk (Below.trod laidOut (by kernel_rfl) (of_decide_eq_true (by kernel_rfl)) k0 bel lt0) (trodAll_cons_mk (Below.trod laidOut (by kernel_rfl) (of_decide_eq_true (by kernel_rfl)) k1 bel lt1) (trodAll_cons_mk (Below.trod laidOut (by kernel_rfl) (of_decide_eq_true (by kernel_rfl)) k2 bel lt2) (trodAll_cons_mk (Below.trod laidOut (by kernel_rfl) (of_decide_eq_true (by kernel_rfl)) k3 bel lt3) trodAll_mk0)))), rfl, bel.frame _, fun h => by cases h⟩

theorem over : Rows.headerShortRow.holds Tryd.pinned (OpenSpec.ofChange Rows.headerShortSpec) :=
  OpenClaim.holds_of_wide 8 Tryd.f8 rfl rfl rfl rfl rfl rfl rfl ⟨rfl, rfl, rfl, rfl, rfl⟩ rfl rfl rfl rfl rfl (by kernel_rfl) Tryd.func8 (by kernel_rfl)
    (of_decide_eq_true (by kernel_rfl)) (by unfold Func.isWrapper; first | (rw [if_pos (by decide +kernel)]; kernel_rfl) | (rw [if_neg (by decide +kernel)]; exact ⟨rfl, rfl⟩))
    (fun os started H enc _ => lifted os started H enc)

/-- The card: what the row lists is tied to the program's own text. -/
theorem proved : Rows.HeaderShortCardSaid :=
  Claim7.holds_tied_plain_at .later [] [.data, .data, .data, .sentinel, .sentinel] true Rows.headerShortCard.stood.harness true
    over (fun _ h => by cases h) (by kernel_rfl) (fun _ h => by cases h) headerShort_row_tie rfl ⟨rfl, rfl⟩ (by kernel_rfl) rfl
    (fun f fn hf hfn => by
      obtain rfl : f = 8 := Option.some.inj ((show Tryd.prog.funcNamed "lifeline/lifelinelaw05.HeaderShort" = some 8 by kernel_rfl).symm.trans hf) |>.symm
      obtain rfl : fn = Tryd.f8 := (Option.some.inj (Tryd.func8.symm.trans hfn)).symm
      exact ⟨by kernel_rfl, fun j t ht => by
        rw [Tryd.params8] at ht
        have hm : t ∈ [23, 24, 5, 24] := by simpa using Array.mem_of_getElem? ht
        have hall : ([23, 24, 5, 24].all fun u => !Tryd.prog.wantsStandIn u) = true := by kernel_rfl
        exact (show Tryd.prog.wantsStandIn t = false by simpa using List.all_eq_true.1 hall t hm)⟩)
    (by kernel_rfl)
end Go.Proofs.YtipajdjcmgkcbaaDoor.headerShort
