/-
  'lifelinelaw15.TokenBlanks' answers true for every input of the row, and leaves its arguments as they were.
  Conditions: the package-level variables that the row lists lie as the program's own text lays them (the card ties them to it; what is pinned is a constant of the library's).
-/
import Derived.Test.YtgokejoieafgiaaDoorRows
import Derived.Test.YtgokejoieafgiaaDoorTokenCut
import Derived.Test.YtgokejoieafgiaaDoorFrame
import Derived.Test.YtgokejoieafgiaaDoorFrameEight
import Derived.Test.YtgokejoieafgiaaDoorCards
import Derived.Test.YtgokejoieafgiaaDoorTokenApp
import Derived.Test.YtgokejoieafgiaaDoorTokenSame
import Derived.Test.YtgokejoieafgiaaDoorTokenAwake
import Derived.Test.YtgokejoieafgiaaDoorErrUse
import Derived.Test.YtgokejoieafgiaaDoorTokenMore
import Derived.Lib.QuietBelow
import Derived.Deep.DeepCutAuto
import Derived.OwnWalk
import Derived.WalkKit
import Derived.ProofKit
import Derived.OpenShut
import Derived.ShutString
import Derived.ChangeOld
import Derived.Below
namespace Go.Proofs.YtgokejoieafgiaaDoor.tokenBlanks
open Go.ChangeShapes Go.WideShapes Go.ChangeAt Go.RowKit
open Go.ChangeMaps (open_string shut_string)
set_option linter.unusedVariables false

theorem own : ownKnob Tryd.prog.godebug = none := by kernel_rfl
theorem laidOut : laidOutB Tryd.prog = true := by kernel_rfl

set_option maxRecDepth 100000 in
set_option maxHeartbeats 4000000 in
theorem walkL (la lb : List UInt8) (w : World) (hE : Errs w) (hR : ErrT w) (hla : la.length ≤ 140737488351232) (hlb : lb.length ≤ 140737488351232) :
    Calls Tryd.prog 6 #[.string (strB la), .string (strB lb)] w fun e w' => e = .returned (.bool true) ∧ Below w.heap.size w w' := by
  have hlen : (strB la).size = la.length := strB_size la
  have hlen2 : (strB lb).size = lb.length := strB_size lb
  have HA := keepHid (awake_any w hE)
  have HE := keepHid hE
  have HR := keepHid hR
  clear hE hR
  by_cases hbig : 900 < la.length
  · have hI : (900 : Int) < (la.length : Int) := by omega
    generalize la.length = N at *
    generalize lb.length = M at *
    go_enter Tryd.func6, Tryd.ntmps6
    go_wp2_with fail
    refine HA.out.mono ?_
    rintro e w1 ⟨rfl, hb1⟩
    have HB1 := keepHid hb1
    clear hb1 HA
    go_wp2
    go_ret
    exact ⟨rfl, HB1.out⟩
  have hI : ¬ (900 : Int) < (la.length : Int) := by omega
  by_cases hbig2 : 900 < lb.length
  · have hI2 : (900 : Int) < (lb.length : Int) := by omega
    generalize la.length = N at *
    generalize lb.length = M at *
    go_enter Tryd.func6, Tryd.ntmps6
    go_wp2_with fail
    refine HA.out.mono ?_
    rintro e w1 ⟨rfl, hb1⟩
    have HB1 := keepHid hb1
    clear hb1 HA
    go_wp2
    go_ret
    exact ⟨rfl, HB1.out⟩
  have hI2 : ¬ (900 : Int) < (lb.length : Int) := by omega
  have HCa := keepHid (cut_any la (by omega))
  have HCb := keepHid (cut_any lb (by omega))
  have HCz := keepHid (cut_any (la ++ 10 :: lb) (by simp; omega))
  have hadd1 : ∀ w, (Op.stringOp .add (strB la) ⟨#[10]⟩).run Tryd.prog w = .ok (.string (strB (la ++ [10]))) w := fun w => run_strAdd la [10] (by simp; omega) w
  have hadd2 : ∀ w, (Op.stringOp .add (strB (la ++ [10])) (strB lb)).run Tryd.prog w = .ok (.string (strB (la ++ 10 :: lb))) w := fun w => by
    have := run_strAdd (P := Tryd.prog) (la ++ [10]) lb (by simp; omega) w
    rwa [List.append_assoc] at this
  have HXE := keepHid (fun p (h : cutR la 0 = .error p) => blank_err lb h)
  have HXF := keepHid (fun ts q (h : cutR la 0 = .ok ts) (h2 : cutR lb 0 = .error q) => blank_err2 h h2)
  have HXO := keepHid (fun ts us (h : cutR la 0 = .ok ts) (h2 : cutR lb 0 = .ok us) => blank_ok h h2)
  have HEb := keepHid (fun q (h : cutR lb 0 = .error q) => cut_err lb 0 q h)
  have HFa := keepHid (fun ts (h : cutR la 0 = .ok ts) => cut_few la 0 ts h)
  have HFb := keepHid (fun ts (h : cutR lb 0 = .ok ts) => cut_few lb 0 ts h)
  have HFz : Hid (∀ ts, cutR (la ++ 10 :: lb) 0 = .ok ts → ts.length ≤ 1802) := keepHid (fun ts h => by
    have := cut_few (la ++ 10 :: lb) 0 ts h
    simp at this
    omega)
  generalize la ++ 10 :: lb = lz at *
  generalize strB (la ++ [10]) = X1 at *
  generalize strB lz = XZ at *
  generalize strB la = XA at *
  generalize strB lb = XB at *
  obtain ⟨N, hN⟩ : ∃ N, la.length = N := ⟨_, rfl⟩
  obtain ⟨M, hM⟩ : ∃ M, lb.length = M := ⟨_, rfl⟩
  rw [hN] at hlen hI HXF HFa
  rw [hM] at hlen2 hI2 HEb HFb
  have hN9 : N ≤ 900 := by omega
  have hM9 : M ≤ 900 := by omega
  have hNI : (N : Int) ≤ 900 := by omega
  clear hla hlb hbig hbig2 hN hM
  go_enter Tryd.func6, Tryd.ntmps6
  go_wp2_with fail
  refine HA.out.mono ?_
  rintro e w1 ⟨rfl, hb1⟩
  have HB1 := keepHid hb1
  have HT1 := keepHid (HR.out.below hb1 HR.out.pos)
  have HE1 := keepHid (HE.out.below hb1 (Nat.le_refl _))
  clear hb1 HA HR HE
  go_wp2_with fail
  refine (HCa.out _ HE1.out).mono ?_
  rintro e w2 ⟨⟨p, hp, rfl⟩ | ⟨ts, A, n, c, hts, rfl, hown⟩, hb2⟩
  · -- the first has an error
    have HB2 := keepHid (HB1.out.trans (hb2.mono HB1.out.size))
    have HE2 := keepHid (HE1.out.below hb2 (Nat.le_refl _))
    have HP := keepHid (HXE.out p hp)
    have hf : faultV 1 (p : Int) = .iface 53 (.agg #[.int .i64 1, .int .i64 (p : Int)]) := rfl
    rw [hf]
    clear hb2 hp HXE HXF HXO
    go_wp2_with fail
    refine (HCb.out _ HE2.out).mono ?_
    intro e w3 he
    obtain ⟨v1, v2, rfl, hb3⟩ : ∃ v1 v2, e = .returned (.tuple #[v1, v2]) ∧ Below w2.heap.size w2 w3 := by
      rcases he with ⟨⟨q, _, e⟩ | ⟨_, _, _, _, _, e, _⟩, hb⟩
      · exact ⟨_, _, e, hb⟩
      · exact ⟨_, _, e, hb⟩
    have HB3 := keepHid (HB2.out.trans (hb3.mono HB2.out.size))
    have HE3 := keepHid (HE2.out.below hb3 (Nat.le_refl _))
    clear hb3 he
    go_wp2_with fail
    refine (HCz.out _ HE3.out).mono ?_
    rintro e w4 ⟨⟨p', hp', rfl⟩ | ⟨ts, A, n, c, hts, rfl, hown⟩, hb4⟩
    · have HB4 := keepHid (HB3.out.trans (hb4.mono HB3.out.size))
      have hf2 : faultV 1 (p' : Int) = .iface 53 (.agg #[.int .i64 1, .int .i64 (p' : Int)]) := rfl
      rw [hf2]
      clear hb4 hp'
      go_wp2
      go_ret
      exact ⟨rfl, HB4.out⟩
    · rw [HP.out] at hts; cases hts
  have HB2 := keepHid (HB1.out.trans (hb2.mono HB1.out.size))
  have HE2 := keepHid (HE1.out.below hb2 (Nat.le_refl _))
  have HT2 := keepHid (HT1.out.below hb2 HT1.out.pos)
  have HTS := keepHid hts
  have HO := keepHid hown
  clear hb2 hts hown HXE
  go_wp2_with fail
  refine (HCb.out _ HE2.out).mono ?_
  rintro e w3 ⟨⟨q, hq, rfl⟩ | ⟨us, A2, m, c2, hus, rfl, hown2⟩, hb3⟩
  · -- the second has an error
    have HB3 := keepHid (HB2.out.trans (hb3.mono HB2.out.size))
    have HE3 := keepHid (HE2.out.below hb3 (Nat.le_refl _))
    have HT3 := keepHid (HT2.out.below hb3 HT2.out.pos)
    have HP := keepHid (HXF.out ts q HTS.out hq)
    have hqM := (HEb.out q hq).2
    obtain ⟨r, hr⟩ : ∃ r, q + (N + 1) = r := ⟨_, rfl⟩
    rw [hr] at HP
    have hqI : (q : Int) ≤ 900 := by omega
    have hq0 : (0 : Int) ≤ (q : Int) := by omega
    have hN0 : (0 : Int) ≤ (N : Int) := by omega
    have hrI : (r : Int) = (q : Int) + (N : Int) + 1 := by omega
    have HPL := keepHid (fun w hT => place_any 1 (r : Int) w hT)
    have HPF := keepHid (fun w hT => place_any 1 (q : Int) w hT)
    have hf : faultV 1 (q : Int) = .iface 53 (.agg #[.int .i64 1, .int .i64 (q : Int)]) := rfl
    have HF2 : Hid (faultV 1 (r : Int) = .iface 53 (.agg #[.int .i64 1, .int .i64 (r : Int)])) := keepHid rfl
    rw [hf] at HPF ⊢
    rw [HF2.out] at HPL
    clear hb3 hq HXF HXO HEb hf hr hqM HO
    go_wp2_with fail
    refine (HCz.out _ HE3.out).mono ?_
    rintro e w4 ⟨⟨p', hp', rfl⟩ | ⟨ts, A, n, c, hts, rfl, hown⟩, hb4⟩
    · have HB4 := keepHid (HB3.out.trans (hb4.mono HB3.out.size))
      have HT4 := keepHid (HT3.out.below hb4 HT3.out.pos)
      obtain rfl : r = p' := by rw [HP.out] at hp'; injection hp'
      rw [HF2.out, hrI]
      rw [hrI] at HPL
      clear hb4 hp' hrI HF2
      generalize (q : Int) = qI at *
      go_wp2_with fail
      refine (HPL.out _ HT4.out).mono ?_
      rintro e w5 ⟨rfl, hb5⟩
      have HB5 := keepHid (HB4.out.trans (hb5.mono HB4.out.size))
      have HT5 := keepHid (HT4.out.below hb5 HT4.out.pos)
      clear hb5
      go_wp2_with fail
      refine (HPF.out _ HT5.out).mono ?_
      rintro e w6 ⟨rfl, hb6⟩
      have HB6 := keepHid (HB5.out.trans (hb6.mono HB5.out.size))
      clear hb6
      go_wp2
      go_ret
      exact ⟨rfl, HB6.out⟩
    · rw [HP.out] at hts; cases hts
  -- both are cut
  have HB3 := keepHid (HB2.out.trans (hb3.mono HB2.out.size))
  have HE3 := keepHid (HE2.out.below hb3 (Nat.le_refl _))
  have HO3 := keepHid (HO.out.below hb3)
  have HUS := keepHid hus
  have HO2 := keepHid hown2
  obtain ⟨vs, hvs, hst⟩ := HXO.out ts us HTS.out hus
  have HVS := keepHid hvs
  have HST := keepHid hst
  clear hb3 hus hown2 hvs hst HXF HXO HEb
  go_wp2_with fail
  refine (HCz.out _ HE3.out).mono ?_
  rintro e w4 ⟨⟨p', hp', rfl⟩ | ⟨vs', A3, k, c3, hvs', rfl, hown3⟩, hb4⟩
  · rw [HVS.out] at hp'; cases hp'
  obtain rfl : vs = vs' := by rw [HVS.out] at hvs'; injection hvs'
  have HB4 := keepHid (HB3.out.trans (hb4.mono HB3.out.size))
  have HO4 := keepHid (HO3.out.below hb4)
  have HO5 := keepHid (HO2.out.below hb4)
  have HO6 := keepHid hown3
  have hn1 : n ≤ 901 := by
    have h1 := HFa.out ts HTS.out
    have h2 := HO.out.len
    omega
  have hm1 : m ≤ 901 := by
    have h1 := HFb.out us HUS.out
    have h2 := HO2.out.len
    omega
  have hk1 : k ≤ 1802 := by
    have h1 := HFz.out vs HVS.out
    have h2 := hown3.len
    omega
  have hm0 : 1 ≤ m := by
    have h1 := cut_ne HUS.out
    have h2 := HO2.out.len
    omega
  obtain ⟨n0, rfl⟩ : ∃ n0, n = n0 + 1 := by
    have h1 := cut_ne HTS.out
    have h2 := HO.out.len
    exact ⟨n - 1, by omega⟩
  obtain ⟨A', c', e0, hnc, hc63, hA⟩ := HO.out.form
  obtain ⟨rfl, rfl⟩ : A = A' ∧ c = c' := by injection e0 with e1 e2 e3; exact ⟨e1, e3⟩
  obtain ⟨g, rfl⟩ : ∃ g, A = some ⟨g, 0, none⟩ := by
    rcases hA with ⟨_, h⟩ | ⟨g, h, _⟩
    · omega
    · exact ⟨g, h⟩
  clear e0 hA
  obtain ⟨A', c', e0, hnc2, hc632, hA⟩ := HO2.out.form
  obtain ⟨rfl, rfl⟩ : A2 = A' ∧ c2 = c' := by injection e0 with e1 e2 e3; exact ⟨e1, e3⟩
  obtain ⟨g2, rfl⟩ : ∃ g2, A2 = some ⟨g2, 0, none⟩ := by
    rcases hA with ⟨_, h⟩ | ⟨g, h, _⟩
    · omega
    · exact ⟨g, h⟩
  clear e0 hA hnc2 hc632
  have HTX : Hid (TkR w4 (some ⟨g, 0, none⟩) ts.dropLast) := keepHid (by
    rw [List.dropLast_eq_take]
    exact HO4.out.tkr.take _)
  have HDL : Hid (ts.dropLast.length = n0) := keepHid (by
    have := HO.out.len
    rw [List.length_dropLast]; omega)
  have HTU := keepHid HO5.out.tkr
  have HUL := keepHid HO5.out.len
  have HTZ := keepHid HO6.out.tkr
  have HVL := keepHid HO6.out.len
  generalize ts.dropLast = ds at *
  have hnI : (n0 : Int) ≤ 900 := by omega
  have hncI : (n0 : Int) + 1 ≤ (c : Int) := by omega
  have hcI : (c : Int) ≤ 9223372036854775807 := by omega
  clear hown3 hb4 hvs' HO HO2 HO3 HO4 HO5 HO6 HCa HCb HCz HFa HFb HFz hadd1 hadd2 HTS HUS HVS
  go_upto_region 12 with fail
  go_wp2_with (at_builtin; refine wpList_append_toks rfl _ _ rfl w4.heap.size (.slice none 0 0) 0 [] (by rfl) (OwnT.nil _ _) g n0 c ds (by rfl) HTX.out HDL.out n0 (Nat.zero_add _) (by omega) (Nat.le_refl _) ?_)
  intro A5 cap5 w5 q1 q2
  have HQ1 := keepHid q1
  have HQ2 := keepHid q2
  have HTU5 := keepHid (HTU.out.below q2 (Nat.le_refl _))
  have HTZ5 := keepHid (HTZ.out.below q2 (Nat.le_refl _))
  clear q1 q2
  go_wp2_with (at_builtin; refine wpList_append_toks rfl _ _ rfl w4.heap.size (.slice A5 n0 cap5) n0 ds (by rfl) HQ1.out g2 m c2 us (by rfl) HTU5.out HUL.out (n0 + m) rfl (by omega) HQ2.out.size ?_)
  intro A6 cap6 w6 q1 q2
  have HB6 := keepHid (HB4.out.trans ((HQ2.out.trans q2).mono HB4.out.size))
  have HTZ6 := keepHid (HTZ.out.below (HQ2.out.trans q2) (Nat.le_refl _))
  have HS := keepHid (same_any vs (ds ++ us) A3 A6 k (n0 + m) c3 cap6 HVL.out (by rw [List.length_append, HDL.out, HUL.out]) ⟨by omega, by omega⟩ w6 HTZ6.out q1.tkr)
  rw [decide_eq_true HST.out] at HS
  clear q1 q2
  go_wp2_with fail
  refine HS.out.mono ?_
  rintro e w7 ⟨rfl, hb7⟩
  have HB7 := keepHid (HB6.out.trans (hb7.mono HB6.out.size))
  clear hb7
  go_wp2
  go_ret
  exact ⟨rfl, HB7.out⟩
theorem walk (x0 : ByteArray) (x1 : ByteArray) (w : World) (hE : Errs w) (hR : ErrT w) (h0 : x0.size ≤ 140737488351232) (h1 : x1.size ≤ 140737488351232) :
    Calls Tryd.prog 6 #[.string x0, .string x1] w fun e w' => e = .returned (.bool true) ∧ Below w.heap.size w w' := by
  exact walkL x0.data.toList x1.data.toList w hE hR h0 h1

set_option maxRecDepth 100000 in
theorem lifted (os : Os) (started : os.Started) (H : Type) (enc : TypeId × Value → H) :
    ReturnsInHanded {} Tryd.checked os 6 .any (fun w args => (Rows.tokenBlanksSpec.pre enc Tryd.prog Tryd.f6 [] false w args ∧ laidMetH Tryd.prog laid8 w) ∧ sizedMet enc Tryd.prog Tryd.f6 (OpenSpec.ofChange Rows.tokenBlanksSpec) false w args) (Rows.tokenBlanksSpec.post enc Tryd.prog Tryd.f6 false true false false) := by
  refine returnsInHanded_of_change_and (C := Tryd.checked) (X := fun w _ => laidMetH Tryd.prog laid8 w) (fun _ _ _ hh h => h.of_heap hh) own started (by kernel_rfl) Tryd.func6
    (ChangeSpec.witness_shaped (enc := enc) (C := Tryd.checked) (os := os) (X := fun w _ => laidMetH Tryd.prog laid8 w) false (worldF os) #[.string ⟨#[]⟩, .string ⟨#[]⟩] 8 (worldF_os os) (World.shaped_of_RefB (by kernel_rfl) (by kernel_rfl)) (by kernel_rfl) (by kernel_rfl) (by kernel_rfl) (door8 os _)) ?_
  intro W base args ds gs before hval0 hW hcnd hsz0 hL _
  have hsz : (DataW.weightsEach Tryd.prog (Tryd.f6.params.toList ++ Rows.tokenBlanksSpec.plain.varTypes Tryd.prog) (ds ++ gs)).all (· ≤ reachBytes) = true := hsz0
  clear hsz0
  have hval : ∀ (j : Nat) t v, Tryd.f6.params[j]? = some t → args[j]? = some v → Value.okWide Tryd.prog W .any base t v := hval0
  have hW' := hW
  obtain ⟨p, q, hA0, hV, rfl, hfz, hnd⟩ := hW
  have hA : DataW.TrodAll enc Tryd.prog W 0 (fun _ => true) true Tryd.f6.params.toList args.toList ds p := hA0
  rw [Tryd.params6] at hA hval hsz
  obtain ⟨v0, vs0, d0, ds0, p0, q0, hargs, rfl, rfl, h0, r0⟩ := trodAll_cons hA
  obtain ⟨v1, vs1, d1, ds1, p1, q1, rfl, rfl, rfl, h1, r1⟩ := trodAll_cons r0
  obtain ⟨rfl, rfl, rfl⟩ := trodAll_nil r1
  obtain rfl : args = #[v0, v1] := by cases args; simp_all
  obtain ⟨rfl, rfl⟩ := trodVars_none hV
  have k0 := h0
  have lt0 : ∀ x ∈ p0, x.block < W.heap.size := by obtain ⟨m, hm⟩ := k0; exact DataW.trod_lt m _ _ _ hm
  have k1 := h1
  have lt1 : ∀ x ∈ p1, x.block < W.heap.size := by obtain ⟨m, hm⟩ := k1; exact DataW.trod_lt m _ _ _ hm
  obtain ⟨x0, rfl, rfl, rfl, _⟩ := open_string Tryd.underlying9 (hval 0 9 v0 rfl rfl) h0
  have w0 : x0.size ≤ 140737488351232 := by have := sized_string hsz (j := 0) (t := 9) rfl rfl; simpa [reachBytes] using this
  obtain ⟨x1, rfl, rfl, rfl, _⟩ := open_string Tryd.underlying9 (hval 1 9 v1 rfl rfl) h1
  have w1 : x1.size ≤ 140737488351232 := by have := sized_string hsz (j := 1) (t := 9) rfl rfl; simpa [reachBytes] using this
  clear hA0 hval0
  refine (walk x0 x1 W (errs8 hL) (errT8 hL) w0 w1).mono fun e W' ⟨he, bel⟩ => ?_
  subst he
  exact ⟨_, rfl, _, _, _, [], _, [], hW', trodAll_mk1 (shut_bool Tryd.underlying4 _), (trodAll_cons_mk (Below.trod laidOut (by kernel_rfl) (of_decide_eq_true (by kernel_rfl)) k0 bel lt0) (trodAll_cons_mk (Below.trod laidOut (by kernel_rfl) (of_decide_eq_true (by kernel_rfl)) k1 bel lt1) trodAll_mk0)), rfl, bel.frame _, fun h => by cases h⟩

theorem over : Rows.tokenBlanksRow.holds Tryd.pinned (OpenSpec.ofChange Rows.tokenBlanksSpec) :=
  OpenClaim.holds_of_wide 6 Tryd.f6 rfl rfl rfl rfl rfl rfl rfl ⟨rfl, rfl, rfl, rfl, rfl⟩ rfl rfl rfl rfl rfl (by kernel_rfl) Tryd.func6 (by kernel_rfl)
    (of_decide_eq_true (by kernel_rfl)) (by unfold Func.isWrapper; first | (rw [if_pos (by decide +kernel)]; kernel_rfl) | (rw [if_neg (by decide +kernel)]; exact ⟨rfl, rfl⟩))
    (fun os started H enc _ => lifted os started H enc)

/-- The card: what the row lists is tied to the program's own text. -/
theorem proved : Rows.TokenBlanksCardSaid :=
  Claim7.holds_tied_plain_at .later [] [.data, .data, .data, .data, .handle, .sentinel, .sentinel, .pinned] true Rows.tokenBlanksCard.stood.harness true
    over (fun _ h => by cases h) (by kernel_rfl) (fun _ h => by cases h) tokenBlanks_row_tie rfl ⟨rfl, rfl⟩ (by kernel_rfl) rfl
    (fun f fn hf hfn => by
      obtain rfl : f = 6 := Option.some.inj ((show Tryd.prog.funcNamed "lifeline/lifelinelaw15.TokenBlanks" = some 6 by kernel_rfl).symm.trans hf) |>.symm
      obtain rfl : fn = Tryd.f6 := (Option.some.inj (Tryd.func6.symm.trans hfn)).symm
      exact ⟨by kernel_rfl, fun j t ht => by
        rw [Tryd.params6] at ht
        have hm : t ∈ [9, 9] := by simpa using Array.mem_of_getElem? ht
        have hall : ([9, 9].all fun u => !Tryd.prog.wantsStandIn u) = true := by kernel_rfl
        exact (show Tryd.prog.wantsStandIn t = false by simpa using List.all_eq_true.1 hall t hm)⟩)
    (by kernel_rfl)
end Go.Proofs.YtgokejoieafgiaaDoor.tokenBlanks
