/-
  'lifelinelaw15.TokenQuote' answers true for every input of the row, and leaves its arguments as they were.
  Conditions: the arguments hold together at most 1048576 values and bytes, each counted each time that it is reached; the package-level variables that the row lists lie as the program's own text lays them (the card ties them to it; what is pinned is a constant of the library's).
-/
import Derived.Test.YtgokejoieafgiaaDoorRows
import Derived.Test.YtgokejoieafgiaaDoorTokenMore2
import Derived.Test.YtgokejoieafgiaaDoorFrame
import Derived.Test.YtgokejoieafgiaaDoorFrameEight
import Derived.Test.YtgokejoieafgiaaDoorCards
import Derived.Test.YtgokejoieafgiaaDoorTokenAwake
import Derived.Lib.QuietBelow
import Derived.Deep.DeepCutAuto
import Derived.OwnWalk
import Derived.WalkKit
import Derived.ProofKit
import Derived.OpenShut
import Derived.ShutString
import Derived.ChangeOld
import Derived.Below
import Derived.Deep.DeepHandedRow
import Derived.Deep.DeepWitnessRowRef
namespace Go.Proofs.YtgokejoieafgiaaDoor.tokenQuote
open Go.ChangeShapes Go.WideShapes Go.ChangeAt Go.RowKit
open Go.ChangeMaps (open_string shut_string)
set_option linter.unusedVariables false

theorem own : ownKnob Tryd.prog.godebug = none := by kernel_rfl
theorem laidOut : laidOutB Tryd.prog = true := by kernel_rfl

set_option maxRecDepth 100000 in
set_option maxHeartbeats 4000000 in
theorem walkL (l : List UInt8) (w : World) (hE : Errs w) (hl : l.length ≤ 1048576) :
    Calls Tryd.prog 4 #[.string (strB l)] w fun e w' => e = .returned (.bool true) ∧ Below w.heap.size w w' := by
  have HA := keepHid (awake_any w hE)
  have HE := keepHid hE
  have HQ := keepHid (quote_any l hl)
  have HL := keepHid (quol_any l hl)
  clear hE
  cases hq : quoL l with
  | none =>
    have hv : quoV l = .tuple #[.string ⟨#[]⟩, .bool false] := by unfold quoV; rw [hq]
    rw [hv] at HQ HL
    clear hq hv
    go_enter Tryd.func4, Tryd.ntmps4
    go_wp2_with fail
    refine HA.out.mono ?_
    rintro e w1 ⟨rfl, hb1⟩
    have HB1 := keepHid hb1
    clear hb1 HA
    go_wp2_with fail
    refine (HQ.out _).mono ?_
    rintro e w2 ⟨rfl, hb2⟩
    have HB2 := keepHid (HB1.out.trans (hb2.mono HB1.out.size))
    clear hb2
    go_wp2_with fail
    refine (HL.out _).mono ?_
    rintro e w3 ⟨rfl, rfl⟩
    go_wp2
    go_ret
    exact ⟨rfl, HB2.out⟩
  | some q =>
    have hv : quoV l = .tuple #[.string (strB (34 :: (q ++ [34]))), .bool true] := by unfold quoV; rw [hq]
    rw [hv] at HQ HL
    have HCQ := keepHid (cut_quoted hq)
    obtain ⟨n, hn⟩ : ∃ n, q.length = n := ⟨_, rfl⟩
    rw [hn] at HCQ
    have hlen : (34 :: (q ++ [34])).length = n + 2 := by simp [hn]
    have hsz : (strB (34 :: (q ++ [34]))).size = n + 2 := by rw [strB_size, hlen]
    have hszI : ((n + 2 : Nat) : Int) = (n : Int) + 2 := by omega
    have HC : Hid (n + 2 ≤ 4096 → ∀ w, Errs w → Calls Tryd.prog 9 #[.string (strB (34 :: (q ++ [34])))] w (CutPost (34 :: (q ++ [34])) w)) := keepHid fun h w hE => cut_any _ (by rw [hlen]; exact h) w hE
    have hnb : n ≤ 2097152 := by have := quoL_len l q hq; omega
    clear hq hv hlen
    generalize 34 :: (q ++ [34]) = s at *
    have hse : ((strB s).toList == (strB s).toList) = true := strB_same rfl
    have hse2 : ((strB s).toList != (strB s).toList) = false := by rw [bne, hse]; rfl
    have hsl : ((strB l).toList == (strB l).toList) = true := strB_same rfl
    by_cases hbig : 4096 < n + 2
    · have hI : (4096 : Int) < ((n + 2 : Nat) : Int) := by omega
      have hI2 : (4096 : Int) < (n : Int) + 2 := by omega
      clear hszI
      go_enter Tryd.func4, Tryd.ntmps4
      go_wp2_with fail
      refine HA.out.mono ?_
      rintro e w1 ⟨rfl, hb1⟩
      have HB1 := keepHid hb1
      clear hb1 HA
      go_wp2_with fail
      refine (HQ.out _).mono ?_
      rintro e w2 ⟨rfl, hb2⟩
      have HB2 := keepHid (HB1.out.trans (hb2.mono HB1.out.size))
      clear hb2
      go_wp2_with fail
      refine (HL.out _).mono ?_
      rintro e w3 ⟨rfl, rfl⟩
      go_wp2
      go_ret
      exact ⟨rfl, HB2.out⟩
    · have hI2 : ¬ (4096 : Int) < (n : Int) + 2 := by omega
      have HC' := keepHid (HC.out (by omega))
      clear hszI HC
      go_enter Tryd.func4, Tryd.ntmps4
      go_wp2_with fail
      refine HA.out.mono ?_
      rintro e w1 ⟨rfl, hb1⟩
      have HB1 := keepHid hb1
      have HE1 := keepHid (HE.out.below hb1 (Nat.le_refl _))
      clear hb1 HA
      go_wp2_with fail
      refine (HQ.out _).mono ?_
      rintro e w2 ⟨rfl, hb2⟩
      have HB2 := keepHid (HB1.out.trans (hb2.mono HB1.out.size))
      have HE2 := keepHid (HE1.out.below hb2 (Nat.le_refl _))
      clear hb2
      go_wp2_with fail
      refine (HL.out _).mono ?_
      rintro e w3 ⟨rfl, rfl⟩
      go_wp2_with fail
      refine (HC'.out _ HE2.out).mono ?_
      rintro e w4 ⟨⟨p, hp, rfl⟩ | ⟨ts, A, m, c, hts, rfl, hown⟩, hb4⟩
      · rw [HCQ.out] at hp; cases hp
      · rw [HCQ.out] at hts
        obtain rfl := Except.ok.inj hts
        have hm := hown.len
        obtain rfl : m = 2 := hm.symm
        have HB4 := keepHid (HB2.out.trans (hb4.mono HB2.out.size))
        obtain ⟨g, rfl, gl, a0, a1, _, _⟩ := hown.tkr.at_ (k := 0) rfl
        obtain ⟨g1, e1, _, _, _, _, a3⟩ := hown.tkr.at_ (k := 1) rfl
        obtain rfl : g = g1 := by injection e1 with e1; injection e1
        have b0 : w4.cell? ⟨g, 0, none⟩ = some (.int .i64 3) := a0
        have b1 : w4.cell? ⟨g, 1, none⟩ = some (.string (strB l)) := a1
        have b2 : w4.cell? ⟨g, 7, none⟩ = some (.int .i64 ((n : Int) + 2)) := a3
        clear a0 a1 a3 e1 hts hown hb4 hm
        go_wp2
        go_ret
        exact ⟨rfl, HB4.out⟩
theorem walk (x0 : ByteArray) (w : World) (hE : Errs w) (h0 : x0.size ≤ 1048576) :
    Calls Tryd.prog 4 #[.string x0] w fun e w' => e = .returned (.bool true) ∧ Below w.heap.size w w' := by
  exact walkL x0.data.toList w hE h0

set_option maxRecDepth 100000 in
theorem lifted (os : Os) (started : os.Started) (H : Type) (enc : TypeId × Value → H) (F : Stop.Interp) :
    ReturnsInHanded {} Tryd.checked os 4 .any ((Rows.OpenSpec.upto Rows.tokenQuoteSpec).preRow enc Tryd.prog Tryd.f4 Rows.tokenQuoteUptoRow.domain false laid7) (((Rows.OpenSpec.upto Rows.tokenQuoteSpec).at F).post enc Tryd.prog Tryd.f4 false true false false) := by
  refine returnsInHanded_of_row (C := Tryd.checked) (s := Rows.OpenSpec.upto Rows.tokenQuoteSpec) own started (by kernel_rfl) Tryd.func4
    (witness_row_atRef (enc := enc) (C := Tryd.checked) false (worldF os) #[.string ⟨#[]⟩] (worldF_os os) (by kernel_rfl) (by kernel_rfl) (by kernel_rfl)
      (OpenSpec.preRow_of_cond 8 (x := ([.lit (.string [])], [], [])) (by kernel_rfl) rfl (fun k hk => by cases hk; rfl) (by kernel_rfl) (door7 os _))) ?_
  intro W base args ds gs before hval0 hW hcnd hsmall0 hsz0 hL _ _
  have hsz : (DataW.weightsEach Tryd.prog (Tryd.f4.params.toList ++ Rows.tokenQuoteSpec.plain.varTypes Tryd.prog) (ds ++ gs)).all (· ≤ reachBytes) = true := hsz0
  clear hsz0
  have hsmall : Rows.uptoBulkAll (ds ++ gs) ≤ 1048576 := of_decide_eq_true (hsmall0 _ rfl)
  clear hsmall0
  have hval : ∀ (j : Nat) t v, Tryd.f4.params[j]? = some t → args[j]? = some v → Value.okWide Tryd.prog W .any base t v := hval0
  have hW' := hW
  obtain ⟨p, q, hA0, hV, rfl, hfz, hnd⟩ := hW
  have hA : DataW.TrodAll enc Tryd.prog W 0 (fun _ => true) true Tryd.f4.params.toList args.toList ds p := hA0
  rw [Tryd.params4] at hA hval hsz
  obtain ⟨v0, vs0, d0, ds0, p0, q0, hargs, rfl, rfl, h0, r0⟩ := trodAll_cons hA
  obtain ⟨rfl, rfl, rfl⟩ := trodAll_nil r0
  obtain rfl : args = #[v0] := by cases args; simp_all
  obtain ⟨rfl, rfl⟩ := trodVars_none hV
  have k0 := h0
  have lt0 : ∀ x ∈ p0, x.block < W.heap.size := by obtain ⟨m, hm⟩ := k0; exact DataW.trod_lt m _ _ _ hm
  obtain ⟨x0, rfl, rfl, rfl, _⟩ := open_string Tryd.underlying9 (hval 0 9 v0 rfl rfl) h0
  have w0 : x0.size ≤ 140737488351232 := by have := sized_string hsz (j := 0) (t := 9) rfl rfl; simpa [reachBytes] using this
  clear hA0 hval0
  simp only [List.append_nil, Rows.uptoBulkAll, Rows.uptoBulk] at hsmall
  have w0s : x0.size ≤ 1048576 := by
    have e : x0.size = x0.data.toList.length := rfl
    omega
  refine (walk x0 W (errs7 hL) w0s).mono fun e W' ⟨he, bel⟩ => ?_
  subst he
  exact ⟨_, rfl, _, _, _, [], _, [], hW', trodAll_mk1 (shut_bool Tryd.underlying4 _), (trodAll_cons_mk (Below.trod laidOut (by kernel_rfl) (of_decide_eq_true (by kernel_rfl)) k0 bel lt0) trodAll_mk0), rfl, bel.frame _, fun h => by cases h⟩

theorem over : Rows.tokenQuoteUptoRow.holds Tryd.pinned (Rows.OpenSpec.upto Rows.tokenQuoteSpec) :=
  OpenClaim.holds_of_cond 4 Tryd.f4 rfl rfl rfl rfl rfl rfl rfl ⟨rfl, rfl, rfl, rfl, rfl⟩ rfl rfl rfl rfl rfl (by kernel_rfl) Tryd.func4 (by kernel_rfl)
    (of_decide_eq_true (by kernel_rfl)) (by unfold Func.isWrapper; first | (rw [if_pos (by decide +kernel)]; kernel_rfl) | (rw [if_neg (by decide +kernel)]; exact ⟨rfl, rfl⟩))
    (fun os started H enc _ F => by rw [OpenClaim.pre_eq_preRow]; exact lifted os started H enc F)

/-- The card: what the row lists is tied to the program's own text. -/
theorem proved : Rows.TokenQuoteUptoCardSaid :=
  Claim7.holds_tied_plain_at .later [] [.data, .data, .data, .data, .sentinel, .sentinel, .pinned] true Rows.tokenQuoteUptoCard.stood.harness true
    over (fun _ h => by cases h) (by kernel_rfl) (fun _ h => by cases h) tokenQuoteUpto_row_tie rfl ⟨rfl, rfl⟩ (by kernel_rfl) rfl
    (fun f fn hf hfn => by
      obtain rfl : f = 4 := Option.some.inj ((show Tryd.prog.funcNamed "lifeline/lifelinelaw15.TokenQuote" = some 4 by kernel_rfl).symm.trans hf) |>.symm
      obtain rfl : fn = Tryd.f4 := (Option.some.inj (Tryd.func4.symm.trans hfn)).symm
      exact ⟨by kernel_rfl, fun j t ht => by
        rw [Tryd.params4] at ht
        have hm : t ∈ [9] := by simpa using Array.mem_of_getElem? ht
        have hall : ([9].all fun u => !Tryd.prog.wantsStandIn u) = true := by kernel_rfl
        exact (show Tryd.prog.wantsStandIn t = false by simpa using List.all_eq_true.1 hall t hm)⟩)
    (by kernel_rfl)
end Go.Proofs.YtgokejoieafgiaaDoor.tokenQuote
