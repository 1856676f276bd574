/-
  'lifelinelaw16.ManifestCut' answers true for every input of the row, and leaves its arguments as they were.
  Conditions: the package-level variables that the row lists lie as the program's own text lays them (the card ties them to it; what is pinned is a constant of the library's).
-/
import Derived.Test.YtkhhcclomjfliaaDoorRows
import Derived.Test.YtkhhcclomjfliaaDoorManifestEnts
import Derived.Test.YtkhhcclomjfliaaDoorFrame
import Derived.Test.YtkhhcclomjfliaaDoorFrameNum
import Derived.Test.YtkhhcclomjfliaaDoorCards
import Derived.Test.YtkhhcclomjfliaaDoorManifestAwake
import Derived.Test.YtkhhcclomjfliaaDoorFrameMac
import Derived.Lib.QuietBelow
import Derived.Deep.DeepCutAuto
import Derived.OwnWalk
import Derived.WalkKit
import Derived.ProofKit
import Derived.OpenShut
import Derived.ShutString
import Derived.ChangeOld
import Derived.Below
namespace Go.Proofs.YtkhhcclomjfliaaDoor.manifestCut
open Go.ChangeShapes Go.WideShapes Go.ChangeAt Go.RowKit
open Go.ChangeMaps (open_string shut_string)
set_option linter.unusedVariables false

theorem own : ownKnob Tryd.prog.godebug = none := by kernel_rfl
theorem laidOut : laidOutB Tryd.prog = true := by kernel_rfl

set_option maxRecDepth 100000 in
set_option maxHeartbeats 4000000 in
theorem walkL (A : Option Addr) (n c : Nat) (ms : List Mac) (x : Nat) (hx : x ≤ 65535) (w : World) (hT : NumT w) (hn : n ≤ 9223372036854775807) (hS : MacS w A n ms) :
    Calls Tryd.prog 6 #[.slice A n c, .int .u16 (x : Int)] w fun e w' => e = .returned (.bool true) ∧ Below w.heap.size w w' := by
  have hG := ents_good hS
  have hlen := ents_text hG
  have HA := keepHid (awake_any w hT)
  have HT := keepHid hT
  have HS := keepHid hS
  have HG := keepHid hG
  have HLN := keepHid hlen
  have HP := keepHid (okp_text (entsOf ms) (fun e he => ⟨(hG e he).tells, (hG e he).safe⟩) 0)
  have hown0 := ents_len ms ms.length
  have HE8 : Hid ((entsOf ms).length ≤ 8) := keepHid hown0
  obtain ⟨es, hes⟩ : ∃ es, entsOf ms = es := ⟨_, rfl⟩
  have HEN : Hid (∀ w' , MacS w' A n ms → Calls Tryd.prog 8 #[.slice A n c] w' fun r w'' => (∃ B m cb, r = .returned (.slice B m cb) ∧ OwnE w'' w'.heap.size (.slice B m cb) m es) ∧ Below w'.heap.size w' w'') := keepHid (fun w' h => by rw [← hes]; exact ents_any ms A n c hn w' h)
  rw [hes] at HG HLN HP HE8
  clear hG hlen hT hS hown0 hes
  go_enter Tryd.func6, Tryd.ntmps6
  go_wp2_with fail
  refine HA.out.mono ?_
  rintro e w1 ⟨rfl, hb1⟩
  have HB1 := keepHid hb1
  have HS1 := keepHid (HS.out.below hb1)
  clear hb1 HA HS
  go_wp2_with fail
  refine (HEN.out _ HS1.out).mono ?_
  rintro e w2 ⟨⟨B, m, cb, rfl, hown⟩, hb2⟩
  have HB2 := keepHid (HB1.out.trans (hb2.mono HB1.out.size))
  have HN2 := keepHid (HT.out.below HB2.out (Nat.le_refl _))
  have HE2 := keepHid hown.ens
  have hml : m ≤ 8 := by have := hown.len; have := HE8.out; omega
  have HTX := keepHid (mtext_any es B m cb (fun e he => ⟨(HG.out e he).fits, by have := (HG.out e he).len; omega⟩) (by have := HLN.out; omega) (by omega) w2 HN2.out HE2.out)
  clear hb2 hown HEN HS1
  obtain ⟨l, hl⟩ : ∃ l, textL es = l := ⟨_, rfl⟩
  rw [hl] at HTX HP HLN
  obtain ⟨N, hN⟩ : ∃ N, l.length = N := ⟨_, rfl⟩
  have hsz : (strB l).size = N := by rw [strB_size, hN]
  rw [hN] at HLN HP
  have hN9 : N ≤ 2080 := HLN.out
  obtain ⟨K, hK⟩ : ∃ K, x % (N + 1) = K := ⟨_, rfl⟩
  have hKN : K ≤ N := by rw [← hK]; have := Nat.mod_lt x (show 0 < N + 1 by omega); omega
  have hm1 : (x : Int) % ((N : Int) + 1) = (K : Int) := by rw [← hK]; push_cast; rfl
  have hm2 : Int.tmod (x : Int) ((N : Int) + 1) = (K : Int) := by rw [Int.tmod_eq_emod_of_nonneg (by omega)]; exact hm1
  have hz : ((N : Int) + 1 == 0) = false := by simp; omega
  have hxw : IntKind.i64.wrap (x : Int) = (x : Int) := by rw [IntKind.wrap_i64]; omega
  have HWB : Hid (wholeB (l.take K) = true ↔ ∃ es, parseL (l.take K) = .ok es) := keepHid (by rw [← okp_parse]; exact (HP.out K hKN).symm)
  have hcut := fun w' => run_upto (l := l) (k := K) (by omega) (K : Int) rfl w'
  have HPA := keepHid (fun w' h => parse_any (l.take K) (by rw [List.length_take]; omega) w' h)
  have HKN : Hid (l.length = N) := keepHid hN
  clear hl hN hK HP HG
  go_wp2_with fail
  refine HTX.out.mono ?_
  rintro e w3 ⟨rfl, hb3⟩
  have HB3 := keepHid (HB2.out.trans (hb3.mono HB2.out.size))
  have HN3 := keepHid (HN2.out.below hb3 (Nat.le_refl _))
  clear hb3 HTX
  rcases Nat.eq_zero_or_pos K with hK0 | hK1
  · subst hK0
    have HOK := keepHid (HWB.out.1 rfl)
    have hk0 : (((0 : Nat) : Int) == 0) = true := rfl
    go_wp2_with fail
    refine (HPA.out _ HN3.out.errs).mono ?_
    rintro e w4 ⟨⟨y, hy, rfl⟩ | ⟨es', A4, n4, c4, hes, rfl, hown⟩, hb4⟩
    · obtain ⟨es2, h2⟩ := HOK.out
      rw [h2] at hy; cases hy
    have HB4 := keepHid (HB3.out.trans (hb4.mono HB3.out.size))
    clear hb4 hown hes HPA hcut
    go_wp2
    go_ret
    exact ⟨rfl, HB4.out⟩
  obtain ⟨j, rfl⟩ : ∃ j, K = j + 1 := ⟨K - 1, by omega⟩
  obtain ⟨ch, hch⟩ : ∃ ch, l[j]? = some ch := ⟨_, List.getElem?_eq_getElem (by rw [HKN.out]; omega)⟩
  have hidx := fun w' => run_idx hch (j : Int) rfl w'
  have HWC : Hid (wholeB (l.take (j + 1)) = (decide (ch.toNat = 59) || decide (ch.toNat = 10))) := keepHid (by
    unfold wholeB
    rw [List.take_succ_of hch, List.getLast?_append]
    simp only [List.getLast?_singleton, Option.some_or]
    rw [Bool.eq_iff_iff]
    simp only [Bool.or_eq_true, beq_iff_eq, decide_eq_true_eq]
    constructor
    · rintro (rfl | rfl)
      · exact .inl rfl
      · exact .inr rfl
    · rintro (h | h)
      · exact .inl (UInt8.toNat_inj.1 h)
      · exact .inr (UInt8.toNat_inj.1 h))
  obtain ⟨b, hb⟩ : ∃ b, ch.toNat = b := ⟨_, rfl⟩
  rw [hb] at hidx HWC
  have hjj : ((j + 1 : Nat) : Int) - 1 = (j : Int) := by omega
  have hk0 : (((j + 1 : Nat) : Int) == 0) = false := by simp; omega
  have hjN : (j : Int) < (N : Int) := by omega
  have hj1 : ((j + 1 : Nat) : Int) ≤ (N : Int) := by omega
  have hf : ∀ p q : Nat, faultV (p : Int) (q : Int) = .iface 88 (.agg #[.int .i64 (p : Int), .int .i64 (q : Int)]) := fun p q => rfl
  have HFV := keepHid hf
  clear hch hb hf
  generalize hKI : ((j + 1 : Nat) : Int) = KI at *
  have e59 : ((b : Int) == 59) = decide (b = 59) := by rw [Bool.eq_iff_iff]; simp; omega
  have e10 : ((b : Int) == 10) = decide (b = 10) := by rw [Bool.eq_iff_iff]; simp; omega
  clear hKI hm1
  go_wp2_with fail
  refine (HPA.out _ HN3.out.errs).mono ?_
  rintro e w4 ⟨⟨y, hy, rfl⟩ | ⟨es', A4, n4, c4, hes, rfl, hown⟩, hb4⟩
  · have HB4 := keepHid (HB3.out.trans (hb4.mono HB3.out.size))
    have hno : wholeB (l.take (j + 1)) = false := by
      rw [Bool.eq_false_iff]
      intro h
      obtain ⟨es2, h2⟩ := HWB.out.1 h
      rw [h2] at hy; cases hy
    rw [HWC.out] at hno
    simp only [Bool.or_eq_false_iff] at hno
    rw [hno.1] at e59
    rw [hno.2] at e10
    rw [HFV.out]
    clear hb4 hy HPA hcut hno HWB HWC
    generalize (y.1 : Int) = Y1 at *
    generalize (y.2 : Int) = Y2 at *
    go_wp2
    go_ret
    exact ⟨rfl, HB4.out⟩
  · have HB4 := keepHid (HB3.out.trans (hb4.mono HB3.out.size))
    have hyes : wholeB (l.take (j + 1)) = true := HWB.out.2 ⟨es', hes⟩
    rw [HWC.out] at hyes
    clear hb4 hown hes HPA hcut HWB HWC
    by_cases h59 : b = 59
    · rw [decide_eq_true h59] at e59
      clear h59 hyes e10
      go_wp2
      go_ret
      exact ⟨rfl, HB4.out⟩
    · have h10 : b = 10 := by simpa [h59] using hyes
      rw [decide_eq_false h59] at e59
      rw [decide_eq_true h10] at e10
      clear h59 hyes h10
      go_wp2
      go_ret
      exact ⟨rfl, HB4.out⟩
theorem walk (a0 : Option Addr) (n0 c0 : Nat) (m0 : List Mac) (x1 : Int) (w : World) (hT : NumT w) (h0 : MacS w a0 n0 m0) (l0 : n0 ≤ c0) (s0 : c0 ≤ 9223372036854775807) (h1 : 0 ≤ x1 ∧ x1 ≤ 65535) :
    Calls Tryd.prog 6 #[.slice a0 n0 c0, .int .u16 x1] w fun e w' => e = .returned (.bool true) ∧ Below w.heap.size w w' := by
  obtain ⟨x, rfl⟩ : ∃ x : Nat, x1 = (x : Int) := ⟨x1.toNat, by omega⟩
  exact walkL a0 n0 c0 m0 x (by omega) w hT (by omega) h0

set_option maxRecDepth 100000 in
theorem lifted (os : Os) (started : os.Started) (H : Type) (enc : TypeId × Value → H) :
    ReturnsInHanded {} Tryd.checked os 6 .any (fun w args => (Rows.manifestCutSpec.pre enc Tryd.prog Tryd.f6 [] false w args ∧ laidMetH Tryd.prog laid7 w) ∧ sizedMet enc Tryd.prog Tryd.f6 (OpenSpec.ofChange Rows.manifestCutSpec) false w args) (Rows.manifestCutSpec.post enc Tryd.prog Tryd.f6 false true false false) := by
  refine returnsInHanded_of_change_and (C := Tryd.checked) (X := fun w _ => laidMetH Tryd.prog laid7 w) (fun _ _ _ hh h => h.of_heap hh) own started (by kernel_rfl) Tryd.func6
    (ChangeSpec.witness_shaped (enc := enc) (C := Tryd.checked) (os := os) (X := fun w _ => laidMetH Tryd.prog laid7 w) false (worldF os) #[.slice none 0 0, .int .u16 0] 8 (worldF_os os) (World.shaped_of_RefB (by kernel_rfl) (by kernel_rfl)) (by kernel_rfl) (by kernel_rfl) (by kernel_rfl) (door7 os _)) ?_
  intro W base args ds gs before hval0 hW hcnd hsz0 hL _
  have hsz : (DataW.weightsEach Tryd.prog (Tryd.f6.params.toList ++ Rows.manifestCutSpec.plain.varTypes Tryd.prog) (ds ++ gs)).all (· ≤ reachBytes) = true := hsz0
  clear hsz0
  have hval : ∀ (j : Nat) t v, Tryd.f6.params[j]? = some t → args[j]? = some v → Value.okWide Tryd.prog W .any base t v := hval0
  have hW' := hW
  obtain ⟨p, q, hA0, hV, rfl, hfz, hnd⟩ := hW
  have hA : DataW.TrodAll enc Tryd.prog W 0 (fun _ => true) true Tryd.f6.params.toList args.toList ds p := hA0
  rw [Tryd.params6] at hA hval hsz
  obtain ⟨v0, vs0, d0, ds0, p0, q0, hargs, rfl, rfl, h0, r0⟩ := trodAll_cons hA
  obtain ⟨v1, vs1, d1, ds1, p1, q1, rfl, rfl, rfl, h1, r1⟩ := trodAll_cons r0
  obtain ⟨rfl, rfl, rfl⟩ := trodAll_nil r1
  obtain rfl : args = #[v0, v1] := by cases args; simp_all
  obtain ⟨rfl, rfl⟩ := trodVars_none hV
  have k0 := h0
  have lt0 : ∀ x ∈ p0, x.block < W.heap.size := by obtain ⟨m, hm⟩ := k0; exact DataW.trod_lt m _ _ _ hm
  have k1 := h1
  have lt1 : ∀ x ∈ p1, x.block < W.heap.size := by obtain ⟨m, hm⟩ := k1; exact DataW.trod_lt m _ _ _ hm
  obtain ⟨a0, n0, c0, m0, rfl, w0, l0, s0⟩ := open_mac Tryd.underlying22 Tryd.underlying46 ⟨rfl, rfl⟩ ⟨rfl, rfl⟩ ⟨rfl, rfl⟩ ⟨rfl, rfl⟩ ⟨rfl, rfl⟩ Tryd.underlying44 Tryd.underlying5 Tryd.underlying40 Tryd.underlying33 (by kernel_rfl) (by kernel_rfl) (by kernel_rfl) (by kernel_rfl) (by kernel_rfl) (hval 0 22 v0 rfl rfl) h0
  obtain ⟨x1, rfl, rfl, rfl, w1⟩ := open_int Tryd.underlying40 (hval 1 40 v1 rfl rfl) h1
  clear hA0 hval0
  refine (walk a0 n0 c0 m0 x1 W (num7 hL) w0 l0 s0 (wf_u16 w1)).mono fun e W' ⟨he, bel⟩ => ?_
  subst he
  exact ⟨_, rfl, _, _, _, [], _, [], hW', trodAll_mk1 (shut_bool Tryd.underlying4 _), (trodAll_cons_mk (Below.trod laidOut (by kernel_rfl) (of_decide_eq_true (by kernel_rfl)) k0 bel lt0) (trodAll_cons_mk (Below.trod laidOut (by kernel_rfl) (of_decide_eq_true (by kernel_rfl)) k1 bel lt1) trodAll_mk0)), rfl, bel.frame _, fun h => by cases h⟩

theorem over : Rows.manifestCutRow.holds Tryd.pinned (OpenSpec.ofChange Rows.manifestCutSpec) :=
  OpenClaim.holds_of_wide 6 Tryd.f6 rfl rfl rfl rfl rfl rfl rfl ⟨rfl, rfl, rfl, rfl, rfl⟩ rfl rfl rfl rfl rfl (by kernel_rfl) Tryd.func6 (by kernel_rfl)
    (of_decide_eq_true (by kernel_rfl)) (by unfold Func.isWrapper; first | (rw [if_pos (by decide +kernel)]; kernel_rfl) | (rw [if_neg (by decide +kernel)]; exact ⟨rfl, rfl⟩))
    (fun os started H enc _ => lifted os started H enc)

/-- The card: what the row lists is tied to the program's own text. -/
theorem proved : Rows.ManifestCutCardSaid :=
  Claim7.holds_tied_plain_at .later [] [.data, .data, .data, .data, .sentinel, .sentinel, .pinned] true Rows.manifestCutCard.stood.harness true
    over (fun _ h => by cases h) (by kernel_rfl) (fun _ h => by cases h) manifestCut_row_tie rfl ⟨rfl, rfl⟩ (by kernel_rfl) rfl
    (fun f fn hf hfn => by
      obtain rfl : f = 6 := Option.some.inj ((show Tryd.prog.funcNamed "lifeline/lifelinelaw16.ManifestCut" = some 6 by kernel_rfl).symm.trans hf) |>.symm
      obtain rfl : fn = Tryd.f6 := (Option.some.inj (Tryd.func6.symm.trans hfn)).symm
      exact ⟨by kernel_rfl, fun j t ht => by
        rw [Tryd.params6] at ht
        have hm : t ∈ [22, 40] := by simpa using Array.mem_of_getElem? ht
        have hall : ([22, 40].all fun u => !Tryd.prog.wantsStandIn u) = true := by kernel_rfl
        exact (show Tryd.prog.wantsStandIn t = false by simpa using List.all_eq_true.1 hall t hm)⟩)
    (by kernel_rfl)
end Go.Proofs.YtkhhcclomjfliaaDoor.manifestCut
