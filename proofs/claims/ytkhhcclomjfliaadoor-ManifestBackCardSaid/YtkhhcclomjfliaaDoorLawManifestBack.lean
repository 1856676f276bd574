/-
  'lifelinelaw16.ManifestBack' answers true for every input of the row, and leaves its arguments as they were.
  Conditions: the package-level variables that the row lists lie as the program's own text lays them (the card ties them to it; what is pinned is a constant of the library's).
-/
import Derived.Test.YtkhhcclomjfliaaDoorRows
import Derived.Test.YtkhhcclomjfliaaDoorManifestEnts
import Derived.Test.YtkhhcclomjfliaaDoorFrame
import Derived.Test.YtkhhcclomjfliaaDoorFrameNum
import Derived.Test.YtkhhcclomjfliaaDoorCards
import Derived.Test.YtkhhcclomjfliaaDoorManifestAwake
import Derived.Test.YtkhhcclomjfliaaDoorManifestLaw
import Derived.Test.YtkhhcclomjfliaaDoorFrameMac
import Derived.Lib.QuietBelow
import Derived.Deep.DeepCutAuto
import Derived.OwnWalk
import Derived.WalkKit
import Derived.ProofKit
import Derived.OpenShut
import Derived.ShutString
import Derived.ChangeOld
import Derived.Below
namespace Go.Proofs.YtkhhcclomjfliaaDoor.manifestBack
open Go.ChangeShapes Go.WideShapes Go.ChangeAt Go.RowKit
open Go.ChangeMaps (open_string shut_string)
set_option linter.unusedVariables false

theorem own : ownKnob Tryd.prog.godebug = none := by kernel_rfl
theorem laidOut : laidOutB Tryd.prog = true := by kernel_rfl

set_option maxRecDepth 100000 in
set_option maxHeartbeats 4000000 in
theorem walkL (A : Option Addr) (n c : Nat) (ms : List Mac) (w : World) (hT : NumT w) (hn : n ≤ 9223372036854775807) (hS : MacS w A n ms) :
    Calls Tryd.prog 3 #[.slice A n c] w fun e w' => e = .returned (.bool true) ∧ Below w.heap.size w w' := by
  have hG := ents_good hS
  have hlen := ents_text hG
  have HA := keepHid (awake_any w hT)
  have HT := keepHid hT
  have HS := keepHid hS
  have HG := keepHid hG
  have HLN := keepHid hlen
  have HP := keepHid (text_parse fun e he => (hG e he).tells)
  have hown0 := ents_len ms ms.length
  have HE8 : Hid ((entsOf ms).length ≤ 8) := keepHid hown0
  obtain ⟨es, hes⟩ : ∃ es, entsOf ms = es := ⟨_, rfl⟩
  have HEN : Hid (∀ w' , MacS w' A n ms → Calls Tryd.prog 8 #[.slice A n c] w' fun r w'' => (∃ B m cb, r = .returned (.slice B m cb) ∧ OwnE w'' w'.heap.size (.slice B m cb) m es) ∧ Below w'.heap.size w' w'') := keepHid (fun w' h => by rw [← hes]; exact ents_any ms A n c hn w' h)
  rw [hes] at HG HLN HP HE8
  clear hG hlen hT hS hown0 hes
  go_enter Tryd.func3, Tryd.ntmps3
  go_wp2_with fail
  refine HA.out.mono ?_
  rintro e w1 ⟨rfl, hb1⟩
  have HB1 := keepHid hb1
  have HS1 := keepHid (HS.out.below hb1)
  clear hb1 HA HS
  go_wp2_with fail
  refine (HEN.out _ HS1.out).mono ?_
  rintro e w2 ⟨⟨B, m, cb, rfl, hown⟩, hb2⟩
  have HB2 := keepHid (HB1.out.trans (hb2.mono HB1.out.size))
  have HN2 := keepHid (HT.out.below HB2.out (Nat.le_refl _))
  have HE2 := keepHid hown.ens
  have hml : m ≤ 8 := by have := hown.len; have := HE8.out; omega
  have HTX := keepHid (mtext_any es B m cb (fun e he => ⟨(HG.out e he).fits, by have := (HG.out e he).len; omega⟩) (by have := HLN.out; omega) (by omega) w2 HN2.out HE2.out)
  have HLT := keepHid (fun w' h => ltext_any es B m cb (fun e he => ⟨(HG.out e he).fits, by have := (HG.out e he).len; omega, by have := (HG.out e he).tells.addr; omega, by have := (HG.out e he).tells.size; omega⟩) (by have := HLN.out; omega) (by omega) w' h)
  have HPA := keepHid (fun w' h => parse_any (textL es) (by have := HLN.out; omega) w' h)
  clear hb2 hown HEN HS1
  have hse := strB_same (xs := textL es) (bs := textL es) rfl
  generalize hX : strB (textL es) = X at *
  go_wp2_with fail
  refine HTX.out.mono ?_
  rintro e w3 ⟨rfl, hb3⟩
  have HB3 := keepHid (HB2.out.trans (hb3.mono HB2.out.size))
  have HE3 := keepHid (HE2.out.below hb3 (Nat.le_refl _))
  have HN3 := keepHid (HN2.out.below hb3 (Nat.le_refl _))
  clear hb3 HTX
  go_wp2_with fail
  refine (HPA.out _ HN3.out.errs).mono ?_
  rintro e w4 ⟨⟨x, hx, rfl⟩ | ⟨es', A4, n4, c4, hes, rfl, hown⟩, hb4⟩
  · rw [HP.out] at hx; cases hx
  obtain rfl : es = es' := by rw [HP.out] at hes; injection hes
  have HB4 := keepHid (HB3.out.trans (hb4.mono HB3.out.size))
  have HE4 := keepHid (HE3.out.below hb4 (Nat.le_refl _))
  have HF4 := keepHid hown.ens
  have hn4 : n4 ≤ 8 := by have := hown.len; have := HE8.out; omega
  clear hb4 hown hes HPA
  go_wp2_with fail
  refine (HLT.out _ HE4.out).mono ?_
  rintro e w5 ⟨rfl, hb5⟩
  have HB5 := keepHid (HB4.out.trans (hb5.mono HB4.out.size))
  have HSM := keepHid (lsame_any es es A4 B n4 m c4 cb ⟨by omega, by omega⟩ w5 (HF4.out.below hb5 (Nat.le_refl _)) (HE4.out.below hb5 (Nat.le_refl _)))
  rw [decide_eq_true rfl] at HSM
  clear hb5 HLT
  go_wp2_with fail
  refine HSM.out.mono ?_
  rintro e w6 ⟨rfl, hb6⟩
  have HB6 := keepHid (HB5.out.trans (hb6.mono HB5.out.size))
  clear hb6
  go_wp2
  go_ret
  exact ⟨rfl, HB6.out⟩
theorem walk (a0 : Option Addr) (n0 c0 : Nat) (m0 : List Mac) (w : World) (hT : NumT w) (h0 : MacS w a0 n0 m0) (l0 : n0 ≤ c0) (s0 : c0 ≤ 9223372036854775807) :
    Calls Tryd.prog 3 #[.slice a0 n0 c0] w fun e w' => e = .returned (.bool true) ∧ Below w.heap.size w w' := by
  exact walkL a0 n0 c0 m0 w hT (by omega) h0

set_option maxRecDepth 100000 in
theorem lifted (os : Os) (started : os.Started) (H : Type) (enc : TypeId × Value → H) :
    ReturnsInHanded {} Tryd.checked os 3 .any (fun w args => (Rows.manifestBackSpec.pre enc Tryd.prog Tryd.f3 [] false w args ∧ laidMetH Tryd.prog laid7 w) ∧ sizedMet enc Tryd.prog Tryd.f3 (OpenSpec.ofChange Rows.manifestBackSpec) false w args) (Rows.manifestBackSpec.post enc Tryd.prog Tryd.f3 false true false false) := by
  refine returnsInHanded_of_change_and (C := Tryd.checked) (X := fun w _ => laidMetH Tryd.prog laid7 w) (fun _ _ _ hh h => h.of_heap hh) own started (by kernel_rfl) Tryd.func3
    (ChangeSpec.witness_shaped (enc := enc) (C := Tryd.checked) (os := os) (X := fun w _ => laidMetH Tryd.prog laid7 w) false (worldF os) #[.slice none 0 0] 8 (worldF_os os) (World.shaped_of_RefB (by kernel_rfl) (by kernel_rfl)) (by kernel_rfl) (by kernel_rfl) (by kernel_rfl) (door7 os _)) ?_
  intro W base args ds gs before hval0 hW hcnd hsz0 hL _
  have hsz : (DataW.weightsEach Tryd.prog (Tryd.f3.params.toList ++ Rows.manifestBackSpec.plain.varTypes Tryd.prog) (ds ++ gs)).all (· ≤ reachBytes) = true := hsz0
  clear hsz0
  have hval : ∀ (j : Nat) t v, Tryd.f3.params[j]? = some t → args[j]? = some v → Value.okWide Tryd.prog W .any base t v := hval0
  have hW' := hW
  obtain ⟨p, q, hA0, hV, rfl, hfz, hnd⟩ := hW
  have hA : DataW.TrodAll enc Tryd.prog W 0 (fun _ => true) true Tryd.f3.params.toList args.toList ds p := hA0
  rw [Tryd.params3] at hA hval hsz
  obtain ⟨v0, vs0, d0, ds0, p0, q0, hargs, rfl, rfl, h0, r0⟩ := trodAll_cons hA
  obtain ⟨rfl, rfl, rfl⟩ := trodAll_nil r0
  obtain rfl : args = #[v0] := by cases args; simp_all
  obtain ⟨rfl, rfl⟩ := trodVars_none hV
  have k0 := h0
  have lt0 : ∀ x ∈ p0, x.block < W.heap.size := by obtain ⟨m, hm⟩ := k0; exact DataW.trod_lt m _ _ _ hm
  obtain ⟨a0, n0, c0, m0, rfl, w0, l0, s0⟩ := open_mac Tryd.underlying22 Tryd.underlying46 ⟨rfl, rfl⟩ ⟨rfl, rfl⟩ ⟨rfl, rfl⟩ ⟨rfl, rfl⟩ ⟨rfl, rfl⟩ Tryd.underlying44 Tryd.underlying5 Tryd.underlying40 Tryd.underlying33 (by kernel_rfl) (by kernel_rfl) (by kernel_rfl) (by kernel_rfl) (by kernel_rfl) (hval 0 22 v0 rfl rfl) h0
  clear hA0 hval0
  refine (walk a0 n0 c0 m0 W (num7 hL) w0 l0 s0).mono fun e W' ⟨he, bel⟩ => ?_
  subst he
  exact ⟨_, rfl, _, _, _, [], _, [], hW', trodAll_mk1 (shut_bool Tryd.underlying4 _), (trodAll_cons_mk (Below.trod laidOut (by kernel_rfl) (of_decide_eq_true (by kernel_rfl)) k0 bel lt0) trodAll_mk0), rfl, bel.frame _, fun h => by cases h⟩

theorem over : Rows.manifestBackRow.holds Tryd.pinned (OpenSpec.ofChange Rows.manifestBackSpec) :=
  OpenClaim.holds_of_wide 3 Tryd.f3 rfl rfl rfl rfl rfl rfl rfl ⟨rfl, rfl, rfl, rfl, rfl⟩ rfl rfl rfl rfl rfl (by kernel_rfl) Tryd.func3 (by kernel_rfl)
    (of_decide_eq_true (by kernel_rfl)) (by unfold Func.isWrapper; first | (rw [if_pos (by decide +kernel)]; kernel_rfl) | (rw [if_neg (by decide +kernel)]; exact ⟨rfl, rfl⟩))
    (fun os started H enc _ => lifted os started H enc)

/-- The card: what the row lists is tied to the program's own text. -/
theorem proved : Rows.ManifestBackCardSaid :=
  Claim7.holds_tied_plain_at .later [] [.data, .data, .data, .data, .sentinel, .sentinel, .pinned] true Rows.manifestBackCard.stood.harness true
    over (fun _ h => by cases h) (by kernel_rfl) (fun _ h => by cases h) manifestBack_row_tie rfl ⟨rfl, rfl⟩ (by kernel_rfl) rfl
    (fun f fn hf hfn => by
      obtain rfl : f = 3 := Option.some.inj ((show Tryd.prog.funcNamed "lifeline/lifelinelaw16.ManifestBack" = some 3 by kernel_rfl).symm.trans hf) |>.symm
      obtain rfl : fn = Tryd.f3 := (Option.some.inj (Tryd.func3.symm.trans hfn)).symm
      exact ⟨by kernel_rfl, fun j t ht => by
        rw [Tryd.params3] at ht
        have hm : t ∈ [22] := by simpa using Array.mem_of_getElem? ht
        have hall : ([22].all fun u => !Tryd.prog.wantsStandIn u) = true := by kernel_rfl
        exact (show Tryd.prog.wantsStandIn t = false by simpa using List.all_eq_true.1 hall t hm)⟩)
    (by kernel_rfl)
end Go.Proofs.YtkhhcclomjfliaaDoor.manifestBack
