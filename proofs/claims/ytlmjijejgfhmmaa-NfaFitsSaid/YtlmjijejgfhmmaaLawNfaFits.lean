/-
  'lifelinelaw07.NfaFits' answers true for every input, and leaves its arguments as they were.
  Conditions: none but what the row itself says of its arguments (how much memory each may take).
-/
import Derived.Test.YtlmjijejgfhmmaaRows
import Derived.Test.YtlmjijejgfhmmaaNfaRef
import Derived.Test.YtlmjijejgfhmmaaRegexMake3
import Derived.Test.YtlmjijejgfhmmaaRegexMakesAll
import Derived.Lib.QuietBelow
import Derived.Test.YtlmjijejgfhmmaaFrame
import Derived.WalkKit
import Derived.ProofKit
import Derived.OpenShut
import Derived.ShutString
import Derived.ChangeOld
import Derived.Below
namespace Go.Proofs.Ytlmjijejgfhmmaa.nfaFits
open Go.ChangeShapes Go.WideShapes Go.ChangeAt Go.RowKit
open Go.ChangeMaps (open_string shut_string)
set_option linter.unusedVariables false

theorem own : ownKnob Try.prog.godebug = none := by kernel_rfl
theorem laidOut : laidOutB Try.prog = true := by kernel_rfl

theorem min_int (ts : Array TypeId) (t : TypeId) (a : Nat) (b : Int) (k : Nat) (h : min (a : Int) b = (k : Int)) (w : World) :
    (Builtin.min_ ts t #[.int .i64 (a : Int), .int .i64 b]).run Try.prog w = .ok (.int .i64 (k : Int)) w := by
  rw [← h]
  by_cases hc : b < (a : Int)
  · simp [Builtin.min_, Builtin.min2, Int.min_def]
    split <;> first | rfl | omega
  · simp [Builtin.min_, Builtin.min2, Int.min_def]
    split <;> first | rfl | omega
theorem walk (a0 : Option Addr) (n0 c0 : Nat) (b0 : List UInt8) (a1 : Option Addr) (n1 c1 : Nat) (b1 : List UInt8) (w : World) (h0 : Bys w w.heap.size a0 n0 b0) (l0 : n0 ≤ c0) (s0 : c0 ≤ 140737488351232) (h1 : Bys w w.heap.size a1 n1 b1) (l1 : n1 ≤ c1) (s1 : c1 ≤ 140737488351232) :
    Calls Try.prog 3 #[.slice a0 n0 c0, .slice a1 n1 c1] w fun e w' => e = .returned (.bool true) ∧ Below w.heap.size w w' := by
  obtain ⟨k0, e0⟩ : ∃ k : Nat, min (n0 : Int) 7 = (k : Int) := ⟨min n0 7, by omega⟩
  obtain ⟨k1, e1⟩ : ∃ k : Nat, min (n1 : Int) 8 = (k : Int) := ⟨min n1 8, by omega⟩
  have hk0 : k0 ≤ n0 := by omega
  have hk1 : k1 ≤ n1 := by omega
  have HY0 := keepHid (h0.head hk0)
  have HY1 := keepHid (h1.head hk1)
  have HAW := keepHid (awake7_any w)
  have q0 := fun W ts t => min_int ts t n0 7 k0 e0 W
  have q1 := fun W ts t => min_int ts t n1 8 k1 e1 W
  have i0 : (k0 : Int) ≤ (c0 : Int) := by omega
  have i1 : (k1 : Int) ≤ (c1 : Int) := by omega
  clear h0 h1 e0 e1
  go_enter Try.func3, Try.ntmps3
  go_wp2_with fail
  with_reducible refine HAW.out.mono ?_
  rintro e w1 ⟨rfl, hb1⟩
  have HB1 := keepHid hb1
  have HMK : Hid (Calls Try.prog 9 #[.slice a0 k0 c0, .int .i64 2] w1 (MakePostD 2 (b0.take k0) w1)) := keepHid (makes_d (d := 2) (build_all 2 (by decide)) a0 k0 c0 (b0.take k0) w1 ((HY0.out.below hb1).more hb1.size) (by omega) (by omega))
  clear hb1
  go_wp2_with fail
  with_reducible refine HMK.out.mono ?_
  rintro e w2 ⟨h, rfl, hi2, hb2⟩
  obtain ⟨w3, hw3⟩ : ∃ w3, w2.alloc (.cells (hdC h) 30) = w3 := ⟨_, rfl⟩
  obtain ⟨hi3, hb3, hk3⟩ := node_var hi2 hw3
  have HB3 := keepHid (HB1.out.trans ((hb2.trans (hb3.mono hb2.size)).mono HB1.out.size))
  have HT := keepHid (text_any (k := c1) (b1.take k1) (HY1.out.below HB3.out))
  have HO := keepHid (of_any hi3 (sm_bld (d := 2) (by decide) (b0.take k0)))
  have WF := keepHid (auOf_wf (sm_bld (d := 2) (by decide) (b0.take k0)))
  have HW3 := keepHid hw3
  unfold hdC at hk3 HW3
  have HK3 := keepHid hk3
  have HI3 := keepHid hi3
  obtain ⟨m0, m1, m2, m3, m4, m5, mf⟩ := blk6 hk3
  clear hi2 hb2 hw3 hi3 hb3 hk3
  unfold hdV at *
  go_upto_region 4 with fail
  rw [HW3.out]
  go_wp2_with fail
  with_reducible refine HT.out.mono ?_
  rintro e w' ⟨rfl, rfl⟩
  go_wp2_with fail
  with_reducible refine HO.out.mono ?_
  rintro e w4 ⟨g, rfl, hA, hb4⟩
  have HB4 := keepHid (HB3.out.trans (hb4.mono HB3.out.size))
  have hlen : ∀ d os, TabA (Sort.grow (redrawn w4 d) os) w3.heap.size g (auOf (bldL 2 (b0.take k0)).2.1) := fun d os => hA.keep (below_regrown w4 d os)
  have hre : ∀ d os, IsS (Sort.grow (redrawn w4 d) os) (fun i => i < w3.heap.size) h (bldL 2 (b0.take k0)).2.1 := fun d os => HI3.out.below (hb4.trans ((below_regrown w4 d os).mono hb4.size))
  have hnd : nds (bldL 2 (b0.take k0)).2.1 ≤ 200000 := Nat.le_trans (bld_nds 2 _) (by decide)
  have hK4 := HK3.out.below hb4 HK3.out.lt
  obtain ⟨t0, t1, t2, t3, t4, t5, tf⟩ := blk6 hK4
  have hsz := au_len (r := (bldL 2 (b0.take k0)).2.1)
  have haf := auOf_ok (bldL 2 (b0.take k0)).2.1
  generalize hR : (bldL 2 (b0.take k0)).2.1 = r at *
  generalize hS : txt (b1.take k1) = bs at *
  have hl14 : bs.length ≤ 14 := by rw [← hS]; exact txt_len _
  have x0 := fun d os => cell_regrown t0 d os
  have x1 := fun d os => cell_regrown t1 d os
  have x2 := fun d os => cell_regrown t2 d os
  have x3 := fun d os => cell_regrown t3 d os
  have x4 := fun d os => cell_regrown t4 d os
  have x5 := fun d os => cell_regrown t5 d os
  have hf1 := fits_iff haf bs
  have hf2 : (auOf r).e = true ↔ Mt r [] := by
    have h1 := fits_iff haf []
    rw [← h1]
    unfold fitsB
    simp
  have CF := keepHid (fun d os => Calls.regrown_of (fits_any bs (hlen d os) WF.out (by omega)))
  have CL := keepHid (fun d os => Calls.regrown_of ((tabA_len (hlen d os)).mono fun e w' hh => ⟨hh.1, by rw [← hh.2]; exact Below.refl _ _⟩))
  have CE := keepHid (fun d os => Calls.regrown_of ((tabA_empty (hlen d os)).mono fun e w' hh => ⟨hh.1, by rw [← hh.2]; exact Below.refl _ _⟩))
  have CP := keepHid (fun d os => Calls.regrown_of (places_all r _ h _ (hre d os) hnd))
  have DF := keepHid (fun d os => Calls.regrown_of (fits_all r _ h _ bs _ (hre d os) (by omega) hf1))
  have DE := keepHid (fun d os => Calls.regrown_of (fits_all r _ h _ [] _ (hre d os) (by decide) hf2))
  rw [hsz] at CL
  have e5 : strB [] = ⟨#[]⟩ := rfl
  rw [e5] at DE
  unfold natV at CL
  unfold hdV at CP DF DE
  clear hlen hre hnd hK4 hsz haf hR hS hf1 hf2 hA hb4 t0 t1 t2 t3 t4 t5 tf m0 m1 m2 m3 m4 m5 mf HI3 HK3 HT HO HW3 HMK HAW WF e5 hl14
  generalize fitsB (auOf r) bs = R1 at *
  generalize (auOf r).e = R2 at *
  generalize sz r = N at *
  generalize strB bs = X at *
  generalize w2.heap.size = nb at *
  go_wp2_with fail
  refine wp_region_quiet_below (by kernel_rfl) (by kernel_rfl) ?_
  cases R1 <;> cases R2
  all_goals
    repeat (go_big_quiet_step (first | (with_reducible exact CF.out _ _) | (with_reducible exact CL.out _ _) | (with_reducible exact CE.out _ _) | (with_reducible exact CP.out _ _) | (with_reducible exact DF.out _ _) | (with_reducible exact DE.out _ _)))
    refine wpQuiet_nil ?_
    intro _ hw'
    obtain ⟨⟨dq, osq⟩, hw''⟩ := hw'
    subst hw''
    have hbr := below_regrown w4 dq osq
    go_wp2
    go_ret
    exact ⟨rfl, HB4.out.trans (hbr.mono HB4.out.size)⟩

set_option maxRecDepth 100000 in
theorem lifted (os : Os) (started : os.Started) (H : Type) (enc : TypeId × Value → H) :
    ReturnsInHanded {} Try.checked os 3 .any (Rows.nfaFitsSpec.pre6 enc Try.prog Try.f3 Rows.nfaFitsRow.domain false) (Rows.nfaFitsSpec.post enc Try.prog Try.f3 false true false false) := by
  refine returnsInHanded_of_change_sized (C := Try.checked) own started (by kernel_rfl) Try.func3
    (ChangeSpec.witness6 (enc := enc) (C := Try.checked) false ⟨#[], #[.slice none 0 0, .slice none 0 0], []⟩ 8 (by kernel_rfl) (by kernel_rfl) (by kernel_rfl) (by kernel_rfl)) ?_
  intro W base args ds gs before hval0 hW hcnd hsz0 _
  have hsz : (DataW.weightsEach Try.prog (Try.f3.params.toList ++ Rows.nfaFitsSpec.plain.varTypes Try.prog) (ds ++ gs)).all (· ≤ reachBytes) = true := hsz0
  clear hsz0
  have hval : ∀ (j : Nat) t v, Try.f3.params[j]? = some t → args[j]? = some v → Value.okWide Try.prog W .any base t v := hval0
  have hW' := hW
  obtain ⟨p, q, hA0, hV, rfl, hfz, hnd⟩ := hW
  have hA : DataW.TrodAll enc Try.prog W 0 (fun _ => true) true Try.f3.params.toList args.toList ds p := hA0
  rw [Try.params3] at hA hval hsz
  obtain ⟨v0, vs0, d0, ds0, p0, q0, hargs, rfl, rfl, h0, r0⟩ := trodAll_cons hA
  obtain ⟨v1, vs1, d1, ds1, p1, q1, rfl, rfl, rfl, h1, r1⟩ := trodAll_cons r0
  obtain ⟨rfl, rfl, rfl⟩ := trodAll_nil r1
  obtain rfl : args = #[v0, v1] := by cases args; simp_all
  obtain ⟨rfl, rfl⟩ := trodVars_none hV
  have k0 := h0
  have lt0 : ∀ x ∈ p0, x.block < W.heap.size := by obtain ⟨m, hm⟩ := k0; exact DataW.trod_lt m _ _ _ hm
  have k1 := h1
  have lt1 : ∀ x ∈ p1, x.block < W.heap.size := by obtain ⟨m, hm⟩ := k1; exact DataW.trod_lt m _ _ _ hm
  obtain ⟨a0, n0, c0, b0, rfl, w0, l0, s0⟩ := open_bys Try.underlying22 Try.underlying5 (by kernel_rfl) (by kernel_rfl) (hval 0 22 v0 rfl rfl) (fun _ => rfl) h0 (fun el sp hd => sized_slice hsz (j := 0) (t := 22) (e := 5) rfl (by rw [hd]; rfl) Try.underlying22)
  obtain ⟨a1, n1, c1, b1, rfl, w1, l1, s1⟩ := open_bys Try.underlying22 Try.underlying5 (by kernel_rfl) (by kernel_rfl) (hval 1 22 v1 rfl rfl) (fun _ => rfl) h1 (fun el sp hd => sized_slice hsz (j := 1) (t := 22) (e := 5) rfl (by rw [hd]; rfl) Try.underlying22)
  clear hA0 hval0
  refine (walk a0 n0 c0 b0 a1 n1 c1 b1 W w0 l0 s0 w1 l1 s1).mono fun e W' ⟨he, bel⟩ => ?_
  subst he
  exact ⟨_, rfl, _, _, _, [], _, [], hW', trodAll_mk1 (shut_bool Try.underlying4 _), (trodAll_cons_mk (Below.trod laidOut (by kernel_rfl) (of_decide_eq_true (by kernel_rfl)) k0 bel lt0) (trodAll_cons_mk (Below.trod laidOut (by kernel_rfl) (of_decide_eq_true (by kernel_rfl)) k1 bel lt1) trodAll_mk0)), rfl, bel.frame _, fun h => by cases h⟩

theorem over : Rows.nfaFitsRow.holds Try.pinned (OpenSpec.ofChange Rows.nfaFitsSpec) :=
  OpenClaim.holds_of_wide 3 Try.f3 rfl rfl rfl rfl rfl rfl rfl ⟨rfl, rfl, rfl, rfl, rfl⟩ rfl rfl rfl rfl rfl (by kernel_rfl) Try.func3 (by kernel_rfl)
    (of_decide_eq_true (by kernel_rfl)) (by unfold Func.isWrapper; first | (rw [if_pos (by decide +kernel)]; kernel_rfl) | (rw [if_neg (by decide +kernel)]; exact ⟨rfl, rfl⟩))
    (fun os started H enc _ => lifted os started H enc)

theorem proved : Rows.NfaFitsSaid := over
end Go.Proofs.Ytlmjijejgfhmmaa.nfaFits
