/-
  'lifelinelaw08.MatchAll' answers true for every input, and leaves its arguments as they were.
  Conditions: none but what the row itself says of its arguments (how much memory each may take).
-/
import Derived.Test.YtelkgkmomdmblaaRows
import Derived.Test.YtelkgkmomdmblaaMatchFirst
import Derived.Test.YtelkgkmomdmblaaMatchAwake
import Derived.LoopTactic
import Derived.Deep.DeepCutAuto
import Derived.Test.YtelkgkmomdmblaaFrame
import Derived.WalkKit
import Derived.ProofKit
import Derived.OpenShut
import Derived.ShutString
import Derived.ChangeOld
import Derived.Below
namespace Go.Proofs.Ytelkgkmomdmblaa.matchAll
open Go.ChangeShapes Go.WideShapes Go.ChangeAt Go.RowKit
open Go.ChangeMaps (open_string shut_string)
set_option linter.unusedVariables false

theorem own : ownKnob Try.prog.godebug = none := by kernel_rfl
theorem laidOut : laidOutB Try.prog = true := by kernel_rfl

def patDot : Re := .star (.one (notS st0))
theorem parse_dot : parseF [46, 42] = (some patDot, 2) := by decide +kernel
theorem has_dot : ∀ n : Fin 256, hasS (notS st0) n.val = true := by decide +kernel
theorem mt_dot (s : List UInt8) : Mt patDot s := by
  refine ⟨s.map fun c => [c], ?_, fun u hu => ?_⟩
  · induction s with
    | nil => rfl
    | cons c s ih => simp only [List.map_cons, List.flatten_cons, ← ih]; rfl
  · obtain ⟨c, _, rfl⟩ := List.mem_map.1 hu
    exact ⟨c, rfl, has_dot ⟨c.toNat, u8lt c⟩⟩
theorem ends_dot (s : List UInt8) (f : Nat) : endsL patDot s f = List.range' f (s.length + 1 - f) := by
  unfold endsL endsTo
  rw [List.filter_eq_self]
  intro k _
  rw [mtB_iff]
  exact mt_dot _
theorem first_dot (s : List UInt8) : firstL patDot s = (0, true) := first_hit (Nat.zero_le _) (by rw [hit_zero]; rfl) (fun i hi => by omega)
set_option maxRecDepth 100000 in
set_option maxHeartbeats 4000000 in
theorem walk (a0 : Option Addr) (n0 c0 : Nat) (b0 : List UInt8) (x1 : Int) (w : World) (h0 : Bys w w.heap.size a0 n0 b0) (l0 : n0 ≤ c0) (s0 : c0 ≤ 140737488351232) (h1 : 0 ≤ x1 ∧ x1 ≤ 255) :
    Calls Try.prog 8 #[.slice a0 n0 c0, .int .u8 x1] w fun e w' => e = .returned (.bool true) ∧ Below w.heap.size w w' := by
  obtain ⟨m, hm⟩ : ∃ m, (txt b0).length = m := ⟨_, rfl⟩
  have hm14 : m ≤ 14 := by rw [← hm]; exact txt_len b0
  obtain ⟨f, hf⟩ : ∃ f : Nat, x1 % ((m : Int) + 1) = (f : Int) := ⟨(x1 % ((m : Int) + 1)).toNat, by
    have := Int.emod_nonneg x1 (show ((m : Int) + 1) ≠ 0 by omega)
    omega⟩
  have hfm : f ≤ m := by
    have := Int.emod_lt_of_pos x1 (show (0 : Int) < (m : Int) + 1 by omega)
    omega
  have HAW := keepHid (awake8_any w)
  have HY := keepHid h0
  have HP := keepHid (fun w' => parse_any [46, 42] w')
  have e1 : strB [46, 42] = ⟨#[46, 42]⟩ := rfl
  rw [e1] at HP
  have HM := keepHid hm
  have HF := keepHid hfm
  have hsz : (strB (txt b0)).size = m := by rw [strB_size, hm]
  have hx0 : 0 ≤ x1 := h1.1
  have hx1 : x1 ≤ 255 := h1.2
  have hft : x1.tmod ((m : Int) + 1) = (f : Int) := by rw [Int.tmod_eq_emod_of_nonneg h1.1]; exact hf
  clear h0 h1 hm e1 l0 s0
  go_enter Try.func8, Try.ntmps8
  go_wp2_with fail
  with_reducible refine HAW.out.mono ?_
  rintro e w1 ⟨rfl, hb1⟩
  have HB1 := keepHid hb1
  clear hb1
  go_wp2_with fail
  with_reducible refine (HP.out w1).mono ?_
  rintro e w2 hp
  obtain ⟨h, rfl, hi2, hb2⟩ := parse_pat parse_dot hp (by decide)
  obtain ⟨w3, hw3⟩ : ∃ w3, w2.alloc (.cells (hdC h) 31) = w3 := ⟨_, rfl⟩
  obtain ⟨hi3, hb3, hk3⟩ := node_var hi2 hw3
  have HB3 := keepHid (HB1.out.trans ((hb2.trans (hb3.mono hb2.size)).mono HB1.out.size))
  have HT := keepHid (text_any (k := c0) b0 (HY.out.below HB3.out))
  have HE := keepHid (mends_any (r := patDot) (txt b0) (f : Int) hi3 (by rw [HM.out]; omega))
  have HI3 := keepHid hi3
  have HW3 := keepHid hw3
  unfold hdC at hk3 HW3
  have HK3 := keepHid hk3
  obtain ⟨n0', n1', n2', n3', n4', n5', nf⟩ := blk6 hk3
  have hel : endsI patDot (txt b0) (f : Int) = List.range' f (m + 1 - f) := by
    unfold endsI
    rw [if_pos (by rw [HM.out]; omega), show ((f : Int)).toNat = f by omega, ends_dot, HM.out]
  rw [hel] at HE
  clear hp hi2 hb2 hi3 hb3 hw3 hk3 HP hel
  unfold hdV at *
  go_upto_region 4 with fail
  rw [HW3.out]
  generalize w2.heap.size = V at *
  go_wp2_with fail
  with_reducible refine HT.out.mono ?_
  rintro e w' ⟨rfl, rfl⟩
  go_wp2_with fail
  with_reducible refine HE.out.mono ?_
  rintro e w4 ⟨A, q, c, rfl, ho, hb4⟩
  have hq := own_len ho
  simp only [List.length_range'] at hq
  have hqi : (q : Int) = (m : Int) - (f : Int) + 1 := by omega
  have hqm : q ≤ 15 := by omega
  have HS := keepHid (Sl.of_own ho (by unfold maxLen; omega))
  have HB4 := keepHid (HB3.out.trans (hb4.mono HB3.out.size))
  have HFI := keepHid (first_any (r := patDot) (txt b0) (HI3.out.below hb4) (by rw [HM.out]; omega))
  unfold FirstPost at HFI
  rw [first_dot] at HFI
  unfold hdV at HFI
  have hK4 := HK3.out.below hb4 HK3.out.lt
  obtain ⟨v0, v1, v2, v3, v4, v5, vf⟩ := blk6 hK4
  clear ho hb4 HE HT n0' n1' n2' n3' n4' n5' nf hK4 hft
  go_wp2_with fail
  go_loop [46] (fun i => ∃ j : Nat, j ≤ q ∧ i = .int .i64 j) (fun i => q - (intOf i).toNat)
  case atStart => exact ⟨0, Nat.zero_le _, rfl⟩
  case round =>
    obtain ⟨j, hj, rfl⟩ := hrel
    rcases Nat.lt_or_ge j q with hlt | hge
    · have hp : (List.range' f (m + 1 - f))[j]? = some (f + j) := by
        rw [List.getElem?_range' (by omega)]
        simp
      obtain ⟨ad, rfl, _, hcell⟩ := HS.out.2.2 j _ hp
      unfold natV at hcell
      have hji : (j : Int) < (q : Int) := by omega
      have e2 : ((f + j : Nat) : Int) = (f : Int) + (j : Int) := by omega
      rw [e2] at hcell
      clear hp
      go_wp2
      go_round
      case rel => exact ⟨j + 1, by omega, by go_num⟩
      case measure => simp [intOf]; omega
    · go_wp2_with fail
      with_reducible refine HFI.out.mono ?_
      rintro e w5 ⟨rfl, hb5⟩
      have HB5 := keepHid (HB4.out.trans (hb5.mono HB4.out.size))
      clear hb5
      go_wp2
      go_ret
      exact ⟨rfl, HB5.out⟩

set_option maxRecDepth 100000 in
theorem lifted (os : Os) (started : os.Started) (H : Type) (enc : TypeId × Value → H) :
    ReturnsInHanded {} Try.checked os 8 .any (Rows.matchAllSpec.pre6 enc Try.prog Try.f8 Rows.matchAllRow.domain false) (Rows.matchAllSpec.post enc Try.prog Try.f8 false true false false) := by
  refine returnsInHanded_of_change_sized (C := Try.checked) own started (by kernel_rfl) Try.func8
    (ChangeSpec.witness6 (enc := enc) (C := Try.checked) false ⟨#[], #[.slice none 0 0, .int .u8 0], []⟩ 8 (by kernel_rfl) (by kernel_rfl) (by kernel_rfl) (by kernel_rfl)) ?_
  intro W base args ds gs before hval0 hW hcnd hsz0 _
  have hsz : (DataW.weightsEach Try.prog (Try.f8.params.toList ++ Rows.matchAllSpec.plain.varTypes Try.prog) (ds ++ gs)).all (· ≤ reachBytes) = true := hsz0
  clear hsz0
  have hval : ∀ (j : Nat) t v, Try.f8.params[j]? = some t → args[j]? = some v → Value.okWide Try.prog W .any base t v := hval0
  have hW' := hW
  obtain ⟨p, q, hA0, hV, rfl, hfz, hnd⟩ := hW
  have hA : DataW.TrodAll enc Try.prog W 0 (fun _ => true) true Try.f8.params.toList args.toList ds p := hA0
  rw [Try.params8] at hA hval hsz
  obtain ⟨v0, vs0, d0, ds0, p0, q0, hargs, rfl, rfl, h0, r0⟩ := trodAll_cons hA
  obtain ⟨v1, vs1, d1, ds1, p1, q1, rfl, rfl, rfl, h1, r1⟩ := trodAll_cons r0
  obtain ⟨rfl, rfl, rfl⟩ := trodAll_nil r1
  obtain rfl : args = #[v0, v1] := by cases args; simp_all
  obtain ⟨rfl, rfl⟩ := trodVars_none hV
  have k0 := h0
  have lt0 : ∀ x ∈ p0, x.block < W.heap.size := by obtain ⟨m, hm⟩ := k0; exact DataW.trod_lt m _ _ _ hm
  have k1 := h1
  have lt1 : ∀ x ∈ p1, x.block < W.heap.size := by obtain ⟨m, hm⟩ := k1; exact DataW.trod_lt m _ _ _ hm
  obtain ⟨a0, n0, c0, b0, rfl, w0, l0, s0⟩ := open_bys Try.underlying22 Try.underlying5 (by kernel_rfl) (by kernel_rfl) (hval 0 22 v0 rfl rfl) (fun _ => rfl) h0 (fun el sp hd => sized_slice hsz (j := 0) (t := 22) (e := 5) rfl (by rw [hd]; rfl) Try.underlying22)
  obtain ⟨x1, rfl, rfl, rfl, w1⟩ := open_int Try.underlying5 (hval 1 5 v1 rfl rfl) h1
  clear hA0 hval0
  refine (walk a0 n0 c0 b0 x1 W w0 l0 s0 (wf_u8 w1)).mono fun e W' ⟨he, bel⟩ => ?_
  subst he
  exact ⟨_, rfl, _, _, _, [], _, [], hW', trodAll_mk1 (shut_bool Try.underlying4 _), (trodAll_cons_mk (Below.trod laidOut (by kernel_rfl) (of_decide_eq_true (by kernel_rfl)) k0 bel lt0) (trodAll_cons_mk (Below.trod laidOut (by kernel_rfl) (of_decide_eq_true (by kernel_rfl)) k1 bel lt1) trodAll_mk0)), rfl, bel.frame _, fun h => by cases h⟩

theorem over : Rows.matchAllRow.holds Try.pinned (OpenSpec.ofChange Rows.matchAllSpec) :=
  OpenClaim.holds_of_wide 8 Try.f8 rfl rfl rfl rfl rfl rfl rfl ⟨rfl, rfl, rfl, rfl, rfl⟩ rfl rfl rfl rfl rfl (by kernel_rfl) Try.func8 (by kernel_rfl)
    (of_decide_eq_true (by kernel_rfl)) (by unfold Func.isWrapper; first | (rw [if_pos (by decide +kernel)]; kernel_rfl) | (rw [if_neg (by decide +kernel)]; exact ⟨rfl, rfl⟩))
    (fun os started H enc _ => lifted os started H enc)

theorem proved : Rows.MatchAllSaid := over
end Go.Proofs.Ytelkgkmomdmblaa.matchAll
