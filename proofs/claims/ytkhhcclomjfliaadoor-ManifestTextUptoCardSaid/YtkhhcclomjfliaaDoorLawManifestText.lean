/-
  'lifelinelaw16.ManifestText' answers true for every input of the row, and leaves its arguments as they were.
  Conditions: the arguments hold together at most 1048576 values and bytes, each counted each time that it is reached; the package-level variables that the row lists lie as the program's own text lays them (the card ties them to it; what is pinned is a constant of the library's).
-/
import Derived.Test.YtkhhcclomjfliaaDoorRows
import Derived.Test.YtkhhcclomjfliaaDoorManifestAwake
import Derived.Test.YtkhhcclomjfliaaDoorFrame
import Derived.Test.YtkhhcclomjfliaaDoorFrameNum
import Derived.Test.YtkhhcclomjfliaaDoorCards
import Derived.Test.YtkhhcclomjfliaaDoorManifestLaw
import Derived.Test.YtkhhcclomjfliaaDoorFrameEns
import Derived.Lib.QuietBelow
import Derived.Deep.DeepCutAuto
import Derived.OwnWalk
import Derived.WalkKit
import Derived.ProofKit
import Derived.OpenShut
import Derived.ShutString
import Derived.ChangeOld
import Derived.Below
import Derived.Deep.DeepHandedRow
import Derived.Deep.DeepWitnessRowRef
namespace Go.Proofs.YtkhhcclomjfliaaDoor.manifestText
open Go.ChangeShapes Go.WideShapes Go.ChangeAt Go.RowKit
open Go.ChangeMaps (open_string shut_string)
set_option linter.unusedVariables false

theorem own : ownKnob Tryd.prog.godebug = none := by kernel_rfl
theorem laidOut : laidOutB Tryd.prog = true := by kernel_rfl

theorem text_sum : ∀ (es : List En), (∀ e ∈ es, EnF e) → (textL es).length ≤ (es.map fun e => e.name.length + 1).sum * 240 ∧ es.length ≤ (es.map fun e => e.name.length + 1).sum ∧ ∀ e ∈ es, e.name.length ≤ (es.map fun e => e.name.length + 1).sum
  | [], _ => ⟨by simp [textL], by simp, fun e h => (by cases h)⟩
  | e :: es, h => by
    obtain ⟨h1, h2, h3⟩ := text_sum es fun x hx => h x (List.mem_cons_of_mem _ hx)
    have hl := line_len (h e (List.mem_cons_self ..))
    have e1 : textL (e :: es) = lineL e ++ textL es := by simp [textL]
    rw [List.map_cons, List.sum_cons]
    refine ⟨?_, by rw [List.length_cons]; omega, fun x hx => ?_⟩
    · rw [e1, List.length_append, Nat.add_mul]; omega
    · rcases List.mem_cons.1 hx with rfl | hx
      · omega
      · have := h3 x hx; omega
set_option maxRecDepth 100000 in
set_option maxHeartbeats 4000000 in
theorem walkL (A : Option Addr) (n c : Nat) (es : List En) (w : World) (hT : NumT w) (hS : EnS w A n es) (hF : ∀ e ∈ es, EnF e) (hz : (es.map fun e => e.name.length + 1).sum ≤ 1048576) :
    Calls Tryd.prog 4 #[.slice A n c] w fun e w' => e = .returned (.bool true) ∧ Below w.heap.size w w' := by
  obtain ⟨ht1, ht2, ht3⟩ := text_sum es hF
  have hlen := hS.len
  have HA := keepHid (awake_any w hT)
  have HT := keepHid hT
  have HS := keepHid hS
  have HN := keepHid hlen
  have hn6 : n ≤ 1048576 := by omega
  have HTL : Hid ((textL es).length ≤ 70368744177664) := keepHid (by omega)
  have HF1 : Hid (∀ e ∈ es, EnF e ∧ e.name.length ≤ 1048576) := keepHid (fun e he => ⟨hF e he, by have := ht3 e he; omega⟩)
  clear ht1 ht2 ht3 hlen hT hS hF hz
  go_enter Tryd.func4, Tryd.ntmps4
  go_wp2_with fail
  refine HA.out.mono ?_
  rintro e w1 ⟨rfl, hb1⟩
  have HB1 := keepHid hb1
  clear hb1 HA
  go_wp2_with fail
  go_loopw [10] (fun iv wr => ∃ k : Nat, k ≤ n ∧ iv = .int .i64 (k : Int) ∧ Hid (Below w.heap.size w wr) ∧ Hid (∀ j e, j < k → es[j]? = some e → -1099511627776 ≤ e.addr ∧ -1099511627776 ≤ e.size)) (fun iv _ => n - (intOf iv).toNat)
  case atStart => exact ⟨0, Nat.zero_le _, rfl, HB1, keepHid (fun j e h => absurd h (Nat.not_lt_zero _))⟩
  case round =>
    obtain ⟨k, hk, rfl, HB, HK⟩ := hrel
    generalize wr = wq at *
    by_cases hlt : k < n
    · obtain ⟨e, he⟩ : ∃ e, es[k]? = some e := ⟨_, List.getElem?_eq_getElem (by rw [HN.out]; exact hlt)⟩
      obtain ⟨ad, rfl, hadl, a0, a1, a2, a3, a4⟩ := (HS.out.below HB.out (Nat.le_refl _)).at_ he
      have hk' : (k : Int) < (n : Int) := by omega
      have HKN : Hid (-1099511627776 ≤ e.addr ∧ -1099511627776 ≤ e.size → ∀ j x, j < k + 1 → es[j]? = some x → -1099511627776 ≤ x.addr ∧ -1099511627776 ≤ x.size) := keepHid (fun h j x hj hx => by
        rcases Nat.lt_succ_iff_lt_or_eq.1 hj with hj | rfl
        · exact HK.out j x hj hx
        · obtain rfl : x = e := by rw [he] at hx; exact (Option.some.inj hx).symm
          exact h)
      obtain ⟨w2, hw2⟩ : ∃ w2, wq.alloc (.cells #[.string (strB e.name), .int .i64 e.addr, .int .i64 e.size, .int .u32 e.print, .int .i64 e.way] 36) = w2 := ⟨_, rfl⟩
      have hK2 : Blk w2 wq.heap.size 36 #[.string (strB e.name), .int .i64 e.addr, .int .i64 e.size, .int .u32 e.print, .int .i64 e.way] := by rw [← hw2]; exact Blk.new wq _ _
      have HB2 : Hid (Below w.heap.size w w2) := keepHid (by rw [← hw2]; exact HB.out.trans (((Below.refl _ _).alloc (Nat.le_refl _) _).mono HB.out.size))
      have b1 : w2.cell? ⟨wq.heap.size, 1, none⟩ = some (.int .i64 e.addr) := hK2.cell 1
      have b2 : w2.cell? ⟨wq.heap.size, 2, none⟩ = some (.int .i64 e.size) := hK2.cell 2
      clear he hK2 HK
      generalize strB e.name = NM at *
      generalize e.addr = AD at *
      generalize e.size = SZ at *
      generalize e.print = PR at *
      generalize e.way = WY at *
      by_cases h1 : AD < -1099511627776
      · go_wp2
        go_ret
        exact ⟨rfl, HB2.out⟩
      · by_cases h2 : SZ < -1099511627776
        · go_wp2
          go_ret
          exact ⟨rfl, HB2.out⟩
        · have HK3 := keepHid (HKN.out ⟨by omega, by omega⟩)
          clear HKN
          go_wp2
          go_roundw
          case rel => exact ⟨k + 1, by omega, by go_num, HB2, HK3⟩
          case measure => simp [intOf]; omega
    · obtain rfl : k = n := by omega
      have HF2 : Hid (∀ e ∈ es, EnF e ∧ e.name.length ≤ 1048576 ∧ -1099511627776 ≤ e.addr ∧ -1099511627776 ≤ e.size) := keepHid (fun e he => by
        obtain ⟨j, hj⟩ := List.getElem?_of_mem he
        have hl := (List.getElem?_eq_some_iff.1 hj).1
        exact ⟨(HF1.out e he).1, (HF1.out e he).2, HK.out j e (by rw [HN.out] at hl; exact hl) hj⟩)
      clear HK
      go_wp2_with fail
      refine (ways_any _).mono ?_
      rintro e w2 ⟨rfl, hb2, hw2⟩
      have HB2 := keepHid (HB.out.trans (hb2.mono HB.out.size))
      have HWG : Hid (wq.heap.size < w2.heap.size) := keepHid (Blk.lt hw2)
      have HW2 := keepHid hw2
      have HN2 := keepHid (HT.out.below HB2.out (Nat.le_refl _))
      have HE2 := keepHid (HS.out.below HB2.out (Nat.le_refl _))
      have HTX := keepHid (mtext_any es A k c HF1.out HTL.out (by omega) w2 HN2.out HE2.out)
      have HLT := keepHid (fun w' h => ltext_any es A k c HF2.out HTL.out (by omega) w' h)
      have hse := strB_same (xs := textL es) (bs := textL es) rfl
      generalize strB (textL es) = X at *
      generalize wq.heap.size = G at *
      clear hb2 hw2
      go_wp2_with fail
      refine HTX.out.mono ?_
      rintro e w3 ⟨rfl, hb3⟩
      have HB3 := keepHid (HB2.out.trans (hb3.mono HB2.out.size))
      have HE3 := keepHid (HE2.out.below hb3 (Nat.le_refl _))
      clear HTX
      go_wp2_with fail
      refine (HLT.out _ HE3.out).mono ?_
      rintro e w4 ⟨rfl, hb4⟩
      have HB4 := keepHid (HB3.out.trans (hb4.mono HB3.out.size))
      have hw4 : WaysAt w4 G := (Blk.below HW2.out hb3 HWG.out).below hb4 (Nat.lt_of_lt_of_le HWG.out hb3.size)
      have d0 : w4.cell? ⟨G, 0, none⟩ = some (.string (strB wCheck)) := hw4.at_ (k := 0) (by omega)
      have d3 : w4.cell? ⟨G, 3, none⟩ = some (.string (strB wBatch)) := hw4.at_ (k := 3) (by omega)
      have s0 : ((strB wCheck).toList == [99, 104, 101, 99, 107]) = true := by rw [strB_toList]; rfl
      have s3 : ((strB wBatch).toList == [98, 97, 116, 99, 104]) = true := by rw [strB_toList]; rfl
      have s0' : (strB wCheck).toList = [99, 104, 101, 99, 107] := by rw [strB_toList]; rfl
      have s3' : (strB wBatch).toList = [98, 97, 116, 99, 104] := by rw [strB_toList]; rfl
      generalize strB wCheck = S0 at *
      generalize strB wBatch = S3 at *
      clear hb3 hb4 hw4 HLT
      go_wp2
      go_ret
      exact ⟨rfl, HB4.out⟩
theorem walk (a0 : Option Addr) (n0 c0 : Nat) (e0 : List En) (w : World) (hT : NumT w) (h0 : EnS w a0 n0 e0) (g0 : ∀ e ∈ e0, EnF e) (z0 : (e0.map fun e => e.name.length + 1).sum ≤ 1048576) (l0 : n0 ≤ c0) (s0 : c0 ≤ 9223372036854775807) :
    Calls Tryd.prog 4 #[.slice a0 n0 c0] w fun e w' => e = .returned (.bool true) ∧ Below w.heap.size w w' := by
  exact walkL a0 n0 c0 e0 w hT h0 g0 z0

set_option maxRecDepth 100000 in
theorem lifted (os : Os) (started : os.Started) (H : Type) (enc : TypeId × Value → H) (F : Stop.Interp) :
    ReturnsInHanded {} Tryd.checked os 4 .any ((Rows.OpenSpec.upto Rows.manifestTextSpec).preRow enc Tryd.prog Tryd.f4 Rows.manifestTextUptoRow.domain false laid7) (((Rows.OpenSpec.upto Rows.manifestTextSpec).at F).post enc Tryd.prog Tryd.f4 false true false false) := by
  refine returnsInHanded_of_row (C := Tryd.checked) (s := Rows.OpenSpec.upto Rows.manifestTextSpec) own started (by kernel_rfl) Tryd.func4
    (witness_row_atRef (enc := enc) (C := Tryd.checked) false (worldF os) #[.slice none 0 0] (worldF_os os) (by kernel_rfl) (by kernel_rfl) (by kernel_rfl)
      (OpenSpec.preRow_of_cond 8 (x := ([.nil], [], [])) (by kernel_rfl) rfl (fun k hk => by cases hk; rfl) (by kernel_rfl) (door7 os _))) ?_
  intro W base args ds gs before hval0 hW hcnd hsmall0 hsz0 hL _ _
  have hsz : (DataW.weightsEach Tryd.prog (Tryd.f4.params.toList ++ Rows.manifestTextSpec.plain.varTypes Tryd.prog) (ds ++ gs)).all (· ≤ reachBytes) = true := hsz0
  clear hsz0
  have hsmall : Rows.uptoBulkAll (ds ++ gs) ≤ 1048576 := of_decide_eq_true (hsmall0 _ rfl)
  clear hsmall0
  have hval : ∀ (j : Nat) t v, Tryd.f4.params[j]? = some t → args[j]? = some v → Value.okWide Tryd.prog W .any base t v := hval0
  have hW' := hW
  obtain ⟨p, q, hA0, hV, rfl, hfz, hnd⟩ := hW
  have hA : DataW.TrodAll enc Tryd.prog W 0 (fun _ => true) true Tryd.f4.params.toList args.toList ds p := hA0
  rw [Tryd.params4] at hA hval hsz
  obtain ⟨v0, vs0, d0, ds0, p0, q0, hargs, rfl, rfl, h0, r0⟩ := trodAll_cons hA
  obtain ⟨rfl, rfl, rfl⟩ := trodAll_nil r0
  obtain rfl : args = #[v0] := by cases args; simp_all
  obtain ⟨rfl, rfl⟩ := trodVars_none hV
  have k0 := h0
  have lt0 : ∀ x ∈ p0, x.block < W.heap.size := by obtain ⟨m, hm⟩ := k0; exact DataW.trod_lt m _ _ _ hm
  obtain ⟨a0, n0, c0, e0, rfl, w0, g0, l0, s0, b0⟩ := open_ens Tryd.underlying24 Tryd.underlying36 ⟨rfl, rfl⟩ ⟨rfl, rfl⟩ ⟨rfl, rfl⟩ ⟨rfl, rfl⟩ ⟨rfl, rfl⟩ Tryd.underlying9 Tryd.underlying3 Tryd.underlying33 Tryd.underlying34 (by kernel_rfl) (by kernel_rfl) (by kernel_rfl) (by kernel_rfl) (by kernel_rfl) (hval 0 24 v0 rfl rfl) h0
  clear hA0 hval0
  simp only [List.append_nil, Rows.uptoBulkAll] at hsmall
  have z0 : (e0.map fun e => e.name.length + 1).sum ≤ 1048576 := by
    rcases b0 with ⟨_, rfl⟩ | ⟨D, sp, rfl, hD⟩
    · simp
    · have hb := bulk_ens e0 D 0 (fun k e hk => by rw [Nat.zero_add]; exact hD k e hk)
      have hl := w0.len
      simp only [Nat.zero_add, hl] at hb
      change _ ≤ Rows.uptoBulkAll (List.map D (List.range n0)) at hb
      simp only [Rows.uptoBulk] at hsmall
      omega
  refine (walk a0 n0 c0 e0 W (num7 hL) w0 g0 z0 l0 s0).mono fun e W' ⟨he, bel⟩ => ?_
  subst he
  exact ⟨_, rfl, _, _, _, [], _, [], hW', trodAll_mk1 (shut_bool Tryd.underlying4 _), (trodAll_cons_mk (Below.trod laidOut (by kernel_rfl) (of_decide_eq_true (by kernel_rfl)) k0 bel lt0) trodAll_mk0), rfl, bel.frame _, fun h => by cases h⟩

theorem over : Rows.manifestTextUptoRow.holds Tryd.pinned (Rows.OpenSpec.upto Rows.manifestTextSpec) :=
  OpenClaim.holds_of_cond 4 Tryd.f4 rfl rfl rfl rfl rfl rfl rfl ⟨rfl, rfl, rfl, rfl, rfl⟩ rfl rfl rfl rfl rfl (by kernel_rfl) Tryd.func4 (by kernel_rfl)
    (of_decide_eq_true (by kernel_rfl)) (by unfold Func.isWrapper; first | (rw [if_pos (by decide +kernel)]; kernel_rfl) | (rw [if_neg (by decide +kernel)]; exact ⟨rfl, rfl⟩))
    (fun os started H enc _ F => by rw [OpenClaim.pre_eq_preRow]; exact lifted os started H enc F)

/-- The card: what the row lists is tied to the program's own text. -/
theorem proved : Rows.ManifestTextUptoCardSaid :=
  Claim7.holds_tied_plain_at .later [] [.data, .data, .data, .data, .sentinel, .sentinel, .pinned] true Rows.manifestTextUptoCard.stood.harness true
    over (fun _ h => by cases h) (by kernel_rfl) (fun _ h => by cases h) manifestTextUpto_row_tie rfl ⟨rfl, rfl⟩ (by kernel_rfl) rfl
    (fun f fn hf hfn => by
      obtain rfl : f = 4 := Option.some.inj ((show Tryd.prog.funcNamed "lifeline/lifelinelaw16.ManifestText" = some 4 by kernel_rfl).symm.trans hf) |>.symm
      obtain rfl : fn = Tryd.f4 := (Option.some.inj (Tryd.func4.symm.trans hfn)).symm
      exact ⟨by kernel_rfl, fun j t ht => by
        rw [Tryd.params4] at ht
        have hm : t ∈ [24] := by simpa using Array.mem_of_getElem? ht
        have hall : ([24].all fun u => !Tryd.prog.wantsStandIn u) = true := by kernel_rfl
        exact (show Tryd.prog.wantsStandIn t = false by simpa using List.all_eq_true.1 hall t hm)⟩)
    (by kernel_rfl)
end Go.Proofs.YtkhhcclomjfliaaDoor.manifestText
