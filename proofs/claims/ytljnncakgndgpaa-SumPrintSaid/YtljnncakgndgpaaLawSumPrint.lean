/-
  'lifelinelaw01.SumPrint' answers true for every input, and leaves its arguments as they were.
  Conditions: none but what the row itself says of its arguments (how much memory each may take).
-/
import Derived.Test.YtljnncakgndgpaaRows
import Derived.Test.YtljnncakgndgpaaSumA
import Derived.Test.YtljnncakgndgpaaFrame
import Derived.WalkKit
import Derived.ProofKit
import Derived.OpenShut
import Derived.ShutString
import Derived.ChangeOld
import Derived.Below
namespace Go.Proofs.Ytljnncakgndgpaa.sumPrint
open Go.ChangeShapes Go.WideShapes Go.ChangeAt Go.RowKit
open Go.ChangeMaps (open_string shut_string)
set_option linter.unusedVariables false

theorem own : ownKnob Try.prog.godebug = none := by kernel_rfl
theorem laidOut : laidOutB Try.prog = true := by kernel_rfl

theorem walk (a0 : Option Addr) (n0 c0 : Nat) (b0 : List UInt8) (a1 : Option Addr) (n1 c1 : Nat) (b1 : List UInt8) (w : World) (h0 : Bys w w.heap.size a0 n0 b0) (l0 : n0 ≤ c0) (s0 : c0 ≤ 140737488351232) (h1 : Bys w w.heap.size a1 n1 b1) (l1 : n1 ≤ c1) (s1 : c1 ≤ 140737488351232) :
    Calls Try.prog 6 #[.slice a0 n0 c0, .slice a1 n1 c1] w fun e w' => e = .returned (.bool true) ∧ Below w.heap.size w w' := by
  have H0 := keepHid h0
  have H1 := keepHid h1
  clear h0 h1
  go_enter Try.func6, Try.ntmps6
  go_wp2_with fail
  refine (awake_any _).mono ?_
  rintro e w1 ⟨rfl, hb⟩
  have HB := keepHid hb
  clear hb
  have hgw : w.heap.size ≤ w1.heap.size := HB.out.size
  go_wp2
  go_loopw [6, 17] (fun r i wr => ∃ (k j q cc : Nat) (A : Option Addr), k ≤ n1 ∧ j + q ≤ n0 ∧ q ≤ cc ∧ cc ≤ 140737488351232 ∧ i = .int .i64 k ∧ r = .slice A q cc ∧ Bys wr w.heap.size A q (b0.drop j) ∧
      Prn wr w1.heap.size (prL (b0.take j)) ∧ Below w.heap.size w wr ∧ w1.heap.size < wr.heap.size) (fun _ i _ => n1 - (intOf i).toNat)
  case atStart =>
    refine ⟨0, 0, n0, c0, a0, Nat.zero_le _, by omega, l0, s0, rfl, rfl, ?_, ?_, ?_, ?_⟩
    · exact (H0.out.below HB.out).alloc hgw _
    · exact Blk.new w1 _ _
    · exact HB.out.alloc hgw _
    · simp
  case round =>
    obtain ⟨k, j, q, cc, A, hk, hj, hqc, hcc, rfl, rfl, hr, hp, hbel, hsz⟩ := hrel
    have h1r := H1.out.below hbel
    have HP := keepHid hp
    have HR := keepHid hr
    have HBr := keepHid hbel
    clear hp hr hbel
    by_cases hlt : k < n1
    · obtain ⟨ad, x, rfl, _, hx, hc⟩ := h1r.at_ hlt
      clear hx h1r
      have h2 := u8lt x
      obtain ⟨m, hm⟩ : ∃ m, x.toNat % (q + 1) = m := ⟨_, rfl⟩
      have hml : m ≤ q := by have := Nat.mod_lt x.toNat (show 0 < q + 1 by omega); omega
      have hmm : (x.toNat : Int) % ((q : Int) + 1) = (m : Int) := by rw [← hm]; simp
      clear hm
      have hpl := pr_lt (b0.take j)
      go_wp2_with fail
      refine (write_any w1.heap.size _ _ _ _ w.heap.size _ _ hpl HP.out (HR.out.head hml) hgw).mono ?_
      rintro e w3 ⟨rfl, hp3, ho3⟩
      have hp3' : Prn w3 w1.heap.size (prL (b0.take (j + m))) := by
        have e : b0.take (j + m) = b0.take j ++ (b0.drop j).take m := by rw [List.take_add]
        rw [e, prF_append]; exact hp3
      have HP3 := keepHid hp3'
      have HO3 := keepHid ho3
      clear hp3 hp3' ho3
      have hb3 : Below w.heap.size w w3 := HBr.out.trans (HO3.out.below hgw (by have := HBr.out.size; omega))
      have hr3 := (HR.out.only HO3.out hgw HBr.out.size).cut hml hqc
      rw [List.drop_drop] at hr3
      have HB3 := keepHid hb3
      have HR3 := keepHid hr3
      have hs3 : w1.heap.size < w3.heap.size := by have := HO3.out.size; omega
      clear hb3 hr3
      go_wp2
      go_roundw
      case rel => exact ⟨k + 1, j + m, q - m, cc - m, _, by omega, by omega, by omega, by omega, by go_num, rfl, HR3.out, HP3.out, HB3.out, hs3⟩
      case measure => simp [intOf]; omega
    · have hkn : n1 ≤ k := by omega
      clear h1r
      have hpl := pr_lt (b0.take j)
      go_wp2_with fail
      refine (write_any w1.heap.size _ _ _ _ w.heap.size _ _ hpl HP.out HR.out hgw).mono ?_
      rintro e w3 ⟨rfl, hp3, ho3⟩
      have hp3' : Prn w3 w1.heap.size (prL b0) := by
        have e : b0.take j ++ b0.drop j = b0 := List.take_append_drop j b0
        have h := prF_append (b0.take j) (b0.drop j)
        rw [e] at h
        rw [h]; exact hp3
      have HP3 := keepHid hp3'
      have hb3 : Below w.heap.size w w3 := HBr.out.trans (ho3.below hgw HBr.out.size)
      have HB3 := keepHid hb3
      have hg3 : w.heap.size ≤ w3.heap.size := hb3.size
      have HR3 := keepHid (H0.out.below hb3)
      clear hp3 hp3' ho3 hb3 HR HP HBr
      go_wp2_with fail
      refine (print_any _ _ _ _ _ (HR3.out.more hg3)).mono ?_
      rintro e w4 ⟨rfl, hb4⟩
      have HB4 := keepHid (hb4.mono hg3)
      have HP4 := keepHid (Blk.below HP3.out hb4 (Blk.lt HP3.out))
      have HR4 := keepHid (HR3.out.below (hb4.mono hg3))
      clear hb4
      go_wp2_with fail
      refine (lprint_any _ _ _ _ _ _ HR4.out).mono ?_
      rintro e w' ⟨rfl, rfl⟩
      go_wp2_with fail
      refine (sum_any w1.heap.size _ _ (pr_lt b0) HP4.out).mono ?_
      rintro e w5 ⟨rfl, m, rfl⟩
      go_wp2_with fail
      refine (lprint_any _ _ _ _ _ _ (HR4.out.drewN m)).mono ?_
      rintro e w' ⟨rfl, rfl⟩
      go_wp2
      go_ret
      refine ⟨rfl, ?_⟩
      have hb := HB3.out.trans HB4.out
      exact ⟨hb.os, hb.tape, hb.output, hb.size, hb.block⟩

set_option maxRecDepth 100000 in
theorem lifted (os : Os) (started : os.Started) (H : Type) (enc : TypeId × Value → H) :
    ReturnsInHanded {} Try.checked os 6 .any (Rows.sumPrintSpec.pre6 enc Try.prog Try.f6 Rows.sumPrintRow.domain false) (Rows.sumPrintSpec.post enc Try.prog Try.f6 false true false false) := by
  refine returnsInHanded_of_change_sized (C := Try.checked) own started (by kernel_rfl) Try.func6
    (ChangeSpec.witness6 (enc := enc) (C := Try.checked) false ⟨#[], #[.slice none 0 0, .slice none 0 0], []⟩ 8 (by kernel_rfl) (by kernel_rfl) (by kernel_rfl) (by kernel_rfl)) ?_
  intro W base args ds gs before hval0 hW hcnd hsz0 _
  have hsz : (DataW.weightsEach Try.prog (Try.f6.params.toList ++ Rows.sumPrintSpec.plain.varTypes Try.prog) (ds ++ gs)).all (· ≤ reachBytes) = true := hsz0
  clear hsz0
  have hval : ∀ (j : Nat) t v, Try.f6.params[j]? = some t → args[j]? = some v → Value.okWide Try.prog W .any base t v := hval0
  have hW' := hW
  obtain ⟨p, q, hA0, hV, rfl, hfz, hnd⟩ := hW
  have hA : DataW.TrodAll enc Try.prog W 0 (fun _ => true) true Try.f6.params.toList args.toList ds p := hA0
  rw [Try.params6] at hA hval hsz
  obtain ⟨v0, vs0, d0, ds0, p0, q0, hargs, rfl, rfl, h0, r0⟩ := trodAll_cons hA
  obtain ⟨v1, vs1, d1, ds1, p1, q1, rfl, rfl, rfl, h1, r1⟩ := trodAll_cons r0
  obtain ⟨rfl, rfl, rfl⟩ := trodAll_nil r1
  obtain rfl : args = #[v0, v1] := by cases args; simp_all
  obtain ⟨rfl, rfl⟩ := trodVars_none hV
  have k0 := h0
  have lt0 : ∀ x ∈ p0, x.block < W.heap.size := by obtain ⟨m, hm⟩ := k0; exact DataW.trod_lt m _ _ _ hm
  have k1 := h1
  have lt1 : ∀ x ∈ p1, x.block < W.heap.size := by obtain ⟨m, hm⟩ := k1; exact DataW.trod_lt m _ _ _ hm
  obtain ⟨a0, n0, c0, b0, rfl, w0, l0, s0⟩ := open_bys Try.underlying22 Try.underlying5 (by kernel_rfl) (by kernel_rfl) (hval 0 22 v0 rfl rfl) (fun _ => rfl) h0 (fun el sp hd => sized_slice hsz (j := 0) (t := 22) (e := 5) rfl (by rw [hd]; rfl) Try.underlying22)
  obtain ⟨a1, n1, c1, b1, rfl, w1, l1, s1⟩ := open_bys Try.underlying22 Try.underlying5 (by kernel_rfl) (by kernel_rfl) (hval 1 22 v1 rfl rfl) (fun _ => rfl) h1 (fun el sp hd => sized_slice hsz (j := 1) (t := 22) (e := 5) rfl (by rw [hd]; rfl) Try.underlying22)
  clear hA0 hval0
  refine (walk a0 n0 c0 b0 a1 n1 c1 b1 W w0 l0 s0 w1 l1 s1).mono fun e W' ⟨he, bel⟩ => ?_
  subst he
  exact ⟨_, rfl, _, _, _, [], _, [], hW', trodAll_mk1 (shut_bool Try.underlying4 _), (trodAll_cons_mk (Below.trod laidOut (by kernel_rfl) (of_decide_eq_true (by kernel_rfl)) k0 bel lt0) (trodAll_cons_mk (Below.trod laidOut (by kernel_rfl) (of_decide_eq_true (by kernel_rfl)) k1 bel lt1) trodAll_mk0)), rfl, bel.frame _, fun h => by cases h⟩

theorem over : Rows.sumPrintRow.holds Try.pinned (OpenSpec.ofChange Rows.sumPrintSpec) :=
  OpenClaim.holds_of_wide 6 Try.f6 rfl rfl rfl rfl rfl rfl rfl ⟨rfl, rfl, rfl, rfl, rfl⟩ rfl rfl rfl rfl rfl (by kernel_rfl) Try.func6 (by kernel_rfl)
    (of_decide_eq_true (by kernel_rfl)) (by unfold Func.isWrapper; first | (rw [if_pos (by decide +kernel)]; kernel_rfl) | (rw [if_neg (by decide +kernel)]; exact ⟨rfl, rfl⟩))
    (fun os started H enc _ => lifted os started H enc)

theorem proved : Rows.SumPrintSaid := over
end Go.Proofs.Ytljnncakgndgpaa.sumPrint
