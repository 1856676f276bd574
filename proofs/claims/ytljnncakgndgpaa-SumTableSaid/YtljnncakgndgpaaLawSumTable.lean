/-
  'lifelinelaw01.SumTable' answers true for every input, and leaves its arguments as they were.
  Conditions: none but what the row itself says of its arguments (how much memory each may take).
-/
import Derived.Test.YtljnncakgndgpaaRows
import Derived.Test.YtljnncakgndgpaaSumA
import Derived.Test.YtljnncakgndgpaaFrame
import Derived.WalkKit
import Derived.Deep.RegionHeld3
import Derived.ProofKit
import Derived.OpenShut
import Derived.ShutString
import Derived.ChangeOld
import Derived.Below
namespace Go.Proofs.Ytljnncakgndgpaa.sumTable
open Go.ChangeShapes Go.WideShapes Go.ChangeAt Go.RowKit
open Go.ChangeMaps (open_string shut_string)
set_option linter.unusedVariables false

theorem own : ownKnob Try.prog.godebug = none := by kernel_rfl
theorem laidOut : laidOutB Try.prog = true := by kernel_rfl

theorem walk (x0 : Int) (a1 : Option Addr) (n1 c1 : Nat) (b1 : List UInt8) (t2 : List Nat) (w : World) (h0 : 0 ≤ x0 ∧ x0 ≤ 255) (h1 : Bys w w.heap.size a1 n1 b1) (l1 : n1 ≤ c1) (s1 : c1 ≤ 140737488351232) (h2 : t2.length = 256 ∧ ∀ x ∈ t2, x < 65536) :
    Calls Try.prog 5 #[.int .u8 x0, .slice a1 n1 c1, .agg (tabVals t2)] w fun e w' => e = .returned (.bool true) ∧ Below w.heap.size w w' := by
  have H1 := keepHid h1
  have hz := zero_tab
  obtain ⟨m, rfl⟩ : ∃ m : Nat, x0 = (m : Int) := ⟨x0.toNat, by omega⟩
  have hbA : Below w.heap.size w (w.alloc (.cells (tabVals t2) 27)) := (Below.refl _ _).alloc (Nat.le_refl _) _
  have hTA : Tab (w.alloc (.cells (tabVals t2) 27)) (w.heap.size + 1) ⟨w.heap.size, 0, none⟩ t2 := Tab.of_vals (Blk.new w _ _) h2.1 h2.2
  have HBA := keepHid hbA
  have HTA := keepHid hTA
  have H2 := keepHid h2
  clear h1 h2 hbA hTA
  go_enter Try.func5, Try.ntmps5
  go_wp2_with fail
  refine (awake_any _).mono ?_
  rintro e w1 ⟨rfl, hb⟩
  have hs1 : w.heap.size + 1 ≤ w1.heap.size := by have := hb.size; simpa using this
  have HB1 := keepHid (HBA.out.trans (hb.mono (by simp)))
  have HT1 := keepHid (HTA.out.below (hb.mono (by simp)))
  clear hb HTA HBA
  go_wp2_with fail
  refine (table_any _).mono ?_
  rintro e w2 ⟨rfl, hb2⟩
  have hs2 : w.heap.size + 1 ≤ w2.heap.size := by have := hb2.size; omega
  have HB2 := keepHid (HB1.out.trans (hb2.mono (by omega)))
  have HT2 := keepHid (HT1.out.below (hb2.mono hs1))
  have HZ := keepHid (Blk.new w2 27 (tabAt 0))
  clear hb2 HT1 HB1
  go_wp2_with (first
    | (refine wpList_store_row rfl 27 (.tmp 7) (.tmp 13) rfl w2.heap.size (tabAt 256) rfl rfl 27 (tabAt 0) HZ.out (by rw [tabAt_size]; exact size_tab) (by rw [tabAt_size, tabAt_size]) (tabAt_one 256) ?_)
    | fail)
  have HR := keepHid (HZ.out.row (tabAt 256))
  have HB3 : Hid (Below w.heap.size w ((w2.alloc (.cells (tabAt 0) 27)).setRow w2.heap.size (tabAt 256))) := keepHid (below_row (HB2.out.alloc (by omega) _) (by omega) _)
  have hbx : Below (w.heap.size + 1) w2 ((w2.alloc (.cells (tabAt 0) 27)).setRow w2.heap.size (tabAt 256)) := below_row ((Below.refl _ _).alloc hs2 _) hs2 _
  have HT3 := keepHid (HT2.out.below hbx)
  have H3 := keepHid (H1.out.below HB3.out)
  have hs3 : w2.heap.size + 1 ≤ ((w2.alloc (.cells (tabAt 0) 27)).setRow w2.heap.size (tabAt 256)).heap.size := by simp
  clear hbx HB2 HT2 HZ H1 hz
  generalize (w2.alloc (.cells (tabAt 0) 27)).setRow w2.heap.size (tabAt 256) = w3 at *
  have hm := H3.out.max
  have ht := H2.out.2
  go_loop [8, 16] (fun r i => ∃ k : Nat, k ≤ n1 ∧ i = .int .i64 k ∧ r = .int .u16 (byL t2 (b1.take k) : Nat)) (fun _ i => n1 - (intOf i).toNat)
  case atStart => exact ⟨0, Nat.zero_le _, rfl, rfl⟩
  case round =>
    obtain ⟨k, hk, rfl, rfl⟩ := hrel
    by_cases hlt : k < n1
    · obtain ⟨ad, x, rfl, _, hx, hc⟩ := H3.out.at_ hlt
      have HS := keepHid (by_take (t := t2) hx)
      clear hx
      have hq := by_lt ht (b1.take k)
      generalize byL t2 (b1.take k) = q at *
      have hx2 := u8lt x
      have hj : (q / 256) ^^^ x.toNat < 256 := Nat.xor_lt_two_pow (n := 8) (by omega) hx2
      have hx8 : bits .xor .u8 ((q : Int) / 256) (x.toNat : Int) = (((q / 256) ^^^ x.toNat : Nat) : Int) := xor8 (a := q / 256) (b := x.toNat) (by omega) rfl (by omega) hx2
      obtain ⟨y, hy, hylt, hyc⟩ := HT3.out.at_ hj
      have HY : Hid (byStep t2 q x = (q * 256 % 65536) ^^^ y) := keepHid (by unfold byStep; rw [hy]; rfl)
      have HX := keepHid (xor16 (x := (q : Int) % 256 * 256) (y := (y : Int)) (a := q * 256 % 65536) (b := y) (by omega) rfl (by omega) hylt)
      generalize (q / 256) ^^^ x.toNat = j at *
      have e : (⟨w.heap.size, 0, none⟩ : Addr).add j = ⟨w.heap.size, j, none⟩ := by unfold Addr.add; split <;> simp_all
      rw [e] at hyc
      clear hy e ht
      go_wp2
      go_round
      case rel => exact ⟨k + 1, by omega, by go_num, by rw [HS.out, HY.out, HX.out]⟩
      case measure => simp [intOf]; omega
    · have e : b1.take k = b1 := List.take_of_length_le (by rw [H3.out.len]; omega)
      rw [e]
      have hkn : n1 ≤ k := by omega
      have hm255 : m < 256 := by omega
      have hcell : w3.cell? ⟨w2.heap.size, m, none⟩ = some (.int .u16 (crcL [UInt8.ofNat m] : Nat)) := by rw [HR.out.cell, tabAt_get 256 m hm255, if_pos hm255]
      have hm0 : (0 : Int) ≤ (m : Int) := by omega
      have hm1 : (m : Int) < 256 := by omega
      have hone : ∀ (W : World) (g : Nat), g = W.heap.size → Bys (W.alloc (.cells #[.int .u8 (m : Int)] 5)) (g + 1) (some ⟨g, 0, none⟩) 1 [UInt8.ofNat m] := fun W g hg =>
        bys_new W _ [UInt8.ofNat m] 1 rfl (by unfold maxLen; omega) _ (by simp [byteVals]; omega) g hg
      have HO := keepHid hone
      clear e ht hone
      go_wp2
      go_region_held3 (fun w' => w'.cell? ⟨w2.heap.size, m, none⟩ = some (.int .u16 (crcL [UInt8.ofNat m] : Nat))) (go_keep)
        (first
          | (go_at_call 13; refine (lcrc_any _ _ _ (w3.heap.size + 1) [UInt8.ofNat m] _ ?_).mono ?_; (first | exact HO.out w3 _ rfl | exact Bys.drew (HO.out w3 _ rfl)); rintro e w' ⟨rfl, rfl⟩)
          | (go_at_call 14; refine (by_any _ t2 _ _ _ w.heap.size (w.heap.size + 1) b1 _ ?_ ?_).mono ?_; (first | exact HT3.out.alloc (by omega) _ | exact Tab.drew (HT3.out.alloc (by omega) _)); (first | exact H3.out.alloc (by omega) _ | exact Bys.drew (H3.out.alloc (by omega) _)); rintro e w' ⟨rfl, rfl⟩))
      all_goals
        go_wp2
        go_ret
        exact ⟨rfl, (HB3.out.alloc (by have := HB3.out.size; omega) _).drew⟩

set_option maxRecDepth 100000 in
theorem lifted (os : Os) (started : os.Started) (H : Type) (enc : TypeId × Value → H) :
    ReturnsInHanded {} Try.checked os 5 .any (Rows.sumTableSpec.pre6 enc Try.prog Try.f5 Rows.sumTableRow.domain false) (Rows.sumTableSpec.post enc Try.prog Try.f5 false true false false) := by
  refine returnsInHanded_of_change_sized (C := Try.checked) own started (by kernel_rfl) Try.func5
    (ChangeSpec.witness6 (enc := enc) (C := Try.checked) false ⟨#[], #[.int .u8 0, .slice none 0 0, .agg (Array.replicate 256 (.int .u16 0))], []⟩ 8 (by kernel_rfl) (by kernel_rfl) (by kernel_rfl) (by kernel_rfl)) ?_
  intro W base args ds gs before hval0 hW hcnd hsz0 _
  have hsz : (DataW.weightsEach Try.prog (Try.f5.params.toList ++ Rows.sumTableSpec.plain.varTypes Try.prog) (ds ++ gs)).all (· ≤ reachBytes) = true := hsz0
  clear hsz0
  have hval : ∀ (j : Nat) t v, Try.f5.params[j]? = some t → args[j]? = some v → Value.okWide Try.prog W .any base t v := hval0
  have hW' := hW
  obtain ⟨p, q, hA0, hV, rfl, hfz, hnd⟩ := hW
  have hA : DataW.TrodAll enc Try.prog W 0 (fun _ => true) true Try.f5.params.toList args.toList ds p := hA0
  rw [Try.params5] at hA hval hsz
  obtain ⟨v0, vs0, d0, ds0, p0, q0, hargs, rfl, rfl, h0, r0⟩ := trodAll_cons hA
  obtain ⟨v1, vs1, d1, ds1, p1, q1, rfl, rfl, rfl, h1, r1⟩ := trodAll_cons r0
  obtain ⟨v2, vs2, d2, ds2, p2, q2, rfl, rfl, rfl, h2, r2⟩ := trodAll_cons r1
  obtain ⟨rfl, rfl, rfl⟩ := trodAll_nil r2
  obtain rfl : args = #[v0, v1, v2] := by cases args; simp_all
  obtain ⟨rfl, rfl⟩ := trodVars_none hV
  have k0 := h0
  have lt0 : ∀ x ∈ p0, x.block < W.heap.size := by obtain ⟨m, hm⟩ := k0; exact DataW.trod_lt m _ _ _ hm
  have k1 := h1
  have lt1 : ∀ x ∈ p1, x.block < W.heap.size := by obtain ⟨m, hm⟩ := k1; exact DataW.trod_lt m _ _ _ hm
  have k2 := h2
  have lt2 : ∀ x ∈ p2, x.block < W.heap.size := by obtain ⟨m, hm⟩ := k2; exact DataW.trod_lt m _ _ _ hm
  obtain ⟨x0, rfl, rfl, rfl, w0⟩ := open_int Try.underlying5 (hval 0 5 v0 rfl rfl) h0
  obtain ⟨a1, n1, c1, b1, rfl, w1, l1, s1⟩ := open_bys Try.underlying22 Try.underlying5 (by kernel_rfl) (by kernel_rfl) (hval 1 22 v1 rfl rfl) (fun _ => rfl) h1 (fun el sp hd => sized_slice hsz (j := 1) (t := 22) (e := 5) rfl (by rw [hd]; rfl) Try.underlying22)
  obtain ⟨t2, rfl, w2⟩ := open_tab Try.underlying27 Try.underlying26 (by kernel_rfl) (by kernel_rfl) (hval 2 27 v2 rfl rfl) h2
  clear hA0 hval0
  refine (walk x0 a1 n1 c1 b1 t2 W (wf_u8 w0) w1 l1 s1 w2).mono fun e W' ⟨he, bel⟩ => ?_
  subst he
  exact ⟨_, rfl, _, _, _, [], _, [], hW', trodAll_mk1 (shut_bool Try.underlying4 _), (trodAll_cons_mk (Below.trod laidOut (by kernel_rfl) (of_decide_eq_true (by kernel_rfl)) k0 bel lt0) (trodAll_cons_mk (Below.trod laidOut (by kernel_rfl) (of_decide_eq_true (by kernel_rfl)) k1 bel lt1) (trodAll_cons_mk (Below.trod laidOut (by kernel_rfl) (of_decide_eq_true (by kernel_rfl)) k2 bel lt2) trodAll_mk0))), rfl, bel.frame _, fun h => by cases h⟩

theorem over : Rows.sumTableRow.holds Try.pinned (OpenSpec.ofChange Rows.sumTableSpec) :=
  OpenClaim.holds_of_wide 5 Try.f5 rfl rfl rfl rfl rfl rfl rfl ⟨rfl, rfl, rfl, rfl, rfl⟩ rfl rfl rfl rfl rfl (by kernel_rfl) Try.func5 (by kernel_rfl)
    (of_decide_eq_true (by kernel_rfl)) (by unfold Func.isWrapper; first | (rw [if_pos (by decide +kernel)]; kernel_rfl) | (rw [if_neg (by decide +kernel)]; exact ⟨rfl, rfl⟩))
    (fun os started H enc _ => lifted os started H enc)

theorem proved : Rows.SumTableSaid := over
end Go.Proofs.Ytljnncakgndgpaa.sumTable
