/-
  Stage 7's statements: small tables, their own 'awake', texts that numbers make.
-/
import Derived.Test.YtlmjijejgfhmmaaNfaFits
import Derived.Test.YtlmjijejgfhmmaaRegexParse
import Derived.Test.YtlmjijejgfhmmaaRegexBuild
import Derived.LoopTactic
namespace Go.Proofs.Ytlmjijejgfhmmaa
open Go.RowKit
set_option linter.unusedVariables false

theorem sm_small {r : Re} (h : nds r ≤ 200000) : Sm (addF r tb0).2 := by
  have hg := (add_grown r tb0).up
  have hz := sz_nds r
  obtain ⟨gs, e1, e2, e3⟩ := hg.groups
  obtain ⟨ls, e4, e5, _⟩ := hg.leads
  refine ⟨?_, ?_, ?_, fun q hq => ?_⟩
  · rw [hg.sets]; simp [tb0, ones_len]; omega
  · rw [e1]; simp [tb0]; omega
  · rw [e4]; simp [tb0]; omega
  · rw [e1] at hq
    have := e3 q (by simpa [tb0] using hq)
    omega
def bldS : Nat → Nat
  | 0 => 1
  | d + 1 => 2 * bldS d + 3
theorem bldS_ge (d : Nat) : 1 ≤ bldS d := by cases d <;> simp [bldS]
theorem bld_nds : ∀ (d : Nat) (ns : List UInt8), nds (bldL d ns).2.1 ≤ bldS d
  | d, [] => by unfold bldL; exact bldS_ge d
  | 0, n :: ns => by simp [bldL, nds, bldS]
  | d + 1, n :: ns => by
    have h1 := bld_nds d ns
    have h2 := bld_nds d (bldL d ns).2.2
    unfold bldL
    simp only [bldS]
    split
    · simp only [nds]; omega
    · split
      · simp only [nds]; omega
      · split
        · simp only [nds]; omega
        · split
          · simp only [nds]; omega
          · split
            · simp only [nds]; omega
            · split
              · simp only [nds]; omega
              · simp only [nds]; omega
theorem sm_bld {d : Nat} (hd : d ≤ 3) (ns : List UInt8) : Sm (addF (bldL d ns).2.1 tb0).2 := sm_small (by
  have h := bld_nds d ns
  have : bldS d ≤ 100 := by
    match d, hd with
    | 0, _ => decide
    | 1, _ => decide
    | 2, _ => decide
    | 3, _ => decide
  omega)
/-- A pattern that lies above a block lies below the heap's size. -/
theorem re_all {w : World} {S : Nat → Prop} {h : Hd} {r : Re} (i : IsS w S h r) : IsS w (fun i => i < w.heap.size) h r := i.mono fun _ _ hg => hg

/-! ### The document's example -/
def patAb : Re := .thn (.one (withS st0 97)) (.star (.one (withS st0 98)))
theorem parse_ab : parseF [97, 98, 42] = (some patAb, 3) := by decide +kernel
theorem ab_fits : fitsB (auOf patAb) [97, 98, 98] = true ∧ fitsB (auOf patAb) [98, 97] = false ∧ (auOf patAb).e = false ∧ (auOf patAb).T.sets.length = 2 := by decide +kernel
theorem au_len {r : Re} : (auOf r).T.sets.length = sz r := by rw [(auOf_ok r).sets, ones_len]
theorem tabA_len {lo g : Nat} {A : Au} {w : World} (h : TabA w lo g A) : Calls Try.prog 15 #[.pointer (some ⟨g, 0, none⟩)] w fun e w' => e = .returned (natV A.T.sets.length) ∧ w = w' := by
  obtain ⟨F, c, L, k, ht, _⟩ := h
  exact tlen_any ht
theorem tabA_empty {lo g : Nat} {A : Au} {w : World} (h : TabA w lo g A) : Calls Try.prog 14 #[.pointer (some ⟨g, 0, none⟩)] w fun e w' => e = .returned (.bool A.e) ∧ w = w' := by
  obtain ⟨F, c, L, k, ht, _⟩ := h
  exact tempty_any ht
theorem tabA_ends {lo g n c : Nat} {A : Au} {w : World} {At : Option Addr} {at_ : List Bool} (h : TabA w lo g A) (ha : Sl Value.bool w At n at_) : Calls Try.prog 18 #[.pointer (some ⟨g, 0, none⟩), .slice At n c] w fun e w' => e = .returned (.bool (anyB at_ A.last)) ∧ w = w' := by
  obtain ⟨F, c1, L, k, ht, _, hl⟩ := h
  exact tends_any (v4 := .bool false) ht ha (Sl.of_own hl (by obtain ⟨_, _, _, e1, e2⟩ := own_val hl; omega))
set_option maxHeartbeats 1000000 in
theorem awake7_any (w : World) : Calls Try.prog 8 #[] w fun e w' => e = .returned (.bool true) ∧ Below w.heap.size w w' := by
  have H1 := keepHid (parse_any [97, 98, 42] w)
  have e1 : strB [97, 98, 42] = ⟨#[97, 98, 42]⟩ := rfl
  rw [e1] at H1
  clear e1
  go_enter Try.func8, Try.ntmps8
  go_wp2_with fail
  refine H1.out.mono ?_
  rintro e w1 hp
  obtain ⟨h, rfl, hi1, hb1⟩ := parse_pat parse_ab hp (by decide)
  obtain ⟨w2, hw2⟩ : ∃ w2, w1.alloc (.cells (hdC h) 30) = w2 := ⟨_, rfl⟩
  have hb12 : Below w1.heap.size w1 w2 := by rw [← hw2]; exact (Below.refl _ _).alloc (Nat.le_refl _) _
  have hk2 : Blk w2 w1.heap.size 30 (hdC h) := by rw [← hw2]; exact Blk.new _ _ _
  have HO := keepHid (of_any (re_all (hi1.below hb12)) (sm_small (r := patAb) (by decide)))
  have HB2 := keepHid (hb1.trans (hb12.mono hb1.size))
  have HW2 := keepHid hw2
  unfold hdC at hk2 HW2
  obtain ⟨n0, n1, n2, n3, n4, n5, nf⟩ := blk6 hk2
  have WF := keepHid (auOf_wf (sm_small (r := patAb) (by decide)))
  clear hp hi1 hb1 hb12 hw2 hk2 H1
  unfold hdV at *
  go_upto_region 2 with fail
  rw [HW2.out]
  go_wp2_with fail
  with_reducible refine HO.out.mono ?_
  rintro e w3 ⟨g, rfl, hA, hb3⟩
  have HA := keepHid hA
  have HB3 := keepHid (HB2.out.trans (hb3.mono HB2.out.size))
  obtain ⟨f1, f2, f3, f4⟩ := ab_fits
  have HL := keepHid (tabA_len hA)
  rw [f4] at HL
  unfold natV at HL
  have HF1 := keepHid (fits_any [97, 98, 98] hA WF.out (by decide))
  have e2 : strB [97, 98, 98] = ⟨#[97, 98, 98]⟩ := rfl
  rw [f1, e2] at HF1
  have HF2 := keepHid (fun w' (hb : Below w3.heap.size w3 w') => fits_any [98, 97] (hA.keep hb) WF.out (by decide))
  have e3 : strB [98, 97] = ⟨#[98, 97]⟩ := rfl
  rw [f2, e3] at HF2
  have HE := keepHid (fun w' (hb : Below w3.heap.size w3 w') => tabA_empty (hA.keep hb))
  rw [f3] at HE
  clear hA hb3 f1 f2 f3 f4 e2 e3
  generalize auOf patAb = A at *
  go_wp2_with fail
  with_reducible refine HL.out.mono ?_
  rintro e w' ⟨rfl, rfl⟩
  go_wp2_with fail
  with_reducible refine HF1.out.mono ?_
  rintro e w4 ⟨rfl, hb4⟩
  have HF2' := keepHid (HF2.out w4 hb4)
  go_wp2_with fail
  with_reducible refine HF2'.out.mono ?_
  rintro e w5 ⟨rfl, hb5⟩
  have hb35 := hb4.trans (hb5.mono hb4.size)
  have HE' := keepHid (HE.out w5 hb35)
  have HB5 := keepHid (HB3.out.trans (hb35.mono HB3.out.size))
  clear hb4 hb5 hb35
  go_wp2_with fail
  with_reducible refine HE'.out.mono ?_
  rintro e w' ⟨rfl, rfl⟩
  go_wp2
  go_ret
  exact ⟨rfl, HB5.out⟩


def txt1 (c : UInt8) : UInt8 := UInt8.ofNat (97 + c.toNat % 3)
def txt (ns : List UInt8) : List UInt8 := (ns.take 14).map txt1
theorem txt_len (ns : List UInt8) : (txt ns).length ≤ 14 := by simp [txt]; omega
theorem txt_len2 (ns : List UInt8) : (txt ns).length ≤ ns.length := by simp [txt]; omega
theorem txt_more {ns : List UInt8} {j : Nat} {c : UInt8} (hc : ns[j]? = some c) (hj : j < 14) : txt (ns.take (j + 1)) = txt (ns.take j) ++ [txt1 c] := by
  have h1 : (ns.take (j + 1)).take 14 = ns.take (j + 1) := List.take_of_length_le (by simp; omega)
  have h2 : (ns.take j).take 14 = ns.take j := List.take_of_length_le (by simp; omega)
  unfold txt
  rw [h1, h2, List.take_succ_of hc]
  simp
theorem txt_same {ns : List UInt8} {j : Nat} (hj : 14 ≤ j) : txt (ns.take (j + 1)) = txt (ns.take j) := by
  unfold txt
  rw [List.take_take, List.take_take, Nat.min_eq_left (by omega), Nat.min_eq_left (by omega)]
theorem run_abc (r : Nat) (hr : r < 3) (W : World) : (Instr.slice 9 (.string ⟨#[97, 98, 99]⟩) (some (.int .u8 (r : Int))) (some (.int .u8 ((r : Int) + 1))) none).run Try.prog W = .ok (.string (strB [UInt8.ofNat (97 + r)])) W := by
  have h := run_slice_string W 9 ⟨#[97, 98, 99]⟩ .u8 .u8 (r : Int) ((r : Int) + 1) Try.underlying9 (by omega) (by omega) (by simp [ByteArray.size]; omega)
  rw [h]
  clear h
  have e1 : ((r : Int)).toNat = r := by omega
  have e2 : ((r : Int) + 1).toNat = r + 1 := by omega
  rw [e1, e2]
  have key : ∀ q : Fin 3, (⟨#[97, 98, 99]⟩ : ByteArray).extract q.val (q.val + 1) = strB [UInt8.ofNat (97 + q.val)] := by decide +kernel
  rw [key ⟨r, hr⟩]
set_option maxHeartbeats 1000000 in
theorem text_any {B n k : Nat} {A : Option Addr} (ns : List UInt8) {w : World} (hy : Bys w B A n ns) :
    Calls Try.prog 10 #[.slice A n k] w fun e w' => e = .returned (.string (strB (txt ns))) ∧ w = w' := by
  have HY := keepHid hy
  have hm := hy.max
  clear hy
  have e0 : (⟨#[]⟩ : ByteArray) = strB (txt (ns.take 0)) := rfl
  go_enter Try.func10, Try.ntmps10
  go_wp2
  go_loop [3, 8] (fun s i => ∃ j : Nat, j ≤ n ∧ i = .int .i64 j ∧ s = .string (strB (txt (ns.take j)))) (fun _ i => n - (intOf i).toNat)
  case atStart => exact ⟨0, Nat.zero_le _, rfl, by rw [← e0]⟩
  case round =>
    obtain ⟨j, hj, rfl, rfl⟩ := hrel
    rcases Nat.lt_or_ge j n with hlt | hge
    · obtain ⟨ad, c, rfl, _, hc, hcell⟩ := HY.out.at_ hlt
      have c1 := u8lt c
      have hji : (j : Int) < (n : Int) := by omega
      rcases Nat.lt_or_ge j 14 with h14 | h14
      · have HT := keepHid (txt_more hc h14)
        have hj14 : (j : Int) < 14 := by omega
        obtain ⟨r, hr⟩ : ∃ r, c.toNat % 3 = r := ⟨_, rfl⟩
        have hr3 : r < 3 := by rw [← hr]; exact Nat.mod_lt _ (by omega)
        have hab : ∀ W, (Instr.slice 9 (.string ⟨#[97, 98, 99]⟩) (some (.int .u8 ((c.toNat : Int) % 3))) (some (.int .u8 ((c.toNat : Int) % 3 + 1))) none).run Try.prog W = .ok (.string (strB [txt1 c])) W := fun W => by
          have := run_abc r hr3 W
          rw [show ((c.toNat : Int) % 3) = (r : Int) by omega]
          unfold txt1
          rw [hr]; exact this
        have hadd : ∀ W, (Op.stringOp .add (strB (txt (ns.take j))) (strB [txt1 c])).run Try.prog W = .ok (.string (strB (txt (ns.take j) ++ [txt1 c]))) W := fun W => run_strAdd _ _ (by have := txt_len (ns.take j); simp; omega) W
        have i1 : (0 : Int) ≤ (c.toNat : Int) := by omega
        have i2 : (c.toNat : Int) ≤ 255 := by omega
        clear hc hr hr3 c1 e0
        go_wp2
        go_round
        case rel => exact ⟨j + 1, by omega, by go_num, by rw [HT.out]⟩
        case measure => simp [intOf]; omega
      · have HT := keepHid (txt_same (ns := ns) h14)
        have hj14 : ¬ (j : Int) < 14 := by omega
        clear hc c1 e0
        go_wp2
        go_round
        case rel => exact ⟨j + 1, by omega, by go_num, by rw [HT.out]⟩
        case measure => simp [intOf]; omega
    · have e : ns.take j = ns := List.take_of_length_le (by rw [HY.out.len]; exact hge)
      have HE := keepHid e
      clear e e0
      go_wp2
      go_ret
      exact ⟨by rw [HE.out]; rfl, rfl⟩

/-- A node of the call's own, as it lies. -/
theorem node_var {w w' : World} {S : Nat → Prop} {h : Hd} {r : Re} (hi : IsS w S h r) (hw : w.alloc (.cells (hdC h) 30) = w') :
    IsS w' (fun i => i < w'.heap.size) h r ∧ Below w.heap.size w w' ∧ Blk w' w.heap.size 30 (hdC h) := by
  subst hw
  have hb : Below w.heap.size w (w.alloc (.cells (hdC h) 30)) := (Below.refl _ _).alloc (Nat.le_refl _) _
  exact ⟨re_all (hi.below hb), hb, Blk.new _ _ _⟩
theorem run_head {l : List UInt8} {k : Nat} (hk : k ≤ l.length) (v : Int) (hv : v = (k : Int)) (W : World) :
    (Instr.slice 9 (.string (strB l)) none (some (.int .i64 v)) none).run Try.prog W = .ok (.string (strB (l.take k))) W := by
  subst hv
  have h := run_slice_string_h W 9 (strB l) Try.underlying9 .i64 (k : Int) (by omega) (by rw [strB_size]; omega)
  rw [h]
  rw [show ((k : Int)).toNat = k by omega, strB_take]
theorem run_tail {l : List UInt8} {k : Nat} (hk : k ≤ l.length) (v : Int) (hv : v = (k : Int)) (W : World) :
    (Instr.slice 9 (.string (strB l)) (some (.int .i64 v)) none none).run Try.prog W = .ok (.string (strB (l.drop k))) W := by
  subst hv
  have h := run_slice_string_l W 9 (strB l) Try.underlying9 .i64 (k : Int) (by omega) (by rw [strB_size]; omega)
  rw [h]
  rw [show ((k : Int)).toNat = k by omega, strB_size, strB_drop]
end Go.Proofs.Ytlmjijejgfhmmaa
