/-
  The law's own numbers, and its own find.
-/
import Derived.Test.YtdjmfapbaoddoaaGreatDoorDialogLine
namespace Go.Proofs.YtdjmfapbaoddoaaGreatDoor
open Go.RowKit
set_option linter.unusedVariables false

theorem decd_at {n : Nat} (h : n < 10) : decL[n]? = some (chr n) := by
  rcases (by omega : n = 0 ∨ n = 1 ∨ n = 2 ∨ n = 3 ∨ n = 4 ∨ n = 5 ∨ n = 6 ∨ n = 7 ∨ n = 8 ∨ n = 9) with rfl | rfl | rfl | rfl | rfl | rfl | rfl | rfl | rfl | rfl <;> rfl
set_option maxRecDepth 100000 in
set_option maxHeartbeats 4000000 in
theorem ldig_any : ∀ (n : Nat), n ≤ 9223372036854775807 → ∀ w : World,
    Calls Tryz.prog 19 #[.int .i64 (n : Int)] w fun e w' => e = .returned (.string (strB (digL 10 n))) ∧ Below w.heap.size w w' := by
  intro n
  induction n using Nat.strongRecOn with
  | _ n ih =>
    intro hn w
    have hn0 : ¬ (n : Int) < 0 := by omega
    by_cases hlt : n < 10
    · have hcut : ∀ w, (Instr.slice 9 (.string ⟨#[48, 49, 50, 51, 52, 53, 54, 55, 56, 57]⟩) (some (.int .i64 (n : Int))) (some (.int .i64 ((n : Int) + 1))) none).run Tryz.prog w = .ok (.string (strB [chr n])) w := fun w => by
        have h := run_mid (l := decL) (i := n) (j := n + 1) (by omega) (by show n + 1 ≤ 10; omega) .i64 .i64 (n : Int) ((n : Int) + 1) rfl (by omega) w
        have e : (decL.drop n).take (n + 1 - n) = [chr n] := by
          have hl : n < decL.length := by show n < 10; omega
          rw [List.drop_eq_getElem_cons hl, show n + 1 - n = 1 by omega]
          have := decd_at (n := n) (by omega)
          rw [List.getElem?_eq_getElem hl] at this
          simp [Option.some.inj this]
        rw [e] at h
        exact h
      have hlt' : (n : Int) < 10 := by omega
      have HD := keepHid (digL_lt hlt)
      clear ih hn
      go_enter Tryz.func19, Tryz.ntmps19
      go_wp2
      go_ret
      exact ⟨by rw [HD.out]; rfl, Below.refl _ _⟩
    · have hge : ¬ (n : Int) < 10 := by omega
      have H1 := keepHid (ih (n / 10) (Nat.div_lt_self (by omega) (by omega)) (Nat.le_trans (Nat.div_le_self _ _) hn))
      have hm : n % 10 < 10 := Nat.mod_lt _ (by omega)
      have H2 := keepHid (ih (n % 10) (by omega) (by omega))
      have HL : Hid ((digL 10 (n / 10)).length + (digL 10 (n % 10)).length ≤ 1000) := keepHid (by
        have hp : (2 : Nat) ^ (63 + 1) ≤ 10 ^ (63 + 1) := Nat.pow_le_pow_left (by omega) _
        have hq : (2 : Nat) ^ (63 + 1) = 18446744073709551616 := by decide
        have h1 := digL_len (b := 10) (by omega) (n / 10) 63 (Nat.lt_of_lt_of_le (by have : n / 10 ≤ n := Nat.div_le_self _ _; omega) hp)
        have h3 := digL_len (b := 10) (by omega) (n % 10) 63 (Nat.lt_of_lt_of_le (by omega) hp)
        omega)
      have hadd : ∀ w, (Op.stringOp .add (strB (digL 10 (n / 10))) (strB (digL 10 (n % 10)))).run Tryz.prog w = .ok (.string (strB (digL 10 (n / 10) ++ digL 10 (n % 10)))) w := fun w => run_strAdd _ _ (by have := HL.out; omega) w
      have HD : Hid (digL 10 n = digL 10 (n / 10) ++ digL 10 (n % 10)) := keepHid (by rw [digL_ge (by omega) (by omega), digL_lt hm])
      have hqe : ((n / 10 : Nat) : Int) = (n : Int) / 10 := rfl
      have hre : ((n % 10 : Nat) : Int) = (n : Int) % 10 := rfl
      have hq : Int.tdiv (n : Int) 10 = ((n / 10 : Nat) : Int) := by rw [Int.tdiv_eq_ediv_of_nonneg (by omega), hqe]
      have hr : Int.tmod (n : Int) 10 = ((n % 10 : Nat) : Int) := by rw [Int.tmod_eq_emod_of_nonneg (by omega), hre]
      have hqw : IntKind.i64.wrap ((n / 10 : Nat) : Int) = ((n / 10 : Nat) : Int) := by
        have : n / 10 ≤ n := Nat.div_le_self _ _
        generalize n / 10 = x at *
        rw [IntKind.wrap_i64]; omega
      obtain ⟨q, hqq⟩ : ∃ q, n / 10 = q := ⟨_, rfl⟩
      obtain ⟨r, hrr⟩ : ∃ r, n % 10 = r := ⟨_, rfl⟩
      rw [hqq] at hq H1 HD hadd hqw hqe
      rw [hrr] at hr H2 HD hadd hm hre
      have hq2 := hqe.symm
      have hr2 := hre.symm
      clear hqq hrr ih HL hqe hre hn
      go_enter Tryz.func19, Tryz.ntmps19
      go_wp2_with fail
      refine (H1.out _).mono ?_
      rintro e w2 ⟨rfl, hb2⟩
      have HB2 := keepHid hb2
      clear hb2
      go_wp2_with fail
      refine (H2.out _).mono ?_
      rintro e w3 ⟨rfl, hb3⟩
      have HB3 := keepHid (HB2.out.trans (hb3.mono HB2.out.size))
      clear hb3
      go_wp2
      go_ret
      exact ⟨by rw [HD.out]; rfl, HB3.out⟩
theorem ldig_neg (n : Int) (h : -1099511627776 ≤ n ∧ n < 0) (w : World) :
    Calls Tryz.prog 19 #[.int .i64 n] w fun e w' => e = .returned (.string (strB (numL 10 n))) ∧ Below w.heap.size w w' := by
  obtain ⟨m, rfl⟩ : ∃ m : Nat, n = -(m : Int) := ⟨(-n).toNat, by omega⟩
  have H1 := keepHid (ldig_any m (by omega))
  have HN : Hid (numL 10 (-(m : Int)) = 45 :: digL 10 m) := keepHid (by unfold numL; rw [if_pos h.2]; congr 2; omega)
  have hl : (digL 10 m).length ≤ 41 := digL_len (by omega) m 40 (by
    have hp : (2 : Nat) ^ (40 + 1) ≤ 10 ^ (40 + 1) := Nat.pow_le_pow_left (by omega) _
    have hq : (2 : Nat) ^ (40 + 1) = 2199023255552 := by decide
    omega)
  have hadd : ∀ w, (Op.stringOp .add ⟨#[45]⟩ (strB (digL 10 m))).run Tryz.prog w = .ok (.string (strB (45 :: digL 10 m))) w := fun w => run_strAdd [45] _ (by simp; omega) w
  have hneg : -(m : Int) < 0 := h.2
  have hnn : - -(m : Int) = (m : Int) := by omega
  have hm40 : (m : Int) ≤ 1099511627776 := by omega
  have HS : Hid (strB (numL 10 (-(m : Int))) = strB (45 :: digL 10 m)) := keepHid (by rw [HN.out])
  generalize strB (45 :: digL 10 m) = S1 at *
  generalize strB (digL 10 m) = S2 at *
  generalize strB (numL 10 (-(m : Int))) = S3 at *
  clear HN hl h
  generalize hM : -(m : Int) = M at *
  have hwr : IntKind.i64.wrap (m : Int) = (m : Int) := by rw [IntKind.wrap_i64]; omega
  clear hM hm40
  go_enter Tryz.func19, Tryz.ntmps19
  go_wp2_with fail
  refine (H1.out _).mono ?_
  rintro e w2 ⟨rfl, hb2⟩
  go_wp2
  go_ret
  exact ⟨by rw [HS.out]; rfl, hb2⟩
theorem lnum_any (n : Int) (h : -1099511627776 ≤ n ∧ n ≤ 9223372036854775807) (w : World) :
    Calls Tryz.prog 19 #[.int .i64 n] w fun e w' => e = .returned (.string (strB (numL 10 n))) ∧ Below w.heap.size w w' := by
  by_cases hn : n < 0
  · exact ldig_neg n ⟨h.1, hn⟩ w
  · obtain ⟨m, rfl⟩ : ∃ m : Nat, n = (m : Int) := ⟨n.toNat, by omega⟩
    have e : numL 10 (m : Int) = digL 10 m := by unfold numL; rw [if_neg hn]; rfl
    rw [e]
    exact ldig_any m (by omega) w
set_option maxRecDepth 100000 in
set_option maxHeartbeats 4000000 in
theorem lfind_any (ss : List Sp) (l : List UInt8) (A : Option Addr) (n c : Nat) (w : World) (hS : StS w A n ss) :
    Calls Tryz.prog 17 #[.slice A n c, .string (strB l)] w fun r w' => r = .returned (.int .i64 (findS ss l)) ∧ Below w.heap.size w w' := by
  have hse : (strB l).toList = l := strB_toList _
  have hbeq := fun y => strB_beq y l
  have HS := keepHid hS
  have HN := keepHid hS.len
  have hn : n ≤ 9223372036854775807 := hS.2.1
  have HR : Hid ((l = [] ∧ findS ss l = -1 ∧ (strB l).toList = [] ∧ (strB l).toList.isEmpty = true) ∨ (l ≠ [] ∧ findS ss l = findG ((ss.drop 0).map Sp.label) l 0 ∧ ¬ (strB l).toList = [] ∧ (strB l).toList.isEmpty = false)) := keepHid (by
    by_cases h0 : l = []
    · exact .inl ⟨h0, by unfold findS; rw [if_pos h0], by rw [hse]; exact h0, by rw [hse, h0]; rfl⟩
    · exact .inr ⟨h0, by unfold findS; rw [if_neg h0]; rfl, by rw [hse]; exact h0, by rw [hse]; simpa using h0⟩)
  clear hS hse
  generalize strB l = X at *
  go_enter Tryz.func17, Tryz.ntmps17
  go_wp2_with fail
  go_loopw [9] (fun iv wr => ∃ k : Nat, k ≤ n ∧ iv = .int .i64 (k : Int) ∧ Hid (l = [] ∨ findS ss l = findG ((ss.drop k).map Sp.label) l k) ∧ Hid (Below w.heap.size w wr)) (fun iv _ => n - (intOf iv).toNat)
  case atStart => exact ⟨0, Nat.zero_le _, rfl, keepHid (HR.out.elim (fun h => .inl h.1) (fun h => .inr h.2.1)), keepHid (Below.refl _ _)⟩
  case round =>
    obtain ⟨k, hk, rfl, HK, HB⟩ := hrel
    generalize wr = wq at *
    by_cases hlt : k < n
    · obtain ⟨x, hx⟩ : ∃ x, ss[k]? = some x := ⟨_, List.getElem?_eq_getElem (by rw [HN.out]; exact hlt)⟩
      obtain ⟨ad, P, m, cc, rfl, hadl, a0, a1, a2, a3, a4, a5, a6, hA, hmc⟩ := (HS.out.below HB.out (Nat.le_refl _)).at_ hx
      have HFD := keepHid (find_drop (l := l) hx)
      have hk' : (k : Int) < (n : Int) := by omega
      obtain ⟨w2, hw2⟩ : ∃ w2, wq.alloc (.cells #[.string (strB x.label), .int .i64 x.kind, .string (strB x.text), .slice P m cc, .int .i64 x.n, .string (strB x.dst), .int .i64 x.pos] 36) = w2 := ⟨_, rfl⟩
      have hK2 : Blk w2 wq.heap.size 36 #[.string (strB x.label), .int .i64 x.kind, .string (strB x.text), .slice P m cc, .int .i64 x.n, .string (strB x.dst), .int .i64 x.pos] := by rw [← hw2]; exact Blk.new wq _ _
      have hB2 : Below wq.heap.size wq w2 := by rw [← hw2]; exact (Below.refl _ _).alloc (Nat.le_refl _) _
      have b0 := hK2.cell 0
      simp at b0
      have HB2 := keepHid (HB.out.trans (hB2.mono HB.out.size))
      have hq := hbeq x.label
      clear hx hK2 hB2 hA hmc
      generalize hLB : strB x.label = LB at *
      generalize strB x.text = TX at *
      generalize strB x.dst = DD at *
      rcases HR.out with ⟨h0, _, hse2, hse3⟩ | ⟨h0, hv, hse2, hse3⟩
      · have H0 := keepHid h0
        clear h0 hq hbeq hLB
        go_wp2
        try rw [hw2]
        go_roundw
        case rel => exact ⟨k + 1, by omega, by go_num, keepHid (.inl H0.out), HB2⟩
        case measure => simp [intOf]; omega
      · have HK2 : Hid (findS ss l = findG ((ss.drop k).map Sp.label) l k) := keepHid (HK.out.elim (fun h => absurd h h0) id)
        clear hv h0
        by_cases hl : x.label = l
        · rw [decide_eq_true hl] at hq
          have HV : Hid (findS ss l = (k : Int)) := keepHid (by rw [HK2.out, HFD.out, if_pos hl])
          clear hl hbeq hLB
          go_wp2
          try rw [hw2]
          go_ret
          exact ⟨by rw [HV.out]; rfl, HB2.out⟩
        · rw [decide_eq_false hl] at hq
          have HV : Hid (findS ss l = findG ((ss.drop (k + 1)).map Sp.label) l (k + 1)) := keepHid (by rw [HK2.out, HFD.out, if_neg hl])
          clear hl hbeq hLB
          go_wp2
          try rw [hw2]
          go_roundw
          case rel => exact ⟨k + 1, by omega, by go_num, keepHid (.inr HV.out), HB2⟩
          case measure => simp [intOf]; omega
    · obtain rfl : k = n := by omega
      have HV : Hid (findS ss l = -1) := keepHid (by
        rcases HR.out with ⟨_, h, _⟩ | ⟨h0, _⟩
        · exact h
        · rw [HK.out.elim (fun h => absurd h h0) id, List.drop_of_length_le (by rw [HN.out]; exact Nat.le_refl _)]; rfl)
      clear hbeq
      go_wp2
      go_ret
      exact ⟨by rw [HV.out]; rfl, HB.out⟩
end Go.Proofs.YtdjmfapbaoddoaaGreatDoor
