/-
  The law's own numbers, and its own find.
-/
import Derived.Test.YtdjmfapbaoddoaaGreatDoorDialogLine
namespace Go.Proofs.YtdjmfapbaoddoaaGreatDoor
open Go.RowKit
set_option linter.unusedVariables false

theorem decd_at {n : Nat} (h : n < 10) : decL[n]? = some (chr n) := by
  rcases (by omega : n = 0 ∨ n = 1 ∨ n = 2 ∨ n = 3 ∨ n = 4 ∨ n = 5 ∨ n = 6 ∨ n = 7 ∨ n = 8 ∨ n = 9) with rfl | rfl | rfl | rfl | rfl | rfl | rfl | rfl | rfl | rfl <;> rfl
set_option maxRecDepth 100000 in
set_option maxHeartbeats 4000000 in
theorem ldig_any : ∀ (n : Nat), n ≤ 9223372036854775807 → ∀ w : World,
    Calls Tryz.prog 19 #[.int .i64 (n : Int)] w fun e w' => e = .returned (.string (strB (digL 10 n))) ∧ Below w.heap.size w w' := by
  intro n
  induction n using Nat.strongRecOn with
  | _ n ih =>
    intro hn w
    have hn0 : ¬ (n : Int) < 0 := by omega
    by_cases hlt : n < 10
    · have hcut : ∀ w, (Instr.slice 9 (.string ⟨#[48, 49, 50, 51, 52, 53, 54, 55, 56, 57]⟩) (some (.int .i64 (n : Int))) (some (.int .i64 ((n : Int) + 1))) none).run Tryz.prog w = .ok (.string (strB [chr n])) w := fun w => by
        have h := run_mid (l := decL) (i := n) (j := n + 1) (by omega) (by show n + 1 ≤ 10; omega) .i64 .i64 (n : Int) ((n : Int) + 1) rfl (by omega) w
        have e : (decL.drop n).take (n + 1 - n) = [chr n] := by
          have hl : n < decL.length := by show n < 10; omega
          rw [List.drop_eq_getElem_cons hl, show n + 1 - n = 1 by omega]
          have := decd_at (n := n) (by omega)
          rw [List.getElem?_eq_getElem hl] at this
          simp [Option.some.inj this]
        rw [e] at h
        exact h
      have hlt' : (n : Int) < 10 := by omega
      have HD := keepHid (digL_lt hlt)
      clear ih hn
      go_enter Tryz.func19, Tryz.ntmps19
      go_wp2
      go_ret
      exact ⟨by rw [HD.out]; rfl, Below.refl _ _⟩
    · have hge : ¬ (n : Int) < 10 := by omega
      have H1 := keepHid (ih (n / 10) (Nat.div_lt_self (by omega) (by omega)) (Nat.le_trans (Nat.div_le_self _ _) hn))
      have hm : n % 10 < 10 := Nat.mod_lt _ (by omega)
      have H2 := keepHid (ih (n % 10) (by omega) (by omega))
      have HL : Hid ((digL 10 (n / 10)).length + (digL 10 (n % 10)).length ≤ 1000) := keepHid (by
        have hp : (2 : Nat) ^ (63 + 1) ≤ 10 ^ (63 + 1) := Nat.pow_le_pow_left (by omega) _
        have hq : (2 : Nat) ^ (63 + 1) = 18446744073709551616 := by decide
        have h1 := digL_len (b := 10) (by omega) (n / 10) 63 (Nat.lt_of_lt_of_le (by have : n / 10 ≤ n := Nat.div_le_self _ _; omega) hp)
        have h3 := digL_len (b := 10) (by omega) (n % 10) 63 (Nat.lt_of_lt_of_le (by omega) hp)
        omega)
      have hadd : ∀ w, (Op.stringOp .add (strB (digL 10 (n / 10))) (strB (digL 10 (n % 10)))).run Tryz.prog w = .ok (.string (strB (digL 10 (n / 10) ++ digL 10 (n % 10)))) w := fun w => run_strAdd _ _ (by have := HL.out; omega) w
      have HD : Hid (digL 10 n = digL 10 (n / 10) ++ digL 10 (n % 10)) := keepHid (by rw [digL_ge (by omega) (by omega), digL_lt hm])
      have hqe : ((n / 10 : Nat) : Int) = (n : Int) / 10 := rfl
      have hre : ((n % 10 : Nat) : Int) = (n : Int) % 10 := rfl
      have hq : Int.tdiv (n : Int) 10 = ((n / 10 : Nat) : Int) := by rw [Int.tdiv_eq_ediv_of_nonneg (by omega), hqe]
      have hr : Int.tmod (n : Int) 10 = ((n % 10 : Nat) : Int) := by rw [Int.tmod_eq_emod_of_nonneg (by omega), hre]
      have hqw : IntKind.i64.wrap ((n / 10 : Nat) : Int) = ((n / 10 : Nat) : Int) := by
        have : n / 10 ≤ n := Nat.div_le_self _ _
        generalize n / 10 = x at *
        rw [IntKind.wrap_i64]; omega
      obtain ⟨q, hqq⟩ : ∃ q, n / 10 = q := ⟨_, rfl⟩
      obtain ⟨r, hrr⟩ : ∃ r, n % 10 = r := ⟨_, rfl⟩
      rw [hqq] at hq H1 HD hadd hqw hqe
      rw [hrr] at hr H2 HD hadd hm hre
      have hq2 := hqe.symm
      have hr2 := hre.symm
      clear hqq hrr ih HL hqe hre hn
      go_enter Tryz.func19, Tryz.ntmps19
      go_wp2_with fail
      refine (H1.out _).mono ?_
      rintro e w2 ⟨rfl, hb2⟩
      have HB2 := keepHid hb2
      clear hb2
      go_wp2_with fail
      refine (H2.out _).mono ?_
      rintro e w3 ⟨rfl, hb3⟩
      have HB3 := keepHid (HB2.out.trans (hb3.mono HB2.out.size))
      clear hb3
      go_wp2
      go_ret
      exact ⟨by rw [HD.out]; rfl, HB3.out⟩
theorem ldig_neg (n : Int) (h : -1099511627776 ≤ n ∧ n < 0) (w : World) :
    Calls Tryz.prog 19 #[.int .i64 n] w fun e w' => e = .returned (.string (strB (numL 10 n))) ∧ Below w.heap.size w w' := by
  obtain ⟨m, rfl⟩ : ∃ m : Nat, n = -(m : Int) := ⟨(-n).toNat, by omega⟩
  have H1 := keepHid (ldig_any m (by omega))
  have HN : Hid (numL 10 (-(m : Int)) = 45 :: digL 10 m) := keepHid (by unfold numL; rw [if_pos h.2]; congr 2; omega)
  have hl : (digL 10 m).length ≤ 41 := digL_len (by omega) m 40 (by
    have hp : (2 : Nat) ^ (40 + 1) ≤ 10 ^ (40 + 1) := Nat.pow_le_pow_left (by omega) _
    have hq : (2 : Nat) ^ (40 + 1) = 2199023255552 := by decide
    omega)
  have hadd : ∀ w, (Op.stringOp .add ⟨#[45]⟩ (strB (digL 10 m))).run Tryz.prog w = .ok (.string (strB (45 :: digL 10 m))) w := fun w => run_strAdd [45] _ (by simp; omega) w
  have hneg : -(m : Int) < 0 := h.2
  have hnn : - -(m : Int) = (m : Int) := by omega
  have hm40 : (m : Int) ≤ 1099511627776 := by omega
  have HS : Hid (strB (numL 10 (-(m : Int))) = strB (45 :: digL 10 m)) := keepHid (by rw [HN.out])
  generalize strB (45 :: digL 10 m) = S1 at *
  generalize strB (digL 10 m) = S2 at *
  generalize strB (numL 10 (-(m : Int))) = S3 at *
  clear HN hl h
  generalize hM : -(m : Int) = M at *
  have hwr : IntKind.i64.wrap (m : Int) = (m : Int) := by rw [IntKind.wrap_i64]; omega
  clear hM hm40
  go_enter Tryz.func19, Tryz.ntmps19
  go_wp2_with fail
  refine (H1.out _).mono ?_
  rintro e w2 ⟨rfl, hb2⟩
  go_wp2
  go_ret
  exact ⟨by rw [HS.out]; rfl, hb2⟩
theorem lnum_any (n : Int) (h : -1099511627776 ≤ n ∧ n ≤ 9223372036854775807) (w : World) :
    Calls Tryz.prog 19 #[.int .i64 n] w fun e w' => e = .returned (.string (strB (numL 10 n))) ∧ Below w.heap.size w w' := by
  by_cases hn : n < 0
  · exact ldig_neg n ⟨h.1, hn⟩ w
  · obtain ⟨m, rfl⟩ : ∃ m : Nat, n = (m : Int) := ⟨n.toNat, by omega⟩
    have e : numL 10 (m : Int) = digL 10 m := by unfold numL; rw [if_neg hn]; rfl
    rw [e]
    exact ldig_any m (by omega) w
set_option maxRecDepth 100000 in
set_option maxHeartbeats 4000000 in
theorem lfind_any (ss : List Sp) (l : List UInt8) (A : Option Addr) (n c : Nat) (w : World) (hS : StS w A n ss) :
    Calls Tryz.prog 17 #[.slice A n c, .string (strB l)] w fun r w' => r = .returned (.int .i64 (findS ss l)) ∧ Below w.heap.size w w' := by
  have hse : (strB l).toList = l := strB_toList _
  have hbeq := fun y => strB_beq y l
  have HS := keepHid hS
  have HN := keepHid hS.len
  have hn : n ≤ 9223372036854775807 := hS.2.1
  have HR : Hid ((l = [] ∧ findS ss l = -1 ∧ (strB l).toList = [] ∧ (strB l).toList.isEmpty = true) ∨ (l ≠ [] ∧ findS ss l = findG ((ss.drop 0).map Sp.label) l 0 ∧ ¬ (strB l).toList = [] ∧ (strB l).toList.isEmpty = false)) := keepHid (by
    by_cases h0 : l = []
    · exact .inl ⟨h0, by unfold findS; rw [if_pos h0], by rw [hse]; exact h0, by rw [hse, h0]; rfl⟩
    · exact .inr ⟨h0, by unfold findS; rw [if_neg h0]; rfl, by rw [hse]; exact h0, by rw [hse]; simpa using h0⟩)
  clear hS hse
  generalize strB l = X at *
  go_enter Tryz.func17, Tryz.ntmps17
  go_wp2_with fail
  go_loopw [9] (fun iv wr => ∃ k : Nat, k ≤ n ∧ iv = .int .i64 (k : Int) ∧ Hid (l = [] ∨ findS ss l = findG ((ss.drop k).map Sp.label) l k) ∧ Hid (Below w.heap.size w wr)) (fun iv _ => n - (intOf iv).toNat)
  case atStart => exact ⟨0, Nat.zero_le _, rfl, keepHid (HR.out.elim (fun h => .inl h.1) (fun h => .inr h.2.1)), keepHid (Below.refl _ _)⟩
  case round =>
    obtain ⟨k, hk, rfl, HK, HB⟩ := hrel
    generalize wr = wq at *
    by_cases hlt : k < n
    · obtain ⟨x, hx⟩ : ∃ x, ss[k]? = some x := ⟨_, List.getElem?_eq_getElem (by rw [HN.out]; exact hlt)⟩
      obtain ⟨ad, P, m, cc, rfl, hadl, a0, a1, a2, a3, a4, a5, a6, hA, hmc⟩ := (HS.out.below HB.out (Nat.le_refl _)).at_ hx
      have HFD := keepHid (find_drop (l := l) hx)
      have hk' : (k : Int) < (n : Int) := by omega
      obtain ⟨w2, hw2⟩ : ∃ w2, wq.alloc (.cells #[.string (strB x.label), .int .i64 x.kind, .string (strB x.text), .slice P m cc, .int .i64 x.n, .string (strB x.dst), .int .i64 x.pos] 36) = w2 := ⟨_, rfl⟩
      have hK2 : Blk w2 wq.heap.size 36 #[.string (strB x.label), .int .i64 x.kind, .string (strB x.text), .slice P m cc, .int .i64 x.n, .string (strB x.dst), .int .i64 x.pos] := by rw [← hw2]; exact Blk.new wq _ _
      have hB2 : Below wq.heap.size wq w2 := by rw [← hw2]; exact (Below.refl _ _).alloc (Nat.le_refl _) _
      have b0 := hK2.cell 0
      simp at b0
      have HB2 := keepHid (HB.out.trans (hB2.mono HB.out.size))
      have hq := hbeq x.label
      clear hx hK2 hB2 hA hmc
      generalize hLB : strB x.label = LB at *
      generalize strB x.text = TX at *
      generalize strB x.dst = DD at *
      rcases HR.out with ⟨h0, _, hse2, hse3⟩ | ⟨h0, hv, hse2, hse3⟩
      · have H0 := keepHid h0
        clear h0 hq hbeq hLB
        go_wp2
        try rw [hw2]
        go_roundw
        case rel => exact ⟨k + 1, by omega, by go_num, keepHid (.inl H0.out), HB2⟩
        case measure => simp [intOf]; omega
      · have HK2 : Hid (findS ss l = findG ((ss.drop k).map Sp.label) l k) := keepHid (HK.out.elim (fun h => absurd h h0) id)
        clear hv h0
        by_cases hl : x.label = l
        · rw [decide_eq_true hl] at hq
          have HV : Hid (findS ss l = (k : Int)) := keepHid (by rw [HK2.out, HFD.out, if_pos hl])
          clear hl hbeq hLB
          go_wp2
          try rw [hw2]
          go_ret
          exact ⟨by rw [HV.out]; rfl, HB2.out⟩
        · rw [decide_eq_false hl] at hq
          have HV : Hid (findS ss l = findG ((ss.drop (k + 1)).map Sp.label) l (k + 1)) := keepHid (by rw [HK2.out, HFD.out, if_neg hl])
          clear hl hbeq hLB
          go_wp2
          try rw [hw2]
          go_roundw
          case rel => exact ⟨k + 1, by omega, by go_num, keepHid (.inr HV.out), HB2⟩
          case measure => simp [intOf]; omega
    · obtain rfl : k = n := by omega
      have HV : Hid (findS ss l = -1) := keepHid (by
        rcases HR.out with ⟨_, h, _⟩ | ⟨h0, _⟩
        · exact h
        · rw [HK.out.elim (fun h => absurd h h0) id, List.drop_of_length_le (by rw [HN.out]; exact Nat.le_refl _)]; rfl)
      clear hbeq
      go_wp2
      go_ret
      exact ⟨by rw [HV.out]; rfl, HB.out⟩

def wdV : Array Value := #[.string (strB dSend), .string (strB dExpect), .string (strB dGo), .string (strB dTry), .string (strB dDone), .string (strB dFail)]
theorem wd_at {w : World} {g : Nat} (h : Blk w g 9 wdV) {k : Nat} (hk : k ≤ 5) : w.cell? ⟨g, k, none⟩ = some (.string (strB (wordK k))) := by
  rw [Blk.cell h]
  rcases (by omega : k = 0 ∨ k = 1 ∨ k = 2 ∨ k = 3 ∨ k = 4 ∨ k = 5) with rfl | rfl | rfl | rfl | rfl | rfl <;> rfl
theorem kind_clamp (k : Int) : ∃ K : Int, ((k < 0 ∧ K = 0) ∨ (¬ k < 0 ∧ K = k)) ∧ ((5 < K ∧ kindK k = 5) ∨ (¬ 5 < K ∧ (kindK k : Int) = K ∧ kindK k ≤ 5)) := by
  unfold kindK
  by_cases h : k < 0
  · exact ⟨0, .inl ⟨h, rfl⟩, .inr ⟨by omega, by rw [if_pos h]; rfl, by rw [if_pos h]; omega⟩⟩
  · refine ⟨k, .inr ⟨h, rfl⟩, ?_⟩
    rw [if_neg h]
    by_cases h5 : 5 < k
    · exact .inl ⟨h5, by rw [if_pos h5]⟩
    · exact .inr ⟨h5, by rw [if_neg h5]; omega, by rw [if_neg h5]; omega⟩
set_option maxRecDepth 100000 in
set_option maxHeartbeats 16000000 in
theorem ltext_any (ss : List Sp) (A : Option Addr) (n c : Nat) (hF : ∀ x ∈ ss, SpF x ∧ -1099511627776 ≤ x.n) (ht : (textS ss).length ≤ 70368744177664) (w : World) (hS : StS w A n ss) :
    Calls Tryz.prog 11 #[.slice A n c] w fun r w' => r = .returned (.string (strB (textS ss))) ∧ Below w.heap.size w w' := by
  have HS := keepHid hS
  have HF := keepHid hF
  have HTL := keepHid ht
  have HN := keepHid hS.len
  have hn : n ≤ 9223372036854775807 := hS.2.1
  clear hS hF ht
  go_enter Tryz.func11, Tryz.ntmps11
  go_wp2_with fail
  go_loopw [15, 3] (fun iv sv wr => ∃ k : Nat, k ≤ n ∧ iv = .int .i64 (k : Int) ∧ sv = .string (strB (textS (ss.take k))) ∧ Hid (Below w.heap.size w wr)) (fun iv _ _ => n - (intOf iv).toNat)
  case atStart => exact ⟨0, Nat.zero_le _, rfl, rfl, keepHid (Below.refl _ _)⟩
  case round =>
    obtain ⟨k, hk, rfl, rfl, HB⟩ := hrel
    generalize wr = wq at *
    by_cases hlt : k < n
    · obtain ⟨x, hx⟩ : ∃ x, ss[k]? = some x := ⟨_, List.getElem?_eq_getElem (by rw [HN.out]; exact hlt)⟩
      obtain ⟨hf, hn40⟩ := HF.out x (List.mem_of_getElem? hx)
      obtain ⟨ad, P, pm, pc, rfl, hadl, a0, a1, a2, a3, a4, a5, a6, hA, hmc⟩ := (HS.out.below HB.out (Nat.le_refl _)).at_ hx
      have HTK := keepHid (text_stake hx)
      obtain ⟨T, hT⟩ : ∃ T, textS (ss.take k) = T := ⟨_, rfl⟩
      have hlen : T.length + (lineS x).length ≤ 70368744177664 := by
        have h1 := text_stake_le ss (k + 1)
        rw [HTK.out, List.length_append, hT] at h1
        have := HTL.out
        omega
      have hk' : (k : Int) < (n : Int) := by omega
      obtain ⟨K1, hK1, hcl⟩ := kind_clamp x.kind
      obtain ⟨kk, hkk⟩ : ∃ k, kindK x.kind = k := ⟨_, rfl⟩
      rw [hkk] at hcl
      have hk5 : kk ≤ 5 := by rcases hcl with h | h <;> omega
      rw [line_is, hkk] at hlen
      simp only [List.length_append, List.length_cons, List.length_nil] at hlen
      have HX : Hid (textS (ss.take (k + 1)) = T ++ labL x ++ wordK kk ++ restL kk x ++ [59, 10]) := keepHid (by rw [HTK.out, hT, line_is, hkk]; simp)
      rw [hT]
      obtain ⟨w2, hw2⟩ : ∃ w2, wq.alloc (.cells #[.string (strB x.label), .int .i64 x.kind, .string (strB x.text), .slice P pm pc, .int .i64 x.n, .string (strB x.dst), .int .i64 x.pos] 36) = w2 := ⟨_, rfl⟩
      have hK2 : Blk w2 wq.heap.size 36 #[.string (strB x.label), .int .i64 x.kind, .string (strB x.text), .slice P pm pc, .int .i64 x.n, .string (strB x.dst), .int .i64 x.pos] := by rw [← hw2]; exact Blk.new wq _ _
      have hB2 : Below wq.heap.size wq w2 := by rw [← hw2]; exact (Below.refl _ _).alloc (Nat.le_refl _) _
      have HK2 := keepHid hK2
      have HA2 := keepHid (hA.below hB2 (Nat.le_refl _))
      have HB2 := keepHid (HB.out.trans (hB2.mono HB.out.size))
      have b0 : w2.cell? ⟨wq.heap.size, 0, none⟩ = some (.string (strB x.label)) := hK2.cell 0
      have b1 : w2.cell? ⟨wq.heap.size, 1, none⟩ = some (.int .i64 x.kind) := hK2.cell 1
      have hse : (strB x.label).toList = x.label := strB_toList _
      have HLB : Hid ((strB (T ++ labL x) = strB T ∧ (strB x.label).toList = [] ∧ (strB x.label).toList.isEmpty = true) ∨ (¬ (strB x.label).toList = [] ∧ (strB x.label).toList.isEmpty = false ∧ (∀ w, (Op.stringOp .add (strB T) (strB x.label)).run Tryz.prog w = .ok (.string (strB (T ++ x.label))) w) ∧ ∀ w, (Op.stringOp .add (strB (T ++ x.label)) ⟨#[58, 32]⟩).run Tryz.prog w = .ok (.string (strB (T ++ labL x))) w)) := keepHid (by
        by_cases h : x.label = []
        · have e : labL x = [] := by unfold labL; rw [if_pos h]
          exact .inl ⟨by rw [e, List.append_nil], by rw [hse]; exact h, by rw [hse, h]; rfl⟩
        · have e : labL x = x.label ++ [58, 32] := by unfold labL; rw [if_neg h]
          rw [e] at hlen
          simp only [List.length_append, List.length_cons, List.length_nil] at hlen
          refine .inr ⟨by rw [hse]; exact h, by rw [hse]; simpa using h, fun w => run_strAdd _ _ (by omega) w, fun w => ?_⟩
          rw [e, ← List.append_assoc]
          exact run_strAdd _ [58, 32] (by simp only [List.length_append, List.length_cons, List.length_nil]; omega) w)
      have k2 : ∀ w, (Op.stringOp .add (strB (T ++ labL x)) (strB (wordK kk))).run Tryz.prog w = .ok (.string (strB (T ++ labL x ++ wordK kk))) w := fun w => run_strAdd _ _ (by rw [List.length_append]; omega) w
      obtain ⟨TW, hTW⟩ : ∃ L, T ++ labL x ++ wordK kk = L := ⟨_, rfl⟩
      have hlw : TW.length + (restL kk x).length + 2 ≤ 70368744177664 := by rw [← hTW, List.length_append, List.length_append]; omega
      rw [hTW] at k2 HX
      have k9 : ∀ w, (Op.stringOp .add (strB (TW ++ restL kk x)) ⟨#[59, 10]⟩).run Tryz.prog w = .ok (.string (strB (textS (ss.take (k + 1))))) w := fun w => by rw [HX.out]; exact run_strAdd _ [59, 10] (by simp only [List.length_append, List.length_cons, List.length_nil]; omega) w
      have hft := hf.text
      have hfp := hf.pats
      have hfn := hf.n
      clear hx hT hkk hTW hlen hf hA hmc hse hK2 hB2 HX HTK
      obtain ⟨SL, hSL⟩ : ∃ S, strB (textS (ss.take (k + 1))) = S := ⟨_, rfl⟩
      rw [hSL] at k9
      have HSL := keepHid hSL
      clear hSL
      generalize strB (T ++ labL x) = STL at *
      generalize strB (T ++ x.label) = ST1 at *
      generalize strB T = ST at *
      generalize hG : wq.heap.size = G at *
      go_upto_if 21 with fail
      go_cut [3] (fun s wx => s = .string STL ∧ wx = w2)
      case first =>
        clear hcl k2 k9 HA2 HK2 HB2 b1
        rcases HLB.out with ⟨rfl, h1, h2⟩ | ⟨h1, h2, h3, h4⟩
        all_goals
          simp only [h2, Bool.not_true, Bool.not_false]
          go_wp2_with fail
          try rw [hw2]
          go_meet
          case rel => exact ⟨rfl, rfl⟩
      case rest =>
        obtain ⟨rfl, hwc⟩ := hcut
        subst wc
        clear HLB b0
        go_upto_if 30 with fail
        go_cut [6] (fun s wx => s = .int .i64 K1 ∧ wx = w2)
        case first =>
          rcases hK1 with ⟨h1, rfl⟩ | ⟨h1, rfl⟩
          all_goals
            go_wp2_with fail
            go_meet
            case rel => exact ⟨rfl, rfl⟩
        case rest =>
        obtain ⟨rfl, hwc⟩ := hcut
        subst wc
        clear hK1 b1
        go_upto_if 32 with fail
        go_cut [6] (fun s wx => s = .int .i64 (kk : Int) ∧ wx = w2)
        case first =>
          rcases hcl with ⟨h1, rfl⟩ | ⟨h1, rfl, h3⟩
          all_goals
            go_wp2_with fail
            go_meet
            case rel => exact ⟨rfl, rfl⟩
        case rest =>
          obtain ⟨rfl, hwc⟩ := hcut
          subst wc
          clear hcl
          obtain ⟨w3, hw3⟩ : ∃ w3, w2.alloc (.cells wdV 9) = w3 := ⟨_, rfl⟩
          have hW3 : Blk w3 w2.heap.size 9 wdV := by rw [← hw3]; exact Blk.new w2 _ _
          have hb3 : Below w2.heap.size w2 w3 := by rw [← hw3]; exact (Below.refl _ _).alloc (Nat.le_refl _) _
          have bw := wd_at hW3 hk5
          have hkI : (kk : Int) < 6 := by omega
          have HK3 := keepHid (HK2.out.below hb3 HK2.out.lt)
          have HA3 := keepHid (HA2.out.below hb3 (Nat.le_refl _))
          have HB3 := keepHid (HB2.out.trans (hb3.mono HB2.out.size))
          have hw3' : w2.alloc (.cells #[.string ⟨#[115, 101, 110, 100]⟩, .string ⟨#[101, 120, 112, 101, 99, 116]⟩, .string ⟨#[103, 111]⟩, .string ⟨#[116, 114, 121]⟩, .string ⟨#[100, 111, 110, 101]⟩, .string ⟨#[102, 97, 105, 108]⟩] 9) = w3 := hw3
          clear hw3 hW3 hb3 HK2 HA2 HB2 hw2
          generalize hWK : strB (wordK kk) = WK at *
          clear hWK
          go_upto_region 13 with fail
          try rw [hw3']
          clear hw3' bw k2
          rcases (by omega : kk = 0 ∨ kk = 1 ∨ kk = 2 ∨ kk = 3 ∨ kk = 4 ∨ kk = 5) with rfl | rfl | rfl | rfl | rfl | rfl
          · rw [rest0] at k9 hlw
            rw [List.length_append, len1] at hlw
            rw [← List.append_assoc] at k9
            have q1 : ∀ w, (Op.stringOp .add (strB TW) ⟨#[32]⟩).run Tryz.prog w = .ok (.string (strB (TW ++ [32]))) w := fun w => run_strAdd TW [32] (by rw [len1]; omega) w
            have q2 : ∀ w, (Op.stringOp .add (strB (TW ++ [32])) (strB (quoE x.text))).run Tryz.prog w = .ok (.string (strB (TW ++ [32] ++ quoE x.text))) w := fun w => run_strAdd _ _ (by rw [List.length_append, len1]; omega) w
            obtain ⟨bq, hbq⟩ := quoV_is x.text
            have HQ := keepHid (fun w => quote_any x.text hft w)
            rw [hbq] at HQ
            have d2 : w3.cell? ⟨G, 2, none⟩ = some (.string (strB x.text)) := HK3.out.cell 2
            rw [show ((0 : Nat) : Int) = 0 from rfl] at *
            clear hlw hbq
            generalize strB (TW ++ [32] ++ quoE x.text) = S3 at *
            generalize strB (TW ++ [32]) = S2 at *
            generalize strB TW = S1 at *
            generalize strB (quoE x.text) = Q at *
            generalize strB x.text = X at *
            go_wp2_with fail
            refine (HQ.out _).mono ?_
            rintro r w4 ⟨rfl, hb4⟩
            have HB4 := keepHid (HB3.out.trans (hb4.mono HB3.out.size))
            clear hb4 d2
            go_wp2
            go_roundw
            case rel => exact ⟨k + 1, by omega, by go_num, by rw [HSL.out], HB4⟩
            case measure => simp [intOf]; omega
          · rw [rest1] at k9 hlw
            simp only [List.length_append, len1, lenGo, lenAfter] at hlw
            have e9 : TW ++ ([32] ++ armsL x.arms ++ cAfter ++ numL 10 x.n ++ cGo ++ x.dst) = TW ++ [32] ++ armsL x.arms ++ cAfter ++ numL 10 x.n ++ cGo ++ x.dst := by simp
            rw [e9] at k9
            have q1 : ∀ w, (Op.stringOp .add (strB TW) ⟨#[32]⟩).run Tryz.prog w = .ok (.string (strB (TW ++ [32]))) w := fun w => run_strAdd TW [32] (by rw [len1]; omega) w
            have q2 : ∀ w, (Op.stringOp .add (strB (TW ++ [32] ++ armsL x.arms)) ⟨#[32, 97, 102, 116, 101, 114, 32]⟩).run Tryz.prog w = .ok (.string (strB (TW ++ [32] ++ armsL x.arms ++ cAfter))) w := fun w => run_strAdd _ cAfter (by simp only [List.length_append, len1, lenAfter]; omega) w
            have q3 : ∀ w, (Op.stringOp .add (strB (TW ++ [32] ++ armsL x.arms ++ cAfter)) (strB (numL 10 x.n))).run Tryz.prog w = .ok (.string (strB (TW ++ [32] ++ armsL x.arms ++ cAfter ++ numL 10 x.n))) w := fun w => run_strAdd _ _ (by simp only [List.length_append, len1, lenAfter]; omega) w
            have q4 : ∀ w, (Op.stringOp .add (strB (TW ++ [32] ++ armsL x.arms ++ cAfter ++ numL 10 x.n)) ⟨#[32, 103, 111, 32]⟩).run Tryz.prog w = .ok (.string (strB (TW ++ [32] ++ armsL x.arms ++ cAfter ++ numL 10 x.n ++ cGo))) w := fun w => run_strAdd _ cGo (by simp only [List.length_append, len1, lenAfter, lenGo]; omega) w
            have q5 : ∀ w, (Op.stringOp .add (strB (TW ++ [32] ++ armsL x.arms ++ cAfter ++ numL 10 x.n ++ cGo)) (strB x.dst)).run Tryz.prog w = .ok (.string (strB (TW ++ [32] ++ armsL x.arms ++ cAfter ++ numL 10 x.n ++ cGo ++ x.dst))) w := fun w => run_strAdd _ _ (by simp only [List.length_append, len1, lenAfter, lenGo]; omega) w
            have HD := keepHid (fun w => lnum_any x.n ⟨hn40, hfn.2⟩ w)
            have HTI : Hid (TW.length + 1 + (armsL x.arms).length ≤ 70368744177664) := keepHid (by omega)
            have hpm : x.arms.length = pm := HA3.out.len
            have hpm9 : pm ≤ 9223372036854775807 := HA3.out.2.1
            have d3 : w3.cell? ⟨G, 3, none⟩ = some (.slice P pm pc) := HK3.out.cell 3
            have HPM := keepHid hpm
            have HFP := keepHid hfp
            have HZ : Hid (strB (TW ++ [32]) = strB (TW ++ [32] ++ armsL (x.arms.take 0))) := keepHid (by simp [armsL])
            rw [show ((1 : Nat) : Int) = 1 from rfl] at *
            clear hlw e9 hpm hfp
            obtain ⟨S2, hS2⟩ : ∃ S, strB (TW ++ [32]) = S := ⟨_, rfl⟩
            rw [hS2] at q1 HZ
            clear hS2
            generalize strB TW = S1 at *
            go_wp2_with fail
            go_loopw [59, 3] (fun jv tv wr => ∃ j : Nat, j ≤ pm ∧ jv = .int .i64 (j : Int) ∧ tv = .string (strB (TW ++ [32] ++ armsL (x.arms.take j))) ∧ Hid (Below w3.heap.size w3 wr)) (fun jv _ _ => pm - (intOf jv).toNat)
            case atStart => exact ⟨0, Nat.zero_le _, rfl, by rw [HZ.out], keepHid (Below.refl _ _)⟩
            case round =>
              obtain ⟨j, hj, rfl, rfl, HBI⟩ := hrel
              generalize wr = wi at *
              clear d3 q1
              by_cases hjl : j < pm
              · clear q2 q3 q4 q5 k9
                obtain ⟨a, ha⟩ : ∃ a, x.arms[j]? = some a := ⟨_, List.getElem?_eq_getElem (by rw [HPM.out]; exact hjl)⟩
                obtain ⟨pd, rfl, hpdl, u0', u1'⟩ := (HA3.out.below HBI.out (Nat.le_refl _)).at_ ha
                have hpa := HFP.out a (List.mem_of_getElem? ha)
                have HAK := keepHid (arms_take ha)
                have HSZ : Hid (TW.length + 1 + (armsL (x.arms.take j)).length + (if j = 0 then [] else [44, 32] : List UInt8).length + ((quoE a.pat).length + 4 + a.dst.length) ≤ 70368744177664) := keepHid (by
                  have h1 := arms_take_le x.arms (j + 1)
                  have h2 := HTI.out
                  have e : (armL a).length = (quoE a.pat).length + 4 + a.dst.length := by unfold armL; rw [List.length_append, List.length_append]; rfl
                  rw [HAK.out, List.length_append, List.length_append, e] at h1
                  omega)
                have hj' : (j : Int) < (pm : Int) := by omega
                obtain ⟨bq, hbq⟩ := quoV_is a.pat
                have HQ := keepHid (fun w => quote_any a.pat hpa w)
                rw [hbq] at HQ
                obtain ⟨A0, hA0⟩ : ∃ L, TW ++ [32] ++ armsL (x.arms.take j) = L := ⟨_, rfl⟩
                have hA0l : A0.length = TW.length + 1 + (armsL (x.arms.take j)).length := by rw [← hA0, List.length_append, List.length_append]; rfl
                obtain ⟨A1, hA1⟩ : ∃ L, A0 ++ (if j = 0 then [] else [44, 32]) = L := ⟨_, rfl⟩
                have hA1l : A1.length = TW.length + 1 + (armsL (x.arms.take j)).length + (if j = 0 then [] else [44, 32] : List UInt8).length := by rw [← hA1, List.length_append, hA0l]
                have HA9 : Hid (strB (TW ++ [32] ++ armsL (x.arms.take (j + 1))) = strB (A1 ++ quoE a.pat ++ cGo ++ a.dst)) := keepHid (by
                  rw [HAK.out, ← hA1, ← hA0]
                  simp [armL])
                have k0 : j ≠ 0 → ∀ w, (Op.stringOp .add (strB A0) ⟨#[44, 32]⟩).run Tryz.prog w = .ok (.string (strB A1)) w := fun h w => by
                  rw [← hA1, if_neg h]
                  exact run_strAdd _ [44, 32] (by have := HSZ.out; rw [if_neg h] at this; rw [hA0l]; omega) w
                have k1 : ∀ w, (Op.stringOp .add (strB A1) (strB (quoE a.pat))).run Tryz.prog w = .ok (.string (strB (A1 ++ quoE a.pat))) w := fun w => run_strAdd _ _ (by have := HSZ.out; omega) w
                have k2 : ∀ w, (Op.stringOp .add (strB (A1 ++ quoE a.pat)) ⟨#[32, 103, 111, 32]⟩).run Tryz.prog w = .ok (.string (strB (A1 ++ quoE a.pat ++ cGo))) w := fun w => run_strAdd _ cGo (by have := HSZ.out; rw [List.length_append, lenGo]; omega) w
                have k3 : ∀ w, (Op.stringOp .add (strB (A1 ++ quoE a.pat ++ cGo)) (strB a.dst)).run Tryz.prog w = .ok (.string (strB (A1 ++ quoE a.pat ++ cGo ++ a.dst))) w := fun w => run_strAdd _ _ (by have := HSZ.out; rw [List.length_append, List.length_append, lenGo]; omega) w
                rw [hA0]
                have h01 : j = 0 → strB A0 = strB A1 := fun h => by rw [← hA1, if_pos h, List.append_nil]
                obtain ⟨w4, hw4⟩ : ∃ w4, wi.alloc (.cells #[.string (strB a.pat), .string (strB a.dst)] 51) = w4 := ⟨_, rfl⟩
                have hK4 : Blk w4 wi.heap.size 51 #[.string (strB a.pat), .string (strB a.dst)] := by rw [← hw4]; exact Blk.new wi _ _
                have hB4 : Below wi.heap.size wi w4 := by rw [← hw4]; exact (Below.refl _ _).alloc (Nat.le_refl _) _
                have HK4 := keepHid hK4
                have HB4 := keepHid (HBI.out.trans (hB4.mono HBI.out.size))
                have v0 : w4.cell? ⟨wi.heap.size, 0, none⟩ = some (.string (strB a.pat)) := hK4.cell 0
                clear ha hpa hbq hA0 hA0l hA1 hA1l HAK HSZ hK4 hB4
                generalize strB (A1 ++ quoE a.pat ++ cGo ++ a.dst) = R3 at *
                generalize strB (A1 ++ quoE a.pat ++ cGo) = R2 at *
                generalize strB (A1 ++ quoE a.pat) = R1 at *
                generalize strB A1 = R0 at *
                generalize strB A0 = RA at *
                generalize strB (quoE a.pat) = Q at *
                generalize strB a.pat = PA at *
                generalize strB a.dst = DA at *
                by_cases h0 : j = 0
                · have h0I : ¬ 0 < (j : Int) := by omega
                  have h01' := h01 h0
                  subst h01'
                  clear h01 k0 h0
                  go_wp2_with fail
                  try rw [hw4]
                  refine (HQ.out _).mono ?_
                  rintro r w5 ⟨rfl, hb5⟩
                  have v1 : w5.cell? ⟨wi.heap.size, 1, none⟩ = some (.string DA) := (HK4.out.below hb5 HK4.out.lt).cell 1
                  have HB5 := keepHid (HB4.out.trans (hb5.mono HB4.out.size))
                  clear hb5 v0 hw4
                  go_wp2
                  go_roundw
                  case rel => exact ⟨j + 1, by omega, by go_num, by rw [HA9.out], HB5⟩
                  case measure => simp [intOf]; omega
                · have h0I : 0 < (j : Int) := by omega
                  have k0' := k0 h0
                  clear h01 k0 h0
                  go_wp2_with fail
                  try rw [hw4]
                  refine (HQ.out _).mono ?_
                  rintro r w5 ⟨rfl, hb5⟩
                  have v1 : w5.cell? ⟨wi.heap.size, 1, none⟩ = some (.string DA) := (HK4.out.below hb5 HK4.out.lt).cell 1
                  have HB5 := keepHid (HB4.out.trans (hb5.mono HB4.out.size))
                  clear hb5 v0 hw4
                  go_wp2
                  go_roundw
                  case rel => exact ⟨j + 1, by omega, by go_num, by rw [HA9.out], HB5⟩
                  case measure => simp [intOf]; omega
              · obtain rfl : j = pm := by omega
                have hall : x.arms.take j = x.arms := List.take_of_length_le (by rw [HPM.out]; exact Nat.le_refl _)
                rw [hall]
                have HK5 := keepHid (HK3.out.below HBI.out HK3.out.lt)
                have d4 := fun q os => cell_regrown (show wi.cell? ⟨G, 4, none⟩ = some (.int .i64 x.n) from HK5.out.cell 4) q os
                have d5 := fun q os => cell_regrown (show wi.cell? ⟨G, 5, none⟩ = some (.string (strB x.dst)) from HK5.out.cell 5) q os
                have CI := keepHid (fun d os => Calls.regrown_of (HD.out (Sort.grow (redrawn wi d) os)))
                have HBJ := keepHid (HB3.out.trans (HBI.out.mono HB3.out.size))
                clear hall HD
                generalize strB (TW ++ [32] ++ armsL x.arms ++ cAfter ++ numL 10 x.n ++ cGo ++ x.dst) = R5 at *
                generalize strB (TW ++ [32] ++ armsL x.arms ++ cAfter ++ numL 10 x.n ++ cGo) = R4 at *
                generalize strB (TW ++ [32] ++ armsL x.arms ++ cAfter ++ numL 10 x.n) = R3 at *
                generalize strB (TW ++ [32] ++ armsL x.arms ++ cAfter) = R2 at *
                generalize strB (TW ++ [32] ++ armsL x.arms) = R1 at *
                generalize strB (numL 10 x.n) = Q2 at *
                generalize strB x.dst = D at *
                generalize x.n = NN at *
                go_upto_region 27 with fail
                refine wp_region_quiet_below (by kernel_rfl) (by kernel_rfl) ?_
                repeat (go_big_quiet_step (first | (with_reducible exact CI.out _ _)))
                refine wpQuiet_nil ?_
                intro _ hw'
                obtain ⟨⟨dq, osq⟩, hw''⟩ := hw'
                subst hw''
                have HB5 := keepHid (HBJ.out.trans ((below_regrown wi dq osq).mono HBJ.out.size))
                clear d4 d5 CI
                go_wp2
                go_roundw
                case rel => exact ⟨k + 1, by omega, by go_num, by rw [HSL.out], HB5⟩
                case measure => simp [intOf]; omega
          · rw [rest2] at k9 hlw
            rw [List.length_append, len1] at hlw
            rw [← List.append_assoc] at k9
            have q1 : ∀ w, (Op.stringOp .add (strB TW) ⟨#[32]⟩).run Tryz.prog w = .ok (.string (strB (TW ++ [32]))) w := fun w => run_strAdd TW [32] (by rw [len1]; omega) w
            have q2 : ∀ w, (Op.stringOp .add (strB (TW ++ [32])) (strB x.dst)).run Tryz.prog w = .ok (.string (strB (TW ++ [32] ++ x.dst))) w := fun w => run_strAdd _ _ (by rw [List.length_append, len1]; omega) w
            have d5 : w3.cell? ⟨G, 5, none⟩ = some (.string (strB x.dst)) := HK3.out.cell 5
            rw [show ((2 : Nat) : Int) = 2 from rfl] at *
            clear hlw
            generalize strB (TW ++ [32] ++ x.dst) = S3 at *
            generalize strB (TW ++ [32]) = S2 at *
            generalize strB TW = S1 at *
            generalize strB x.dst = X at *
            go_wp2
            go_roundw
            case rel => exact ⟨k + 1, by omega, by go_num, by rw [HSL.out], HB3⟩
            case measure => simp [intOf]; omega
          · rw [rest3] at k9 hlw
            simp only [List.length_append, len1, lenGo] at hlw
            have e9 : TW ++ ([32] ++ numL 10 x.n ++ cGo ++ x.dst) = TW ++ [32] ++ numL 10 x.n ++ cGo ++ x.dst := by simp
            rw [e9] at k9
            have q1 : ∀ w, (Op.stringOp .add (strB TW) ⟨#[32]⟩).run Tryz.prog w = .ok (.string (strB (TW ++ [32]))) w := fun w => run_strAdd TW [32] (by rw [len1]; omega) w
            have q3 : ∀ w, (Op.stringOp .add (strB (TW ++ [32])) (strB (numL 10 x.n))).run Tryz.prog w = .ok (.string (strB (TW ++ [32] ++ numL 10 x.n))) w := fun w => run_strAdd _ _ (by simp only [List.length_append, len1]; omega) w
            have q4 : ∀ w, (Op.stringOp .add (strB (TW ++ [32] ++ numL 10 x.n)) ⟨#[32, 103, 111, 32]⟩).run Tryz.prog w = .ok (.string (strB (TW ++ [32] ++ numL 10 x.n ++ cGo))) w := fun w => run_strAdd _ cGo (by simp only [List.length_append, len1, lenGo]; omega) w
            have q5 : ∀ w, (Op.stringOp .add (strB (TW ++ [32] ++ numL 10 x.n ++ cGo)) (strB x.dst)).run Tryz.prog w = .ok (.string (strB (TW ++ [32] ++ numL 10 x.n ++ cGo ++ x.dst))) w := fun w => run_strAdd _ _ (by simp only [List.length_append, len1, lenGo]; omega) w
            have HD := keepHid (fun w => lnum_any x.n ⟨hn40, hfn.2⟩ w)
            have d4 := fun q os => cell_regrown (show w3.cell? ⟨G, 4, none⟩ = some (.int .i64 x.n) from HK3.out.cell 4) q os
            have d5 := fun q os => cell_regrown (show w3.cell? ⟨G, 5, none⟩ = some (.string (strB x.dst)) from HK3.out.cell 5) q os
            have CI := keepHid (fun d os => Calls.regrown_of (HD.out (Sort.grow (redrawn w3 d) os)))
            rw [show ((3 : Nat) : Int) = 3 from rfl] at *
            clear hlw e9 HD
            generalize strB (TW ++ [32] ++ numL 10 x.n ++ cGo ++ x.dst) = R5 at *
            generalize strB (TW ++ [32] ++ numL 10 x.n ++ cGo) = R4 at *
            generalize strB (TW ++ [32] ++ numL 10 x.n) = R3 at *
            generalize strB (TW ++ [32]) = R2 at *
            generalize strB TW = R1 at *
            generalize strB (numL 10 x.n) = Q2 at *
            generalize strB x.dst = D at *
            generalize x.n = NN at *
            go_upto_region 31 with fail
            refine wp_region_quiet_below (by kernel_rfl) (by kernel_rfl) ?_
            repeat (go_big_quiet_step (first | (with_reducible exact CI.out _ _)))
            refine wpQuiet_nil ?_
            intro _ hw'
            obtain ⟨⟨dq, osq⟩, hw''⟩ := hw'
            subst hw''
            have HB5 := keepHid (HB3.out.trans ((below_regrown w3 dq osq).mono HB3.out.size))
            clear d4 d5 CI
            go_wp2
            go_roundw
            case rel => exact ⟨k + 1, by omega, by go_num, by rw [HSL.out], HB5⟩
            case measure => simp [intOf]; omega
          · rw [rest4, List.append_nil] at k9
            rw [show ((4 : Nat) : Int) = 4 from rfl] at *
            clear hlw
            generalize strB TW = S1 at *
            go_wp2
            go_roundw
            case rel => exact ⟨k + 1, by omega, by go_num, by rw [HSL.out], HB3⟩
            case measure => simp [intOf]; omega
          · rw [rest5, List.append_nil] at k9
            rw [show ((5 : Nat) : Int) = 5 from rfl] at *
            clear hlw
            generalize strB TW = S1 at *
            go_wp2
            go_roundw
            case rel => exact ⟨k + 1, by omega, by go_num, by rw [HSL.out], HB3⟩
            case measure => simp [intOf]; omega
    · obtain rfl : k = n := by omega
      have hall : ss.take k = ss := List.take_of_length_le (by rw [HN.out]; exact Nat.le_refl _)
      rw [hall]
      clear hall
      go_wp2
      go_ret
      exact ⟨rfl, HB.out⟩
end Go.Proofs.YtdjmfapbaoddoaaGreatDoor
