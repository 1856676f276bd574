/-
  What the statements' own helpers answer: digits, names, the bytes that a file is told by.
-/
import Derived.Test.YtipajdjcmgkcbaaDoorHeaderMake
import Derived.WalkKit
import Derived.ProofKit
import Derived.WalkLawsBesides
import Derived.IntWalk
import Derived.RegionTactic
import Derived.BigRegion
import Derived.ChangeAlike
import Derived.Deep.QuietTactic
import Derived.BigQuiet
import Derived.Deep.RegionHeld3
import Derived.Deep.DrawnRows
import Derived.Outline
namespace Go.Proofs.YtipajdjcmgkcbaaDoor
open Go.RowKit
set_option linter.unusedVariables false

theorem one_digit (n : Nat) (hn : n < 10) (w : World) : (Instr.slice 9 (.string ⟨#[48, 49, 50, 51, 52, 53, 54, 55, 56, 57]⟩) (some (.int .i64 (n : Int))) (some (.int .i64 ((n : Int) + 1))) none).run Tryd.prog w = .ok (.string (strB [UInt8.ofNat (48 + n)])) w := by
  rcases (by omega : n = 0 ∨ n = 1 ∨ n = 2 ∨ n = 3 ∨ n = 4 ∨ n = 5 ∨ n = 6 ∨ n = 7 ∨ n = 8 ∨ n = 9) with rfl | rfl | rfl | rfl | rfl | rfl | rfl | rfl | rfl | rfl <;> kernel_rfl

theorem digits10_any (n : Nat) (hn : n < 4294967296) : ∀ w : World,
    Calls Tryd.prog 23 #[.int .i64 (n : Int), .int .i64 10] w fun e w' => e = .returned (.string (strB (digs 10 n))) ∧ ∃ k, w' = w.drewN k := by
  induction n using Nat.strongRecOn with
  | ind n ih =>
    intro w
    by_cases h : n < 10
    · have HD := digs_lt h
      have hs := one_digit n (by omega)
      rw [← HD] at hs
      generalize digs 10 n = D at *
      clear HD
      have h1 : (n : Int) < 10 := by omega
      clear ih
      go_enter Tryd.func23, Tryd.ntmps23
      go_wp2
      go_ret
      exact ⟨rfl, 0, rfl⟩
    · have HD := keepHid (digs_ge (b := 10) (by omega) (Nat.le_of_not_lt h))
      have h1 := ih (n / 10) (by omega) (by omega)
      have h2 := ih (n % 10) (by omega) (by omega)
      rw [digs_lt (Nat.mod_lt n (by omega))] at h2
      have hdl := digs_len (b := 10) (by omega) 33 (n / 10) (by omega) (by omega)
      have hadd := fun w => run_strAdd (P := Tryd.prog) (digs 10 (n / 10)) [UInt8.ofNat (48 + n % 10)] (by simp; omega) w
      rw [← HD.out] at hadd
      generalize digs 10 n = D at *
      generalize digs 10 (n / 10) = D1 at *
      generalize [UInt8.ofNat (48 + n % 10)] = D2 at *
      have e1 : ((n : Int) / 10) = ((n / 10 : Nat) : Int) := by omega
      have e2 : ((n : Int) % 10) = ((n % 10 : Nat) : Int) := by omega
      have hge : ¬ (n : Int) < 10 := by omega
      obtain ⟨q, hq⟩ : ∃ q, n / 10 = q := ⟨_, rfl⟩
      obtain ⟨r, hr⟩ : ∃ r, n % 10 = r := ⟨_, rfl⟩
      rw [hq] at e1 h1
      rw [hr] at e2 h2
      have H1 := keepHid h1
      have H2 := keepHid h2
      clear hq hr h1 h2 ih HD hdl
      go_enter Tryd.func23, Tryd.ntmps23
      go_wp2
      go_quiet (first
        | (go_at_call 23; (with_reducible refine Calls.quiet_of (H1.out _)))
        | (go_at_call 23; (with_reducible refine Calls.quiet_of (H2.out _))))
      go_wp2
      go_ret
      exact ⟨rfl, _, rfl⟩

theorem digits8_any (n : Nat) (hn : n < 4294967296) : ∀ w : World,
    Calls Tryd.prog 23 #[.int .i64 (n : Int), .int .i64 8] w fun e w' => e = .returned (.string (strB (digs 8 n))) ∧ ∃ k, w' = w.drewN k := by
  induction n using Nat.strongRecOn with
  | ind n ih =>
    intro w
    by_cases h : n < 8
    · have HD := digs_lt h
      have hs := one_digit n (by omega)
      rw [← HD] at hs
      generalize digs 8 n = D at *
      clear HD
      have h1 : (n : Int) < 8 := by omega
      clear ih
      go_enter Tryd.func23, Tryd.ntmps23
      go_wp2
      go_ret
      exact ⟨rfl, 0, rfl⟩
    · have HD := keepHid (digs_ge (b := 8) (by omega) (Nat.le_of_not_lt h))
      have h1 := ih (n / 8) (by omega) (by omega)
      have h2 := ih (n % 8) (by omega) (by omega)
      rw [digs_lt (Nat.mod_lt n (by omega))] at h2
      have hdl := digs_len (b := 8) (by omega) 33 (n / 8) (by omega) (by omega)
      have hadd := fun w => run_strAdd (P := Tryd.prog) (digs 8 (n / 8)) [UInt8.ofNat (48 + n % 8)] (by simp; omega) w
      rw [← HD.out] at hadd
      generalize digs 8 n = D at *
      generalize digs 8 (n / 8) = D1 at *
      generalize [UInt8.ofNat (48 + n % 8)] = D2 at *
      have e1 : ((n : Int) / 8) = ((n / 8 : Nat) : Int) := by omega
      have e2 : ((n : Int) % 8) = ((n % 8 : Nat) : Int) := by omega
      have hge : ¬ (n : Int) < 8 := by omega
      obtain ⟨q, hq⟩ : ∃ q, n / 8 = q := ⟨_, rfl⟩
      obtain ⟨r, hr⟩ : ∃ r, n % 8 = r := ⟨_, rfl⟩
      rw [hq] at e1 h1
      rw [hr] at e2 h2
      have H1 := keepHid h1
      have H2 := keepHid h2
      clear hq hr h1 h2 ih HD hdl
      go_enter Tryd.func23, Tryd.ntmps23
      go_wp2
      go_quiet (first
        | (go_at_call 23; (with_reducible refine Calls.quiet_of (H1.out _)))
        | (go_at_call 23; (with_reducible refine Calls.quiet_of (H2.out _))))
      go_wp2
      go_ret
      exact ⟨rfl, _, rfl⟩

/-! ### Names by numbers -/
def pickL : List UInt8 := [97, 98, 99, 88, 89, 90, 48, 49, 46, 45, 95]
def pickB (n : UInt8) : UInt8 := pickL.getD (n.toNat % 11) 0
def nmL (ns : List UInt8) : List UInt8 := 102 :: (ns.take 8).map pickB
theorem pick_within (n : UInt8) : withinB (pickB n) = true := by
  have key : ∀ i : Fin 11, withinB (pickL.getD i.val 0) = true := by decide
  exact key ⟨n.toNat % 11, Nat.mod_lt _ (by omega)⟩
theorem nm_name (ns : List UInt8) : nameB (nmL ns) = true := by
  have hl : (nmL ns).length ≤ 9 := by unfold nmL; simp; omega
  unfold nameB
  have h1 : (nmL ns).all withinB = true := by
    unfold nmL
    rw [List.all_cons, List.all_map]
    have : (ns.take 8).all (withinB ∘ pickB) = true := List.all_eq_true.2 fun x _ => pick_within x
    rw [this]; rfl
  have h2 : 1 ≤ (nmL ns).length := by unfold nmL; simp
  rw [h1, decide_eq_true h2, decide_eq_true (by omega : (nmL ns).length ≤ 32)]
  rfl
theorem one_pick (d : Nat) (hd : d < 11) (w : World) : (Instr.slice 9 (.string ⟨#[97, 98, 99, 88, 89, 90, 48, 49, 46, 45, 95]⟩) (some (.int .u8 (d : Int))) (some (.int .u8 ((d : Int) + 1))) none).run Tryd.prog w = .ok (.string (strB [pickL.getD d 0])) w := by
  rcases (by omega : d = 0 ∨ d = 1 ∨ d = 2 ∨ d = 3 ∨ d = 4 ∨ d = 5 ∨ d = 6 ∨ d = 7 ∨ d = 8 ∨ d = 9 ∨ d = 10) with rfl | rfl | rfl | rfl | rfl | rfl | rfl | rfl | rfl | rfl | rfl <;> kernel_rfl
theorem nm_step {ns : List UInt8} {k : Nat} {c : UInt8} (h : ns[k]? = some c) (hk : k < 8) : 102 :: ((ns.take k).take 8).map pickB ++ [pickB c] = 102 :: ((ns.take (k + 1)).take 8).map pickB := by
  rw [List.take_succ_of h, List.take_take, Nat.min_eq_right (by omega)]
  have : (ns.take k ++ [c]).length ≤ 8 := by simp; omega
  rw [List.take_of_length_le this]
  simp
theorem nm_stay {ns : List UInt8} {k : Nat} (hk : 8 ≤ k) : ((ns.take k).take 8).map pickB = ((ns.take (k + 1)).take 8).map pickB := by
  rw [List.take_take, List.take_take, Nat.min_eq_left hk, Nat.min_eq_left (by omega)]
theorem nm_any (A : Option Addr) (n c B : Nat) (ns : List UInt8) (w : World) (h : Bys w B A n ns) :
    Calls Tryd.prog 10 #[.slice A n c] w fun e w' => e = .returned (.string (strB (nmL ns))) ∧ w = w' := by
  have hl := h.len
  have HE : Hid (ns.take n = ns) := keepHid (by rw [← hl, List.take_length])
  have HS : Hid (∀ (k : Nat) (c : UInt8), ns[k]? = some c → k < 8 → 102 :: ((ns.take k).take 8).map pickB ++ [pickB c] = 102 :: ((ns.take (k + 1)).take 8).map pickB) := keepHid fun k c h hk => nm_step h hk
  have HT : Hid (∀ (k : Nat), 8 ≤ k → ((ns.take k).take 8).map pickB = ((ns.take (k + 1)).take 8).map pickB) := keepHid fun k hk => nm_stay hk
  have HL : Hid (∀ k, (102 :: ((ns.take k).take 8).map pickB).length ≤ 9) := keepHid fun k => by simp; omega
  have HH := keepHid h
  have HM := h.max
  clear h hl
  go_enter Tryd.func10, Tryd.ntmps10
  go_wp2
  go_loop [8, 3] (fun i s => ∃ k : Nat, k ≤ n ∧ i = .int .i64 k ∧ s = .string (strB (102 :: ((ns.take k).take 8).map pickB))) (fun i _ => n - (intOf i).toNat)
  case atStart => exact ⟨0, Nat.zero_le _, rfl, rfl⟩
  case round =>
    obtain ⟨k, hk, rfl, rfl⟩ := hrel
    by_cases hlt : k < n
    · obtain ⟨ad, x, rfl, _, hx, hcell⟩ := HH.out.at_ hlt
      by_cases h8 : k < 8
      · have hs := HS.out k x hx h8
        have hl9 := HL.out k
        have hadd := fun w => run_strAdd (P := Tryd.prog) (102 :: ((ns.take k).take 8).map pickB) [pickB x] (by simp at hl9 ⊢; omega) w
        rw [hs] at hadd
        obtain ⟨d, hd⟩ : ∃ d, x.toNat % 11 = d := ⟨_, rfl⟩
        have hp := one_pick d (by omega)
        have hpd : pickL.getD d 0 = pickB x := by unfold pickB; rw [hd]
        rw [hpd] at hp
        have e1 : ((x.toNat : Int) % 11) = (d : Int) := by omega
        have e2 : (d : Int) + 1 ≤ 11 := by omega
        have hu := u8lt x
        have h8' : (k : Int) < 8 := by omega
        generalize 102 :: ((ns.take k).take 8).map pickB = S at *
        generalize hS1 : 102 :: ((ns.take (k + 1)).take 8).map pickB = S1 at *
        have HS1 := keepHid hS1
        clear hs hl9 hx hpd hS1
        generalize x.toNat = xn at *
        clear hd
        go_wp2
        go_round
        case rel => exact ⟨k + 1, by omega, by go_num, by rw [HS1.out]⟩
        case measure => simp [intOf]; omega
      · have ht := HT.out k (by omega)
        have h8' : ¬ (k : Int) < 8 := by omega
        generalize ((ns.take k).take 8).map pickB = S at *
        have HS1 := keepHid ht
        clear ht hx
        go_wp2
        go_round
        case rel => exact ⟨k + 1, by omega, by go_num, by rw [HS1.out]⟩
        case measure => simp [intOf]; omega
    · obtain rfl : k = n := by omega
      have hS1 : 102 :: ((ns.take k).take 8).map pickB = nmL ns := by rw [HE.out]; rfl
      generalize 102 :: ((ns.take k).take 8).map pickB = S at *
      have HS1 := keepHid hS1
      clear hS1
      go_wp2
      go_ret
      exact ⟨by rw [← HS1.out]; rfl, rfl⟩

/-! ### What the document says of a name, and of a file -/
set_option maxHeartbeats 4000000 in
theorem lname_any (l : List UInt8) (hl : l.length ≤ 9223372036854775807) (w : World) :
    Calls Tryd.prog 17 #[.string (strB l)] w fun e w' => e = .returned (.bool (nameB l)) ∧ w = w' := by
  have hsz : (strB l).size = l.length := strB_size l
  obtain ⟨N, hNl⟩ : ∃ N, l.length = N := ⟨_, rfl⟩
  have HN : Hid (nameB l = (decide (1 ≤ N) && decide (N ≤ 32) && letterB (l.headD 0) && l.all withinB)) := keepHid (by unfold nameB; rw [hNl])
  have HT : Hid (∀ k d, l[k]? = some d → (l.take (k + 1)).all withinB = ((l.take k).all withinB && withinB d)) := keepHid fun k d h => all_take_succ h
  have HE : Hid (l.take N = l) := keepHid (by rw [← hNl, List.take_length])
  have HG : Hid (∀ k, k < N → ∃ d, l[k]? = some d) := keepHid fun k hk => ⟨_, List.getElem?_eq_getElem (by rw [hNl]; exact hk)⟩
  have HM : Hid (∀ k d, l[k]? = some d → withinB d = false → l.all withinB = false) := keepHid fun k d h hd => by
    rw [Bool.eq_false_iff]
    intro ha
    rw [List.all_eq_true.1 ha d (List.mem_of_getElem? h)] at hd
    cases hd
  have HH : Hid (∀ d, l[0]? = some d → l.headD 0 = d) := keepHid fun d h => by
    rcases l with _ | ⟨y, r⟩
    · simp at h
    · simpa using h
  have HZ : Hid (N = 0 → l = []) := keepHid fun h => List.eq_nil_of_length_eq_zero (by omega)
  rw [hNl] at hsz hl
  clear hNl
  go_enter Tryd.func17, Tryd.ntmps17
  go_wp2
  go_loop [3] (fun i => ∃ k : Nat, k ≤ N ∧ i = .int .i64 k ∧ (l.take k).all withinB = true ∧ (0 < k → letterB (l.headD 0) = true)) (fun i => N - (intOf i).toNat)
  case atStart => exact ⟨0, Nat.zero_le _, rfl, rfl, by omega⟩
  case round =>
    obtain ⟨k, hk, rfl, hall, hhd⟩ := hrel
    have HA := keepHid hall
    have HD := keepHid hhd
    clear hall hhd
    rcases Nat.lt_or_ge k N with hkN | hkN
    · obtain ⟨d, hd⟩ := HG.out k hkN
      have hidx := fun w => run_idx hd k rfl w
      have HK := keepHid hd
      obtain ⟨n, hn⟩ : ∃ n, d.toNat = n := ⟨_, rfl⟩
      have hlt : n < 256 := by rw [← hn]; exact d.toNat_lt
      have HL : Hid (letterB d = true ↔ ((97 ≤ n ∧ n ≤ 122) ∨ (65 ≤ n ∧ n ≤ 90))) := keepHid (by unfold letterB; rw [hn]; simp)
      have HW : Hid (withinB d = true ↔ (((97 ≤ n ∧ n ≤ 122) ∨ (65 ≤ n ∧ n ≤ 90)) ∨ (48 ≤ n ∧ n ≤ 57) ∨ n = 46 ∨ n = 45 ∨ n = 95)) := keepHid (by unfold withinB letterB; rw [hn]; simp [or_assoc])
      have HNW : Hid (withinB d = false → nameB l = false) := keepHid (by intro h; rw [HN.out, HM.out k d HK.out h]; simp)
      rcases Nat.eq_zero_or_pos k with hk0 | hk0
      · subst hk0
        have HNO : Hid (letterB d = false → nameB l = false) := keepHid (by intro h; rw [HN.out, HH.out d HK.out, h]; simp)
        have HYES : Hid (withinB d = true → letterB d = true → (l.take 1).all withinB = true ∧ (0 < 1 → letterB (l.headD 0) = true)) := keepHid (fun h1 h2 => ⟨by rw [HT.out 0 d HK.out, HA.out, h1]; rfl, fun _ => by rw [HH.out d HK.out]; exact h2⟩)
        have hidx := fun w => run_idx hd 0 rfl w
        rw [hn] at hidx
        clear hn hd
        go_wp2
        all_goals first
          | (go_ret
             exact ⟨ret_bool (HNO.out (Bool.eq_false_iff.2 fun h => by have := HL.out.1 h; clear HL HW HNO HNW HYES hidx; first | omega | (simp at *; omega))).symm, rfl⟩)
          | (go_round
             case rel => exact ⟨1, by omega, by rfl, HYES.out (HW.out.2 (by clear HL HW HNO HNW HYES hidx; first | omega | (simp at *; omega))) (HL.out.2 (by clear HL HW HNO HNW HYES hidx; first | omega | (simp at *; omega)))⟩
             case measure => simp [intOf]; omega)
      · have HYES : Hid (withinB d = true → (l.take (k + 1)).all withinB = true ∧ (0 < k + 1 → letterB (l.headD 0) = true)) := keepHid (fun h1 => ⟨by rw [HT.out k d HK.out, HA.out, h1]; rfl, fun _ => HD.out hk0⟩)
        have hk0' : ((k : Int) == 0) = false := by simp; omega
        rw [hn] at hidx
        clear hn hd
        go_wp2
        all_goals first
          | (go_ret
             exact ⟨ret_bool (HNW.out (Bool.eq_false_iff.2 fun h => by have := HW.out.1 h; clear HL HW HNW HYES hidx; first | omega | (simp at *; omega))).symm, rfl⟩)
          | (go_round
             case rel => exact ⟨k + 1, by omega, by go_num, HYES.out (HW.out.2 (by clear HL HW HNW HYES hidx; first | omega | (simp at *; omega)))⟩
             case measure => simp [intOf]; omega)
    · obtain rfl : k = N := by omega
      have HF : Hid (nameB l = (decide (1 ≤ k) && decide (k ≤ 32))) := keepHid (by
        have h1 := HA.out
        rw [HE.out] at h1
        rw [HN.out, h1]
        rcases Nat.eq_zero_or_pos k with h0 | h0
        · subst h0; rfl
        · rw [HD.out h0]; simp)
      clear HN HT HE HG HM HH HZ HA HD
      go_wp2
      all_goals
        go_ret
        exact ⟨ret_bool (by rw [HF.out, Bool.eq_iff_iff]; clear HF; simp at * <;> omega), rfl⟩

set_option maxHeartbeats 4000000 in
theorem lmay_any (f : Fl) (hl : f.name.length ≤ 9223372036854775807) (w : World) :
    Calls Tryd.prog 15 #[flV f] w fun e w' => e = .returned (.bool (mayB f)) ∧ Below w.heap.size w w' := by
  obtain ⟨l, a, b, c⟩ := f
  obtain ⟨w1, hw1⟩ : ∃ w1, w.alloc (.cells #[.string (strB l), .int .i64 a, .int .i64 b, .int .i64 c] 23) = w1 := ⟨_, rfl⟩
  have hc0 : w1.cell? ⟨w.heap.size, 0, none⟩ = some (.string (strB l)) := by rw [← hw1]; exact (Blk.new w _ _).cell 0
  have hc1 : w1.cell? ⟨w.heap.size, 1, none⟩ = some (.int .i64 a) := by rw [← hw1]; exact (Blk.new w _ _).cell 1
  have hc2 : w1.cell? ⟨w.heap.size, 2, none⟩ = some (.int .i64 b) := by rw [← hw1]; exact (Blk.new w _ _).cell 2
  have hc3 : w1.cell? ⟨w.heap.size, 3, none⟩ = some (.int .i64 c) := by rw [← hw1]; exact (Blk.new w _ _).cell 3
  have HB : Hid (Below w.heap.size w w1) := keepHid (by rw [← hw1]; exact (Below.refl _ _).alloc (Nat.le_refl _) _)
  have HM : Hid (mayB ⟨l, a, b, c⟩ = (nameB l && (decide (0 ≤ a) && decide (a ≤ 8192)) && (decide (0 ≤ b) && decide (b ≤ 4294967295)) && (decide (0 ≤ c) && decide (c ≤ 65535)))) := keepHid rfl
  have H0 := keepHid (lname_any l hl)
  generalize nameB l = x0 at *
  generalize mayB ⟨l, a, b, c⟩ = y at *
  show Calls Tryd.prog 15 #[.agg #[.string (strB l), .int .i64 a, .int .i64 b, .int .i64 c]] w _
  cases x0
  all_goals
    go_enter Tryd.func15, Tryd.ntmps15
    go_wp2_with ((with_reducible refine (H0.out _).mono ?_); rintro e w' ⟨rfl, rfl⟩)
    all_goals
      go_ret
      exact ⟨ret_bool (by rw [HM.out, Bool.eq_iff_iff]; clear HM H0 HB; simp at * <;> omega), HB.out⟩
end Go.Proofs.YtipajdjcmgkcbaaDoor
