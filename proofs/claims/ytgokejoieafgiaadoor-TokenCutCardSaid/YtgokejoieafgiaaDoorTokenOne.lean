/-
  The token that begins a text, by the law's own reading.
-/
import Derived.Test.YtgokejoieafgiaaDoorTokenFirst
import Derived.Test.YtgokejoieafgiaaDoorTokenDigits
import Derived.Test.YtgokejoieafgiaaDoorTokenMap
import Derived.Deep.DeepCutAuto
namespace Go.Proofs.YtgokejoieafgiaaDoor
open Go.RowKit
set_option linter.unusedVariables false

theorem let_rng : ∀ n : Fin 256, letL.contains (UInt8.ofNat n.val) = (decide (97 ≤ n.val) && decide (n.val ≤ 122)) := by decide +kernel
theorem dec_rng : ∀ n : Fin 256, decL.contains (UInt8.ofNat n.val) = (decide (48 ≤ n.val) && decide (n.val ≤ 57)) := by decide +kernel
theorem let_is (c : UInt8) : letL.contains c = (decide (97 ≤ c.toNat) && decide (c.toNat ≤ 122)) := by
  have h := let_rng ⟨c.toNat, u8lt c⟩
  have e : UInt8.ofNat c.toNat = c := by simp
  simpa only [e] using h
theorem dec_is (c : UInt8) : decL.contains c = (decide (48 ≤ c.toNat) && decide (c.toNat ≤ 57)) := by
  have h := dec_rng ⟨c.toNat, u8lt c⟩
  have e : UInt8.ofNat c.toNat = c := by simp
  simpa only [e] using h
theorem sign_not : ∀ c ∈ signL, letL.contains c = false ∧ decL.contains c = false ∧ c ≠ 34 := by decide
/-- A run, read byte by byte. -/
def RunAt (set l : List UInt8) (i k : Nat) : Prop := (runOf set (l.drop i)).length = (k - i) + (runOf set (l.drop k)).length
theorem runAt_0 (set l : List UInt8) (i : Nat) : RunAt set l i i := by unfold RunAt; omega
theorem runAt_step {set l : List UInt8} {i k : Nat} {c : UInt8} (h : RunAt set l i k) (hk : l[k]? = some c) (hi : i ≤ k) (hc : set.contains c = true) : RunAt set l i (k + 1) := by
  unfold RunAt at h ⊢
  have e : runOf set (l.drop k) = c :: runOf set (l.drop (k + 1)) := by
    rw [drop_at hk]
    unfold runOf
    rw [List.takeWhile_cons_of_pos (by simpa using hc)]
  rw [h, e, List.length_cons]; omega
theorem runAt_stop {set l : List UInt8} {i k : Nat} {c : UInt8} (h : RunAt set l i k) (hk : l[k]? = some c) (hc : set.contains c = false) : (runOf set (l.drop i)).length = k - i := by
  unfold RunAt at h
  have e : runOf set (l.drop k) = [] := by
    rw [drop_at hk]
    unfold runOf
    rw [List.takeWhile_cons_of_neg (by rw [hc]; decide)]
  rw [h, e]; rfl
theorem runAt_end {set l : List UInt8} {i k : Nat} (h : RunAt set l i k) (hk : l.length ≤ k) : (runOf set (l.drop i)).length = k - i := by
  unfold RunAt at h
  rw [h, List.drop_of_length_le hk]; rfl

set_option maxRecDepth 100000 in
set_option maxHeartbeats 4000000 in
theorem one_sign (c : UInt8) (r : List UInt8) (hl : (c :: r).length ≤ 4096) (hs : signL.contains c = true) (w : World) :
    Calls Tryd.prog 23 #[.string (strB (c :: r))] w fun e w' => e = .returned (resV (firstT (c :: r))) ∧ Below w.heap.size w w' := by
  obtain ⟨w1, hw1⟩ : ∃ w1, w.alloc (.cells #[.int .i64 0, .string ⟨#[]⟩, .int .i64 0, .int .i64 0] 36) = w1 := ⟨_, rfl⟩
  have HR := keepHid (tok_new w w1 hw1)
  obtain ⟨c0, c1, c2, c3, cf⟩ := blk4 HR.out.1
  have hidx := fun w => run_idx (l := c :: r) (k := 0) (c := c) rfl 0 rfl w
  obtain ⟨n1, n2, n3⟩ := sign_not c (List.contains_iff_mem.1 hs)
  have HV := keepHid (first_sign (r := r) n1 n2 n3 hs)
  have HI : Hid (∀ w, Calls Tryd.prog 22 #[.int .u8 (c.toNat : Int), .string ⟨#[58, 59, 44, 123, 125]⟩] w fun e w' => e = .returned (.bool true) ∧ w' = w) := keepHid fun w => by
    have := in_any signL c (by decide) w
    rw [hs] at this
    exact this
  have hcut : ∀ w, (Instr.slice 9 (.string (strB (c :: r))) none (some (.int .i64 1)) none).run Tryd.prog w = .ok (.string (strB [c])) w := fun w => run_upto (l := c :: r) (k := 1) (by simp) 1 rfl w
  generalize (c.toNat : Int) = cn at *
  clear n1 n2 n3 hs
  go_enter Tryd.func23, Tryd.ntmps23
  go_wp2_with ((with_reducible refine (HI.out _).mono ?_); rintro e w' ⟨rfl, rfl⟩)
  refine bodyPost_ret (tok_res rfl _ _ w.heap.size 4 (strB [c]) 0 0 (put4 HR.out.1) rfl _ rfl) rfl ?_
  exact ⟨by rw [HV.out]; rfl, set4 HR.out.2 (Nat.le_refl _) _ _ _ _⟩

set_option maxRecDepth 100000 in
set_option maxHeartbeats 4000000 in
theorem one_word (c : UInt8) (r : List UInt8) (hl : (c :: r).length ≤ 4096) (hs : signL.contains c = false) (hlet : letL.contains c = true) (w : World) :
    Calls Tryd.prog 23 #[.string (strB (c :: r))] w fun e w' => e = .returned (resV (firstT (c :: r))) ∧ Below w.heap.size w w' := by
  obtain ⟨w1, hw1⟩ : ∃ w1, w.alloc (.cells #[.int .i64 0, .string ⟨#[]⟩, .int .i64 0, .int .i64 0] 36) = w1 := ⟨_, rfl⟩
  have HR := keepHid (tok_new w w1 hw1)
  obtain ⟨c0, c1, c2, c3, cf⟩ := blk4 HR.out.1
  have hidx := fun w => run_idx (l := c :: r) (k := 0) (c := c) rfl 0 rfl w
  have HV := keepHid (first_let (r := r) hlet)
  have HI : Hid (∀ w, Calls Tryd.prog 22 #[.int .u8 (c.toNat : Int), .string ⟨#[58, 59, 44, 123, 125]⟩] w fun e w' => e = .returned (.bool false) ∧ w' = w) := keepHid fun w => by
    have := in_any signL c (by decide) w
    rw [hs] at this
    exact this
  have HW : Hid (∀ (d : UInt8) w, Calls Tryd.prog 22 #[.int .u8 (d.toNat : Int), .string ⟨#[97, 98, 99, 100, 101, 102, 103, 104, 105, 106, 107, 108, 109, 110, 111, 112, 113, 114, 115, 116, 117, 118, 119, 120, 121, 122, 48, 49, 50, 51, 52, 53, 54, 55, 56, 57, 45]⟩] w fun e w' => e = .returned (.bool (wordL.contains d)) ∧ w' = w) := keepHid fun d w => in_any wordL d (by decide) w
  have h97 : (97 : Int) ≤ (c.toNat : Int) ∧ (c.toNat : Int) ≤ 122 := by
    rw [let_is] at hlet
    simp only [Bool.and_eq_true, decide_eq_true_eq] at hlet
    omega
  obtain ⟨h97a, h97b⟩ := h97
  have HS0 : Hid (RunAt wordL (c :: r) 0 1) := keepHid (runAt_step (runAt_0 _ _ _) (c := c) rfl (Nat.le_refl _) (let_word c (List.contains_iff_mem.1 hlet)))
  generalize (c.toNat : Int) = cn at *
  clear hs hlet
  obtain ⟨l, hL⟩ : ∃ l, c :: r = l := ⟨_, rfl⟩
  have h1 : 1 ≤ l.length := by rw [← hL]; simp
  rw [hL] at hl HV hidx HS0 ⊢
  have hlen : (strB l).size = l.length := strB_size l
  obtain ⟨N, hN⟩ : ∃ N, l.length = N := ⟨_, rfl⟩
  have HN := keepHid hN
  rw [hN] at hlen hl h1
  have HFIN : Hid (∀ k, (runOf wordL l).length = k → firstT l = some (⟨1, l.take k, 0, 0⟩, k)) := keepHid fun k hk => by rw [HV.out, ← hk, runOf_take]
  clear hN hL HV
  go_enter Tryd.func23, Tryd.ntmps23
  go_wp2_with ((with_reducible refine (HI.out _).mono ?_); rintro e w' ⟨rfl, rfl⟩)
  clear hidx HI
  go_loop [4] (fun v => ∃ k : Nat, v = .int .i64 (k : Int) ∧ 1 ≤ k ∧ k ≤ N ∧ Hid (RunAt wordL l 0 k)) (fun v => N - (intOf v).toNat)
  case atStart => exact ⟨1, rfl, Nat.le_refl _, h1, HS0⟩
  case round =>
    obtain ⟨k, rfl, hk1, hk, HA⟩ := hrel
    have hcut : ∀ w, (Instr.slice 9 (.string (strB l)) none (some (.int .i64 (k : Int))) none).run Tryd.prog w = .ok (.string (strB (l.take k))) w := fun w => run_upto (by rw [HN.out]; exact hk) _ rfl w
    by_cases hkN : k < N
    · obtain ⟨d, hd⟩ : ∃ d, l[k]? = some d := ⟨_, List.getElem?_eq_getElem (by rw [HN.out]; exact hkN)⟩
      have hix := fun w => run_idx hd (k : Int) rfl w
      have HWD := keepHid (HW.out d)
      have hkI : (k : Int) < (N : Int) := by omega
      cases hwd : wordL.contains d with
      | true =>
        have HA1 := keepHid (runAt_step HA.out hd (Nat.zero_le _) hwd)
        rw [hwd] at HWD
        generalize (d.toNat : Int) = dn at *
        clear hd hwd HA hcut
        go_wp2_with ((with_reducible refine (HWD.out _).mono ?_); rintro e w' ⟨rfl, rfl⟩)
        go_round
        case rel => exact ⟨k + 1, by go_num, by omega, by omega, HA1⟩
        case measure => simp [intOf]; omega
      | false =>
        have HV : Hid (resV (firstT l) = .tuple #[.agg (tkA 1 (strB (l.take k)) 0 0), .int .i64 (k : Int)]) := keepHid (by rw [HFIN.out k (by have := runAt_stop HA.out hd hwd; simpa using this)]; rfl)
        rw [hwd] at HWD
        generalize (d.toNat : Int) = dn at *
        generalize strB (l.take k) = S at *
        clear hd hwd HA
        go_wp2_with ((with_reducible refine (HWD.out _).mono ?_); rintro e w' ⟨rfl, rfl⟩)
        refine bodyPost_ret (tok_res rfl _ _ w.heap.size 1 S 0 0 (put4 HR.out.1) rfl _ rfl) rfl ?_
        exact ⟨by rw [HV.out]; rfl, set4 HR.out.2 (Nat.le_refl _) _ _ _ _⟩
    · obtain rfl : k = N := by omega
      have HV : Hid (resV (firstT l) = .tuple #[.agg (tkA 1 (strB (l.take k)) 0 0), .int .i64 (k : Int)]) := keepHid (by rw [HFIN.out k (by have := runAt_end HA.out (by rw [HN.out]; exact Nat.le_refl _); simpa using this)]; rfl)
      generalize strB (l.take k) = S at *
      go_wp2
      refine bodyPost_ret (tok_res rfl _ _ w.heap.size 1 S 0 0 (put4 HR.out.1) rfl _ rfl) rfl ?_
      exact ⟨by rw [HV.out]; rfl, set4 HR.out.2 (Nat.le_refl _) _ _ _ _⟩

set_option maxRecDepth 100000 in
set_option maxHeartbeats 4000000 in
theorem one_none (c : UInt8) (r : List UInt8) (hl : (c :: r).length ≤ 4096) (hs : signL.contains c = false) (hlet : letL.contains c = false) (hdec : decL.contains c = false) (h34 : c ≠ 34) (w : World) :
    Calls Tryd.prog 23 #[.string (strB (c :: r))] w fun e w' => e = .returned (resV (firstT (c :: r))) ∧ Below w.heap.size w w' := by
  obtain ⟨w1, hw1⟩ : ∃ w1, w.alloc (.cells #[.int .i64 0, .string ⟨#[]⟩, .int .i64 0, .int .i64 0] 36) = w1 := ⟨_, rfl⟩
  have HR := keepHid (tok_new w w1 hw1)
  obtain ⟨c0, c1, c2, c3, cf⟩ := blk4 HR.out.1
  have hidx := fun w => run_idx (l := c :: r) (k := 0) (c := c) rfl 0 rfl w
  have HI : Hid (∀ w, Calls Tryd.prog 22 #[.int .u8 (c.toNat : Int), .string ⟨#[58, 59, 44, 123, 125]⟩] w fun e w' => e = .returned (.bool false) ∧ w' = w) := keepHid fun w => by
    have := in_any signL c (by decide) w
    rw [hs] at this
    exact this
  have HV : Hid (resV (firstT (c :: r)) = .tuple #[.agg (tkA 0 ⟨#[]⟩ 0 0), .int .i64 0]) := keepHid (by rw [first_no hlet hdec h34 hs]; rfl)
  have hn : c.toNat ≠ 34 := fun h => h34 (UInt8.toNat_inj.1 h)
  have h1 : ¬ (97 ≤ c.toNat ∧ c.toNat ≤ 122) := fun h => by rw [let_is, decide_eq_true h.1, decide_eq_true h.2] at hlet; cases hlet
  have h2 : ¬ (48 ≤ c.toNat ∧ c.toNat ≤ 57) := fun h => by rw [dec_is, decide_eq_true h.1, decide_eq_true h.2] at hdec; cases hdec
  have e34 : ((c.toNat : Int) == 34) = false := by simp; omega
  have h1' : ∀ h : (97 : Int) ≤ (c.toNat : Int), ¬ (c.toNat : Int) ≤ 122 := fun h k => h1 (by omega)
  have h2' : ∀ h : (48 : Int) ≤ (c.toNat : Int), ¬ (c.toNat : Int) ≤ 57 := fun h k => h2 (by omega)
  generalize resV (firstT (c :: r)) = V at *
  generalize (c.toNat : Int) = cn at *
  clear h1 h2 hn hlet hdec h34 hs
  have HH1 := keepHid h1'
  have HH2 := keepHid h2'
  clear h1' h2'
  rcases (show (¬ (97 : Int) ≤ cn ∧ ¬ (48 : Int) ≤ cn) ∨ (¬ (97 : Int) ≤ cn ∧ (48 : Int) ≤ cn ∧ ¬ cn ≤ 57) ∨ ((97 : Int) ≤ cn ∧ ¬ cn ≤ 122 ∧ (48 : Int) ≤ cn ∧ ¬ cn ≤ 57) by
    by_cases q1 : (97 : Int) ≤ cn
    · exact .inr (.inr ⟨q1, HH1.out q1, by omega, by omega⟩)
    · by_cases q2 : (48 : Int) ≤ cn
      · exact .inr (.inl ⟨q1, q2, HH2.out q2⟩)
      · exact .inl ⟨q1, q2⟩) with ⟨q1, q2⟩ | ⟨q1, q2, q3⟩ | ⟨q1, q2, q3, q4⟩
  all_goals
    go_enter Tryd.func23, Tryd.ntmps23
    go_wp2_with ((with_reducible refine (HI.out _).mono ?_); rintro e w' ⟨rfl, rfl⟩)
    refine bodyPost_ret (tok_res rfl _ _ w.heap.size 0 ⟨#[]⟩ 0 0 (put4 HR.out.1) rfl _ rfl) rfl ?_
    exact ⟨by rw [HV.out]; rfl, set4 HR.out.2 (Nat.le_refl _) _ _ _ _⟩

theorem esc_in {c : UInt8} : escL.contains c = (escD c).isSome := by
  have h : ∀ n : Fin 256, escL.contains (UInt8.ofNat n.val) = (escD (UInt8.ofNat n.val)).isSome := by decide +kernel
  have h := h ⟨c.toNat, u8lt c⟩
  have e : UInt8.ofNat c.toNat = c := by simp
  simpa only [e] using h
theorem prn_34 : prn 34 = true := by decide
theorem prn_92 : prn 92 = true := by decide
/-- What holds in the loop over a text. -/
structure TxL (w : World) (l : List UInt8) (k : Nat) (acc : List UInt8) (wr : World) : Prop where
  res : Blk wr w.heap.size 36 #[.int .i64 0, .string ⟨#[]⟩, .int .i64 0, .int .i64 0]
  bel : Below w.heap.size w wr
  stx : Stx l k acc
  one : 1 ≤ k
  len : acc.length < k
set_option maxRecDepth 100000 in
set_option maxHeartbeats 8000000 in
theorem one_text (c : UInt8) (r : List UInt8) (hl : (c :: r).length ≤ 4096) (hs : signL.contains c = false) (h34 : c = 34) (w : World) :
    Calls Tryd.prog 23 #[.string (strB (c :: r))] w fun e w' => e = .returned (resV (firstT (c :: r))) ∧ Below w.heap.size w w' := by
  obtain ⟨w1, hw1⟩ : ∃ w1, w.alloc (.cells #[.int .i64 0, .string ⟨#[]⟩, .int .i64 0, .int .i64 0] 36) = w1 := ⟨_, rfl⟩
  have HR := keepHid (tok_new w w1 hw1)
  obtain ⟨c0, c1, c2, c3, cf⟩ := blk4 HR.out.1
  have hidx := fun w => run_idx (l := c :: r) (k := 0) (c := c) rfl 0 rfl w
  have HI : Hid (∀ w, Calls Tryd.prog 22 #[.int .u8 (c.toNat : Int), .string ⟨#[58, 59, 44, 123, 125]⟩] w fun e w' => e = .returned (.bool false) ∧ w' = w) := keepHid fun w => by
    have := in_any signL c (by decide) w
    rw [hs] at this
    exact this
  have HV0 := keepHid (first_quo (r := r) h34)
  subst h34
  have hidx' : ∀ w, (Instr.index 9 (.string (strB (34 :: r))) (.int .i64 0)).run Tryd.prog w = .ok (.int .u8 34) w := hidx
  have HI' : Hid (∀ w, Calls Tryd.prog 22 #[.int .u8 34, .string ⟨#[58, 59, 44, 123, 125]⟩] w fun e w' => e = .returned (.bool false) ∧ w' = w) := keepHid HI.out
  clear hidx HI hs
  obtain ⟨l, hL⟩ : ∃ l, 34 :: r = l := ⟨_, rfl⟩
  have h1 : 1 ≤ l.length := by rw [← hL]; simp
  rw [hL] at hl HV0 hidx' ⊢
  rw [HV0.out]
  have hlen : (strB l).size = l.length := strB_size l
  obtain ⟨N, hN⟩ : ∃ N, l.length = N := ⟨_, rfl⟩
  have HN := keepHid hN
  rw [hN] at hlen hl h1
  have HNO : Hid (strT (l.drop 1) = none → resV (textT l) = .tuple #[.agg (tkA 0 ⟨#[]⟩ 0 0), .int .i64 0]) := keepHid fun h => by unfold textT; rw [h]; rfl
  have HYES : Hid (∀ acc k, strT (l.drop 1) = some (acc, k) → resV (textT l) = .tuple #[.agg (tkA 3 (strB acc) 0 0), .int .i64 ((k : Int) + 1)]) := keepHid fun acc k h => by unfold textT; rw [h]; rfl
  generalize resV (textT l) = V at *
  clear hN hL HV0
  have HS0 : Hid (TxL w l 1 [] w1) := keepHid ⟨HR.out.1, HR.out.2, stx_0 l, Nat.le_refl _, by simp⟩
  have hempty : strB [] = ⟨#[]⟩ := rfl
  clear c0 c1 c2 c3 cf
  go_enter Tryd.func23, Tryd.ntmps23
  go_wp2_with ((with_reducible refine (HI'.out _).mono ?_); rintro e w' ⟨rfl, rfl⟩)
  clear hidx' HI' hw1
  go_loopw [11, 12] (fun tv kv wr => ∃ (k : Nat) (acc : List UInt8), tv = .string (strB acc) ∧ kv = .int .i64 (k : Int) ∧ k ≤ N ∧ Hid (TxL w l k acc wr)) (fun _ kv _ => N - (intOf kv).toNat)
  case atStart => exact ⟨1, [], by rw [hempty], rfl, h1, HS0⟩
  case round =>
    obtain ⟨k, acc, rfl, rfl, hk, HX⟩ := hrel
    generalize wr = wq at *
    obtain ⟨c0, c1, c2, c3, cf⟩ := blk4 HX.out.res
    have hk1 := HX.out.one
    by_cases hkN : k < N
    · obtain ⟨ch, hch⟩ : ∃ ch, l[k]? = some ch := ⟨_, List.getElem?_eq_getElem (by rw [HN.out]; exact hkN)⟩
      have hix := fun w => run_idx hch (k : Int) rfl w
      have HCH := keepHid hch
      obtain ⟨cn, hcn⟩ : ∃ cn, ch.toNat = cn := ⟨_, rfl⟩
      have hc256 : cn < 256 := by rw [← hcn]; exact ch.toNat_lt
      have HEQ : Hid (∀ d : UInt8, (ch = d) ↔ cn = d.toNat) := keepHid fun d => by rw [← hcn]; exact ⟨fun h => by rw [h], fun h => UInt8.toNat_inj.1 h⟩
      have HPD : Hid (prn ch = (decide (32 ≤ cn) && decide (cn ≤ 126))) := keepHid (by unfold prn; rw [hcn])
      have hcut1 := fun w => run_cut1 hch (k : Int) ((k : Int) + 1) rfl rfl w
      have hkI : (k : Int) < (N : Int) := by omega
      rw [hcn] at hix
      clear hch hcn
      cases hp : prn ch with
      | false =>
        have h1p : ¬ (32 ≤ cn ∧ cn ≤ 126) := fun h => by rw [HPD.out, decide_eq_true h.1, decide_eq_true h.2] at hp; cases hp
        have HV := keepHid (HNO.out (stx_bad HX.out.stx HCH.out (fun e => by rw [e, prn_34] at hp; cases hp) (fun e => by rw [e, prn_92] at hp; cases hp) hp))
        clear HEQ HPD hp HYES HNO hcut1
        rcases (show cn < 32 ∨ 126 < cn by omega) with q | q
        · have q1 : ¬ (32 : Int) ≤ (cn : Int) := by omega
          go_wp2
          refine bodyPost_ret (tok_res rfl _ _ w.heap.size 0 ⟨#[]⟩ 0 0 (put4 HX.out.res) rfl _ rfl) rfl ?_
          exact ⟨by rw [HV.out]; rfl, set4 HX.out.bel (Nat.le_refl _) _ _ _ _⟩
        · have q1 : (32 : Int) ≤ (cn : Int) := by omega
          have q2 : ¬ (cn : Int) ≤ 126 := by omega
          go_wp2
          refine bodyPost_ret (tok_res rfl _ _ w.heap.size 0 ⟨#[]⟩ 0 0 (put4 HX.out.res) rfl _ rfl) rfl ?_
          exact ⟨by rw [HV.out]; rfl, set4 HX.out.bel (Nat.le_refl _) _ _ _ _⟩
      | true =>
        have hpp : 32 ≤ cn ∧ cn ≤ 126 := by rw [HPD.out] at hp; simpa only [Bool.and_eq_true, decide_eq_true_eq] using hp
        have q1 : (32 : Int) ≤ (cn : Int) := by omega
        have q2 : (cn : Int) ≤ 126 := by omega
        by_cases h34 : cn = 34
        · have HV := keepHid (HYES.out acc k (stx_quote HX.out.stx (by rw [HCH.out, (HEQ.out 34).2 h34]) HX.out.one))
          subst h34
          clear HEQ HPD hp HYES HNO hcut1 hpp
          generalize strB acc = S at *
          go_wp2
          refine bodyPost_ret (tok_res rfl _ _ w.heap.size 3 S 0 0 (put4 HX.out.res) rfl _ rfl) rfl ?_
          exact ⟨by rw [HV.out]; rfl, set4 HX.out.bel (Nat.le_refl _) _ _ _ _⟩
        · have i34 : ((cn : Int) == 34) = false := by simp; omega
          have hacc := HX.out.len
          by_cases h92 : cn = 92
          · have hcase := stx_esc HX.out.stx (by rw [HCH.out, (HEQ.out 92).2 h92]) HX.out.one
            subst h92
            by_cases hk2 : k + 1 < N
            · obtain ⟨ce, hce⟩ : ∃ ce, l[k + 1]? = some ce := ⟨_, List.getElem?_eq_getElem (by rw [HN.out]; exact hk2)⟩
              have hix2 := fun w => run_idx hce ((k : Int) + 1) (by omega) w
              have hcut2 := fun w => run_cut1 hce ((k : Int) + 1) ((k : Int) + 1 + 1) (by omega) (by omega) w
              have hcut2' := fun w => run_cut1 hce ((k : Int) + 1) ((k : Int) + 2) (by omega) (by omega) w
              have hk2I : (k : Int) + 1 < (N : Int) := by omega
              have HIN : Hid (∀ w, Calls Tryd.prog 22 #[.int .u8 (ce.toNat : Int), .string ⟨#[34, 92, 114, 110]⟩] w fun e w' => e = .returned (.bool (escD ce).isSome) ∧ w' = w) := keepHid fun w => by
                have := in_any escL ce (by decide) w
                rw [esc_in] at this
                exact this
              have hesc : escV (l.drop (k + 1)) = match escD ce with
                | some d => .tuple #[.int .u8 (d.toNat : Int), .bool true]
                | none => .tuple #[.int .u8 0, .bool false] := by rw [drop_at hce]; rfl
              cases hd : escD ce with
              | none =>
                rw [hd] at hesc HIN
                have hno : strT (l.drop 1) = none := by
                  rcases hcase with ⟨_, hno⟩ | ⟨d, hv, _⟩
                  · exact hno
                  · rw [hesc] at hv; injection hv with hv; injection hv with hv; injection hv with _ hv; injection hv with hv; injection hv with hv; cases hv
                have HV := keepHid (HNO.out hno)
                generalize (ce.toNat : Int) = cen at *
                clear hcase hesc hno HEQ HPD hp HYES HNO hcut1 hcut2 hcut2' hce hd
                go_wp2_with ((with_reducible refine (HIN.out _).mono ?_); rintro e w' ⟨rfl, rfl⟩)
                refine bodyPost_ret (tok_res rfl _ _ w.heap.size 0 ⟨#[]⟩ 0 0 (put4 HX.out.res) rfl _ rfl) rfl ?_
                exact ⟨by rw [HV.out]; rfl, set4 HX.out.bel (Nat.le_refl _) _ _ _ _⟩
              | some d =>
                rw [hd] at hesc HIN
                have hst : Stx l (k + 2) (acc ++ [d]) := by
                  rcases hcase with ⟨hv, _⟩ | ⟨d', hv, _, hst⟩
                  · rw [hesc] at hv; injection hv with hv; injection hv with hv; injection hv with _ hv; injection hv with hv; injection hv with hv; cases hv
                  · have : (d.toNat : Int) = (d'.toNat : Int) := by rw [hesc] at hv; injection hv with hv; injection hv with hv; injection hv with hv _; injection hv
                    have : d = d' := UInt8.toNat_inj.1 (by omega)
                    rw [this]; exact hst
                have HST := keepHid hst
                have HMAP := keepHid (esc_map ce d hd)
                have hadd : ∀ w, (Op.stringOp .add (strB acc) (strB [d])).run Tryd.prog w = .ok (.string (strB (acc ++ [d]))) w := fun w => run_strAdd _ _ (by simp; omega) w
                generalize (ce.toNat : Int) = cen at *
                clear hcase hesc hst HEQ HPD hp HYES HNO hcut1 hce hd
                go_upto_region 33 with ((with_reducible refine (HIN.out _).mono ?_); rintro e w' ⟨rfl, rfl⟩)
                obtain ⟨m1, m2, m3, m4, r1, r2, r3, r4, r5, hbm⟩ := HMAP.out w'
                have HX2 : Hid (TxL w l (k + 2) (acc ++ [d]) m4) := keepHid ⟨HX.out.res.below hbm HX.out.res.lt, HX.out.bel.trans (hbm.mono HX.out.bel.size), HST.out, by omega, by simp; omega⟩
                clear hbm HX HST HMAP c0 c1 c2 c3 cf
                have hmm := @run_makeMap Tryd.prog
                go_wp2
                go_roundw
                case rel => exact ⟨k + 2, _, rfl, by go_num, by omega, HX2⟩
                case measure => simp [intOf]; omega
            · have hk2I : ¬ (k : Int) + 1 < (N : Int) := by omega
              have hno : strT (l.drop 1) = none := by
                rcases hcase with ⟨_, hno⟩ | ⟨d, _, hlt, _⟩
                · exact hno
                · rw [HN.out] at hlt; omega
              have HV := keepHid (HNO.out hno)
              clear hcase hno HEQ HPD hp HYES HNO hcut1
              go_wp2
              refine bodyPost_ret (tok_res rfl _ _ w.heap.size 0 ⟨#[]⟩ 0 0 (put4 HX.out.res) rfl _ rfl) rfl ?_
              exact ⟨by rw [HV.out]; rfl, set4 HX.out.bel (Nat.le_refl _) _ _ _ _⟩
          · have hn1 : ch ≠ 34 := fun e => h34 ((HEQ.out 34).1 e)
            have hn2 : ch ≠ 92 := fun e => h92 ((HEQ.out 92).1 e)
            have i92 : ((cn : Int) == 92) = false := by simp; omega
            have HX2 : Hid (TxL w l (k + 1) (acc ++ [ch]) wq) := keepHid ⟨HX.out.res, HX.out.bel, stx_prn HX.out.stx HCH.out HX.out.one hn1 hn2 hp, by omega, by simp; omega⟩
            have hadd : ∀ w, (Op.stringOp .add (strB acc) (strB [ch])).run Tryd.prog w = .ok (.string (strB (acc ++ [ch]))) w := fun w => run_strAdd _ _ (by simp; omega) w
            clear HEQ HPD hp HYES HNO hn1 hn2 HX
            go_wp2
            go_roundw
            case rel => exact ⟨k + 1, _, rfl, by go_num, by omega, HX2⟩
            case measure => simp [intOf]; omega
    · obtain rfl : k = N := by omega
      have HV := keepHid (HNO.out (stx_end HX.out.stx (by rw [HN.out]; exact Nat.le_refl _)))
      clear HYES HNO
      go_wp2
      refine bodyPost_ret (tok_res rfl _ _ w.heap.size 0 ⟨#[]⟩ 0 0 (put4 HX.out.res) rfl _ rfl) rfl ?_
      exact ⟨by rw [HV.out]; rfl, set4 HX.out.bel (Nat.le_refl _) _ _ _ _⟩
end Go.Proofs.YtgokejoieafgiaaDoor
