/-
  A talk in which all is lost from some time on, plain: the sender gives up.
-/
import Derived.Test.YtjbkhaoddababaaDoorLinkClean
namespace Go.Proofs.YtjbkhaoddababaaDoor
set_option linter.unusedVariables false

/-- Nothing is lost up to L, all is from there on. -/
structure Lossy (p : LP) (ns : List Nz) (L : Nat) : Prop where
  ok : LOk p
  W : 2 ≤ p.W
  V : p.V = p.W
  T9 : p.T ≤ 9
  crc : p.crc = true
  le : L ≤ p.bl.length
  L3 : L ≤ 3
  still : Still ns L
  lost : ∀ j, L ≤ j → j < 60 → ∀ x, arr ns j x = []
/-- Both, and how many ticks it takes at most until the sender gives up. -/
inductive EI (p : LP) (L : Nat) : Nat → Lk → Prop
  | ack (k tr : Nat) (hk : k < L) : EI p L ((L - k) + p.T * (p.W + 1) + p.W + 1) ⟨sat p k 1 p.W, took p k tr, [6], k + 1⟩
  | mute (i a c tr j : Nat) (hi : 1 ≤ i) (hiT : i ≤ p.T) (ha : a ≤ p.W) (hj : L + 1 ≤ j ∧ j ≤ L + i) (h0 : L = 0 → a = c ∧ tr + i = p.T) : EI p L ((p.T - i) * (p.W + 1) + a + 1) ⟨sat p L i a, rat p L tr c [], [], j⟩
  | over (s : Sd) (r : Rd) (up : List UInt8) (j : Nat) (hs : s.ph = 3) (he : s.err = 10) (hd : r.da = flat p L) : EI p L 0 ⟨s, r, up, j⟩
theorem ask_da' (crc : Bool) (V : Nat) (s : Rd) : (tickR crc V s).2.da = s.da := by
  unfold tickR askR stopR
  repeat' split
  all_goals rfl
theorem EI.stay {p : LP} {ns : List Nz} {L : Nat} {s : Sd} {r : Rd} {up : List UInt8} {j : Nat} (hs : s.ph = 3) (he : s.err = 10) (hd : r.da = flat p L) : EI p L 0 (stepL p ns ⟨s, r, up, j⟩) := by
  have hf := feed_over (p := p) (up ++ (tickR p.crc p.V r).1) s hs
  rw [step_none (x := ⟨s, r, up, j⟩) (o := (tickR p.crc p.V r).1) (r1 := (tickR p.crc p.V r).2) (d0 := []) (d1 := []) rfl (tick_over hs) hf.1 rfl rfl]
  exact EI.over _ _ _ j hf.2.1 (by rw [hf.2.2.1]; exact he) (by rw [ask_da']; exact hd)
theorem EI.kept {p : LP} {ns : List Nz} {L : Nat} : ∀ (N : Nat) (s : Sd) (r : Rd) (up : List UInt8) (j : Nat) (o : Bool × Nat × Nat), s.ph = 3 → s.err = 10 → r.da = flat p L → EI p L 0 (runX p ns N ⟨s, r, up, j⟩ o).1
  | 0, s, r, up, j, o, h1, h2, h3 => EI.over s r up j h1 h2 h3
  | N + 1, s, r, up, j, o, h1, h2, h3 => by
    by_cases hov : overL ⟨s, r, up, j⟩ = true
    · rw [runX_stop hov]; exact EI.over s r up j h1 h2 h3
    · have hov' : overL ⟨s, r, up, j⟩ = false := by simpa using hov
      rw [runX_step hov']
      have h := EI.stay (p := p) (ns := ns) (L := L) (up := up) (j := j) h1 h2 h3
      generalize stepL p ns ⟨s, r, up, j⟩ = y at h
      obtain ⟨s', r', up', j'⟩ := y
      cases h with
      | over _ _ _ _ e1 e2 e3 => exact EI.kept N s' r' up' j' _ e1 e2 e3
theorem mul_down {T i U : Nat} (h : i < T) : (T - i) * U = (T - (i + 1)) * U + U := by
  obtain ⟨q, hq⟩ : ∃ q, T - i = q + 1 := ⟨T - i - 1, by omega⟩
  rw [hq, show T - (i + 1) = q by omega, Nat.succ_mul]
/-- A burst that is lost. -/
theorem Lossy.gone {p : LP} {ns : List Nz} {L : Nat} (h : Lossy p ns L) {x : Lk} {o d0 d1 : List UInt8} {r1 : Rd} {s1 s2 : Sd} {j : Nat} (hj : x.sent = j) (hj1 : L ≤ j ∧ j < 60) (hr : tickR p.crc p.V x.r = (o, r1)) (ht : tickS p.bl p.T p.W x.s = (d0, s1)) (hf : feedO p s1 (x.up ++ o) = d1) (hg : feedS p s1 (x.up ++ o) = s2) (hne : d0 ++ d1 ≠ []) :
    stepL p ns x = ⟨s2, r1, [], j + 1⟩ := by
  rw [step_some (d := d0 ++ d1) (a := []) (r2 := r1) hr ht hf hg rfl hne (by rw [hj, h.lost j hj1.1 hj1.2]; exact rput_none), hj]
theorem Lossy.step {p : LP} {ns : List Nz} {L : Nat} (h : Lossy p ns L) {m : Nat} {x : Lk} (hx : EI p L m x) (hm : 0 < m) : overL x = false ∧ ∃ m', m' < m ∧ EI p L m' (stepL p ns x) := by
  have hW := h.W
  have hV := h.V
  have hok := h.ok
  have hT9 := h.T9
  have hL3 := h.L3
  have hle := h.le
  have hT1 := h.ok.T1
  cases hx with
  | ack k tr hk =>
    refine ⟨sat_not_over _ _ _ _ _ _ _, ?_⟩
    have e := step_ack (i := 1) (tr := tr) (j := k + 1) hok hW (by omega) ns (show k < p.bl.length by omega)
    by_cases hkl : k + 1 < L
    · rw [e, h.still (k + 1) hkl, took_put hok (by omega)]
      exact ⟨_, by omega, EI.ack (k + 1) tr hkl⟩
    · obtain rfl : L = k + 1 := by omega
      rw [e, h.lost (k + 1) (Nat.le_refl _) (by omega), rput_none]
      have hmul : p.T * (p.W + 1) = (p.T - 1) * (p.W + 1) + (p.W + 1) := by
        have := mul_down (T := p.T) (i := 0) (U := p.W + 1) (by omega)
        simpa using this
      exact ⟨_, by omega, EI.mute 1 p.W (p.V - 1) tr (k + 1 + 1) (Nat.le_refl _) hT1 (Nat.le_refl _) ⟨by omega, by omega⟩ (fun e => by omega)⟩
  | mute i a c tr j hi hiT ha hj h0 =>
    refine ⟨sat_not_over _ _ _ _ _ _ _, ?_⟩
    have hj60 : L ≤ j ∧ j < 60 := by omega
    rcases Nat.eq_zero_or_pos L with rfl | hLp
    · -- nothing was ever taken: both keep step
      obtain ⟨rfl, htr⟩ := h0 rfl
      by_cases ha1 : 1 < a
      · rw [step_none (x := ⟨sat p 0 i a, rat p 0 tr a [], [], j⟩) (o := []) (d0 := []) (d1 := []) (s1 := sat p 0 i (a - 1)) (rtick_more ha1) (tick_more ha1) rfl rfl rfl]
        exact ⟨_, by omega, EI.mute i (a - 1) (a - 1) tr j hi hiT (by omega) hj (fun _ => ⟨rfl, htr⟩)⟩
      · by_cases hlt : i < p.T
        · have hg : goB p.crc = 67 := by rw [h.crc]; rfl
          have e := h.gone (x := ⟨sat p 0 i a, rat p 0 tr a [], [], j⟩) (o := [67]) (d0 := pc p 0) (d1 := []) (r1 := rat p 0 (tr - 1) p.V []) (s1 := sat p 0 (i + 1) p.W) (s2 := sat p 0 (i + 1) p.W) rfl hj60 (by rw [rtick_ask (by omega) (by omega), hg]) (by show tickS p.bl p.T p.W (sat p 0 i a) = _; rw [tick_now (by omega), again_yes hok hle hlt])
            (by show feedO p _ [67] = _; rw [feedO_one, put_C]) (by show feedS p _ [67] = _; rw [feedS_one, put_C]) (by rw [List.append_nil]; exact pc_ne p 0)
          rw [e]
          have hmul := mul_down (U := p.W + 1) hlt
          exact ⟨_, by omega, EI.mute (i + 1) p.W p.V (tr - 1) (j + 1) (by omega) hlt (Nat.le_refl _) ⟨by omega, by omega⟩ (fun _ => ⟨hV.symm, by omega⟩)⟩
        · obtain rfl : tr = 0 := by omega
          have hf := feed_over (p := p) [24, 24] { sat p 0 i (a - 1) with ph := 3, err := 10 } rfl
          have e := h.gone (x := ⟨sat p 0 i a, rat p 0 0 a [], [], j⟩) (o := [24, 24]) (d0 := [24, 24]) (d1 := []) (r1 := stopR (rat p 0 0 p.V []) 10) (s1 := { sat p 0 i (a - 1) with ph := 3, err := 10 }) (s2 := feedS p { sat p 0 i (a - 1) with ph := 3, err := 10 } [24, 24]) rfl hj60 (rtick_out (by omega)) (by show tickS p.bl p.T p.W (sat p 0 i a) = _; rw [tick_now (by omega), again_no (by omega)]) hf.1 rfl (by simp)
          rw [e]
          exact ⟨0, by omega, EI.over _ _ _ _ hf.2.1 hf.2.2.1 rfl⟩
    · have hnot : ∀ {a' b' : Prop}, L = 0 → a' ∧ b' := fun e => by omega
      by_cases hc : 1 < c
      · have er : tickR p.crc p.V (rat p L tr c []) = ([], rat p L tr (c - 1) []) := rtick_more hc
        by_cases ha1 : 1 < a
        · rw [step_none (x := ⟨sat p L i a, rat p L tr c [], [], j⟩) (o := []) (d0 := []) (d1 := []) (s1 := sat p L i (a - 1)) er (tick_more ha1) rfl rfl rfl]
          exact ⟨_, by omega, EI.mute i (a - 1) (c - 1) tr j hi hiT (by omega) hj (fun e => by omega)⟩
        · by_cases hlt : i < p.T
          · have e := h.gone (x := ⟨sat p L i a, rat p L tr c [], [], j⟩) (d0 := pc p L) (d1 := []) (s1 := sat p L (i + 1) p.W) (s2 := sat p L (i + 1) p.W) rfl hj60 er (by show tickS p.bl p.T p.W (sat p L i a) = _; rw [tick_now (by omega), again_yes hok hle hlt]) rfl rfl (by rw [List.append_nil]; exact pc_ne p L)
            rw [e]
            have hmul := mul_down (U := p.W + 1) hlt
            exact ⟨_, by omega, EI.mute (i + 1) p.W (c - 1) tr (j + 1) (by omega) hlt (Nat.le_refl _) ⟨by omega, by omega⟩ (fun e => by omega)⟩
          · have e := h.gone (x := ⟨sat p L i a, rat p L tr c [], [], j⟩) (d0 := [24, 24]) (d1 := []) (s1 := { sat p L i (a - 1) with ph := 3, err := 10 }) (s2 := { sat p L i (a - 1) with ph := 3, err := 10 }) rfl hj60 er (by show tickS p.bl p.T p.W (sat p L i a) = _; rw [tick_now (by omega), again_no (by omega)]) rfl rfl (by simp)
            rw [e]
            exact ⟨0, by omega, EI.over _ _ _ _ rfl rfl rfl⟩
      · have er : tickR p.crc p.V (rat p L tr c []) = ([21], rat p L tr p.V []) := rtick_nak hok (by omega) hLp hle
        by_cases ha1 : 1 < a
        · by_cases hlt : i < p.T
          · have e := h.gone (x := ⟨sat p L i a, rat p L tr c [], [], j⟩) (d0 := []) (d1 := pc p L) (s1 := sat p L i (a - 1)) (s2 := sat p L (i + 1) p.W) rfl hj60 er (tick_more ha1) (by show feedO p _ [21] = _; rw [feedO_one, put_nak, again_yes hok hle hlt]) (by show feedS p _ [21] = _; rw [feedS_one, put_nak, again_yes hok hle hlt]) (by simpa using pc_ne p L)
            rw [e]
            have hmul := mul_down (U := p.W + 1) hlt
            exact ⟨_, by omega, EI.mute (i + 1) p.W p.V tr (j + 1) (by omega) hlt (Nat.le_refl _) ⟨by omega, by omega⟩ (fun e => by omega)⟩
          · have e := h.gone (x := ⟨sat p L i a, rat p L tr c [], [], j⟩) (d0 := []) (d1 := [24, 24]) (s1 := sat p L i (a - 1)) (s2 := { sat p L i (a - 1) with ph := 3, err := 10 }) rfl hj60 er (tick_more ha1) (by show feedO p _ [21] = _; rw [feedO_one, put_nak, again_no (by omega)]) (by show feedS p _ [21] = _; rw [feedS_one, put_nak, again_no (by omega)]) (by simp)
            rw [e]
            exact ⟨0, by omega, EI.over _ _ _ _ rfl rfl rfl⟩
        · by_cases hlt : i < p.T
          · have e1 : tickS p.bl p.T p.W (sat p L i a) = (pc p L, sat p L (i + 1) p.W) := by rw [tick_now (by omega), again_yes hok hle hlt]
            have hmul := mul_down (U := p.W + 1) hlt
            by_cases hlt2 : i + 1 < p.T
            · have e := h.gone (x := ⟨sat p L i a, rat p L tr c [], [], j⟩) (d0 := pc p L) (d1 := pc p L) (s1 := sat p L (i + 1) p.W) (s2 := sat p L (i + 1 + 1) p.W) rfl hj60 er e1 (by show feedO p _ [21] = _; rw [feedO_one, put_nak, again_yes hok hle hlt2]) (by show feedS p _ [21] = _; rw [feedS_one, put_nak, again_yes hok hle hlt2]) (by have := pc_ne p L; simp [this])
              rw [e]
              have hmul2 := mul_down (U := p.W + 1) hlt2
              exact ⟨_, by omega, EI.mute (i + 1 + 1) p.W p.V tr (j + 1) (by omega) hlt2 (Nat.le_refl _) ⟨by omega, by omega⟩ (fun e => by omega)⟩
            · have e := h.gone (x := ⟨sat p L i a, rat p L tr c [], [], j⟩) (d0 := pc p L) (d1 := [24, 24]) (s1 := sat p L (i + 1) p.W) (s2 := { sat p L (i + 1) p.W with ph := 3, err := 10 }) rfl hj60 er e1 (by show feedO p _ [21] = _; rw [feedO_one, put_nak, again_no (by omega)]) (by show feedS p _ [21] = _; rw [feedS_one, put_nak, again_no (by omega)]) (by simp)
              rw [e]
              exact ⟨0, by omega, EI.over _ _ _ _ rfl rfl rfl⟩
          · have hf := feed_over (p := p) [21] { sat p L i (a - 1) with ph := 3, err := 10 } rfl
            have e := h.gone (x := ⟨sat p L i a, rat p L tr c [], [], j⟩) (d0 := [24, 24]) (d1 := []) (s1 := { sat p L i (a - 1) with ph := 3, err := 10 }) (s2 := feedS p { sat p L i (a - 1) with ph := 3, err := 10 } [21]) rfl hj60 er (by show tickS p.bl p.T p.W (sat p L i a) = _; rw [tick_now (by omega), again_no (by omega)]) hf.1 rfl (by simp)
            rw [e]
            exact ⟨0, by omega, EI.over _ _ _ _ hf.2.1 hf.2.2.1 rfl⟩
  | over s r up j hs he hd => omega
theorem Lossy.runs {p : LP} {ns : List Nz} {L : Nat} (h : Lossy p ns L) : ∀ (N m : Nat) (x : Lk) (o : Bool × Nat × Nat), EI p L m x → m ≤ N → EI p L 0 (runX p ns N x o).1
  | 0, m, x, o, hx, hm => by
    obtain rfl : m = 0 := by omega
    exact hx
  | N + 1, m, x, o, hx, hm => by
    rcases Nat.eq_zero_or_pos m with rfl | hm0
    · cases hx with
      | over s r up j hs he hd => exact EI.kept (N + 1) s r up j o hs he hd
    · obtain ⟨h1, m', h2, h3⟩ := h.step hx hm0
      rw [runX_step h1]
      exact h.runs N m' _ _ h3 (by omega)
/-- The sender gives up, and what was not lost is taken. -/
theorem run_lost {p : LP} {ns : List Nz} {L : Nat} (h : Lossy p ns L) (hW6 : p.W ≤ 99) (o : Bool × Nat × Nat) :
    (runX p ns 2000 (startL p p.T) o).1.s.ph = 3 ∧ (runX p ns 2000 (startL p p.T) o).1.s.err = 10 ∧ (runX p ns 2000 (startL p p.T) o).1.r.da = flat p L := by
  have hT1 := h.ok.T1
  have hT9 := h.T9
  have hW := h.W
  have hV := h.V
  have hL3 := h.L3
  have hmul : p.T * (p.W + 1) ≤ 9 * 100 := Nat.mul_le_mul hT9 (by omega)
  have hmul1 : p.T * (p.W + 1) = (p.T - 1) * (p.W + 1) + (p.W + 1) := by
    have := mul_down (T := p.T) (i := 0) (U := p.W + 1) (by omega)
    simpa using this
  have hend : EI p L 0 (runX p ns 2000 (startL p p.T) o).1 := by
    rw [runX_step (start_not_over p p.T), step_start h.ok hW ns (by omega)]
    rcases Nat.eq_zero_or_pos L with rfl | hLp
    · rw [h.lost 0 (Nat.le_refl _) (by omega), rput_none]
      exact h.runs 1999 _ _ _ (EI.mute 1 p.W p.V (p.T - 1) 1 (Nat.le_refl _) hT1 (Nat.le_refl _) ⟨by omega, by omega⟩ (fun _ => ⟨hV.symm, by omega⟩)) (by omega)
    · rw [h.still 0 hLp, took_put h.ok (Nat.zero_le _)]
      exact h.runs 1999 _ _ _ (EI.ack 0 (p.T - 1) hLp) (by omega)
  generalize (runX p ns 2000 (startL p p.T) o).1 = y at hend
  cases hend with
  | over s r up j hs he hd => exact ⟨hs, he, hd⟩
end Go.Proofs.YtjbkhaoddababaaDoor
