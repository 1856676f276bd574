/-
  A talk without noise, plain.
-/
import Derived.Test.YtjbkhaoddababaaLinkBounds
namespace Go.Proofs.Ytjbkhaoddababaa
set_option linter.unusedVariables false

/-- Both at the beginning. -/
def startL (p : LP) (R : Nat) : Lk := ⟨newS p.W p.crc, newR 1 1 R, [], 0⟩
/-- The receiver that has taken piece k. -/
def took (p : LP) (k tr : Nat) : Rd := if k < p.bl.length then rat p (k + 1) tr p.V [] else stopR (rat p k tr p.V [4]) 0
theorem took_put {p : LP} (hp : LOk p) {k tr c : Nat} (hk : k ≤ p.bl.length) : putR p.crc true p.V (rat p k tr c []) (pc p k) = ([6], took p k tr) := by
  unfold took
  by_cases h : k < p.bl.length
  · rw [if_pos h]
    have := rput_block hp (tr := tr) (c := c) h []
    rwa [List.append_nil] at this
  · rw [if_neg h]
    obtain rfl : k = p.bl.length := by omega
    rw [pc_end]
    exact rput_eot
theorem new_rat (p : LP) (R : Nat) : newR 1 1 R = rat p 0 R 1 [] := by
  unfold newR rat
  rw [flat_zero]
  rfl
theorem new_s (p : LP) : newS p.W p.crc = ⟨0, 0, p.crc, 0, 1, p.W, false⟩ := rfl
theorem stick_start {p : LP} (hW : 2 ≤ p.W) : tickS p.bl p.T p.W (newS p.W p.crc) = ([], ⟨0, 0, p.crc, 0, 1, p.W - 1, false⟩) := by
  unfold tickS
  rw [if_neg (by simp [newS]), if_pos (by show 1 < p.W; omega)]
  rfl
/-- The first tick: piece 0 is sent. -/
theorem step_start {p : LP} (hp : LOk p) (hW : 2 ≤ p.W) (ns : List Nz) {R : Nat} (hR : 0 < R) :
    stepL p ns (startL p R) = ⟨sat p 0 1 p.W, (putR p.crc true p.V (rat p 0 (R - 1) p.V []) (arr ns 0 (pc p 0))).2, (putR p.crc true p.V (rat p 0 (R - 1) p.V []) (arr ns 0 (pc p 0))).1, 1⟩ := by
  refine step_some (x := startL p R) (o := [goB p.crc]) (d0 := []) (d1 := pc p 0) (d := pc p 0) (r1 := rat p 0 (R - 1) p.V []) (s1 := ⟨0, 0, p.crc, 0, 1, p.W - 1, false⟩) ?_ (stick_start hW) ?_ ?_ rfl (pc_ne p 0) rfl
  · show tickR p.crc p.V (newR 1 1 R) = _
    rw [new_rat p R]
    exact rtick_ask (Nat.le_refl _) hR
  · show feedO p _ [goB p.crc] = _
    rw [feedO_one, put_start hp]
  · show feedS p _ [goB p.crc] = _
    rw [feedS_one, put_start hp]
theorem took_tick {p : LP} (hV : 2 ≤ p.V) (k tr : Nat) : ∃ r, tickR p.crc p.V (took p k tr) = ([], r) ∧ ((k < p.bl.length ∧ r = rat p (k + 1) tr (p.V - 1) []) ∨ (¬ k < p.bl.length ∧ r = took p k tr)) := by
  by_cases h : k < p.bl.length
  · refine ⟨_, ?_, .inl ⟨h, rfl⟩⟩
    unfold took
    rw [if_pos h]
    exact rtick_more (by omega)
  · refine ⟨_, ?_, .inr ⟨h, rfl⟩⟩
    unfold took
    rw [if_neg h]
    exact rtick_over rfl
/-- An answer that takes piece k: the next one is sent. -/
theorem step_ack {p : LP} (hp : LOk p) (hW : 2 ≤ p.W) (hV : 2 ≤ p.V) (ns : List Nz) {k i tr j : Nat} (hk : k < p.bl.length) :
    stepL p ns ⟨sat p k i p.W, took p k tr, [6], j⟩ = ⟨sat p (k + 1) 1 p.W, (putR p.crc true p.V (rat p (k + 1) tr (p.V - 1) []) (arr ns j (pc p (k + 1)))).2, (putR p.crc true p.V (rat p (k + 1) tr (p.V - 1) []) (arr ns j (pc p (k + 1)))).1, j + 1⟩ := by
  refine step_some (x := ⟨sat p k i p.W, took p k tr, [6], j⟩) (o := []) (d0 := []) (d1 := pc p (k + 1)) (d := pc p (k + 1)) (r1 := rat p (k + 1) tr (p.V - 1) []) (s1 := sat p k i (p.W - 1)) ?_ (tick_more (by omega)) ?_ ?_ rfl (pc_ne p _) rfl
  · show tickR p.crc p.V (took p k tr) = _
    unfold took
    rw [if_pos hk]
    exact rtick_more (by omega)
  · show feedO p _ [6] = _
    rw [feedO_one, put_ack hp hk]
  · show feedS p _ [6] = _
    rw [feedS_one, put_ack hp hk]
/-- The answer to the end: both are over. -/
theorem step_end {p : LP} (hW : 2 ≤ p.W) (ns : List Nz) {i tr j : Nat} :
    stepL p ns ⟨sat p p.bl.length i p.W, took p p.bl.length tr, [6], j⟩ = ⟨⟨3, p.bl.length, p.crc, 0, 1, p.W, false⟩, took p p.bl.length tr, [], j⟩ := by
  refine step_none (x := ⟨sat p p.bl.length i p.W, took p p.bl.length tr, [6], j⟩) (o := []) (d0 := []) (d1 := []) (s1 := sat p p.bl.length i (p.W - 1)) ?_ (tick_more (by omega)) ?_ ?_ rfl
  · show tickR p.crc p.V (took p p.bl.length tr) = _
    unfold took
    rw [if_neg (Nat.lt_irrefl _)]
    exact rtick_over rfl
  · show feedO p _ [6] = _
    rw [feedO_one, put_end]
  · show feedS p _ [6] = _
    rw [feedS_one, put_end]
theorem sat_not_over (p : LP) (k i a : Nat) (r : Rd) (up : List UInt8) (j : Nat) : overL ⟨sat p k i a, r, up, j⟩ = false := by
  have := sat3 p k i a
  unfold overL
  have e : ((sat p k i a).ph == 3) = false := by simpa using this
  show ((sat p k i a).ph == 3 && r.ov) = false
  rw [e]; rfl
theorem start_not_over (p : LP) (R : Nat) : overL (startL p R) = false := rfl
theorem runX_step {p : LP} {ns : List Nz} {n : Nat} {x : Lk} {o : Bool × Nat × Nat} (h : overL x = false) : runX p ns (n + 1) x o = ((runX p ns n (stepL p ns x) (false, x.s.err, x.r.er)).1, (runX p ns n (stepL p ns x) (false, x.s.err, x.r.er)).2.1 + 1, (runX p ns n (stepL p ns x) (false, x.s.err, x.r.er)).2.2) := by
  show (if overL x = true then _ else _) = _
  rw [if_neg (by rw [h]; simp)]
theorem runX_stop {p : LP} {ns : List Nz} {n : Nat} {x : Lk} {o : Bool × Nat × Nat} (h : overL x = true) : runX p ns (n + 1) x o = (x, 0, (true, x.s.err, x.r.er)) := by
  show (if overL x = true then _ else _) = _
  rw [if_pos h]
/-- Noise that does nothing up to some place. -/
def Still (ns : List Nz) (m : Nat) : Prop := ∀ j, j < m → ∀ x, arr ns j x = x
theorem still_none (m : Nat) : Still [] m := fun j _ x => by unfold arr; simp
/-- Behind the answer to piece k, all to come. -/
theorem run_acks {p : LP} (hp : LOk p) (hW : 2 ≤ p.W) (hV : 2 ≤ p.V) (ns : List Nz) (hs : Still ns (p.bl.length + 1)) (tr : Nat) : ∀ (q k N : Nat) (o : Bool × Nat × Nat), k + q = p.bl.length → q + 2 ≤ N →
    runX p ns N ⟨sat p k 1 p.W, took p k tr, [6], k + 1⟩ o = (⟨⟨3, p.bl.length, p.crc, 0, 1, p.W, false⟩, took p p.bl.length tr, [], p.bl.length + 1⟩, q + 1, (true, 0, 0))
  | 0, k, N, o, hk, hN => by
    obtain rfl : k = p.bl.length := by omega
    obtain ⟨N', rfl⟩ : ∃ N', N = N' + 1 + 1 := ⟨N - 2, by omega⟩
    rw [runX_step (sat_not_over _ _ _ _ _ _ _), step_end hW, runX_stop (by unfold overL took; rw [if_neg (Nat.lt_irrefl _)]; rfl)]
    unfold took
    rw [if_neg (Nat.lt_irrefl _)]
    rfl
  | q + 1, k, N, o, hk, hN => by
    obtain ⟨N', rfl⟩ : ∃ N', N = N' + 1 := ⟨N - 1, by omega⟩
    rw [runX_step (sat_not_over _ _ _ _ _ _ _), step_ack hp hW hV ns (by omega), hs (k + 1) (by omega), took_put hp (by omega), run_acks hp hW hV ns hs tr q (k + 1) N' _ (by omega) (by omega)]
/-- Without noise all is taken. -/
theorem run_clean {p : LP} (hp : LOk p) (hW : 2 ≤ p.W) (hV : 2 ≤ p.V) (ns : List Nz) (hs : Still ns (p.bl.length + 1)) {R : Nat} (hR : 0 < R) {N : Nat} (hN : p.bl.length + 3 ≤ N) (o : Bool × Nat × Nat) :
    runX p ns N (startL p R) o = (⟨⟨3, p.bl.length, p.crc, 0, 1, p.W, false⟩, took p p.bl.length (R - 1), [], p.bl.length + 1⟩, p.bl.length + 2, (true, 0, 0)) := by
  obtain ⟨N', rfl⟩ : ∃ N', N = N' + 1 := ⟨N - 1, by omega⟩
  rw [runX_step (start_not_over p R), step_start hp hW ns hR, hs 0 (by omega), took_put hp (Nat.zero_le _), run_acks hp hW hV ns hs (R - 1) p.bl.length 0 N' _ (by omega) (by omega)]
theorem took_da (p : LP) (tr : Nat) : (took p p.bl.length tr).da = flat p p.bl.length := by unfold took; rw [if_neg (Nat.lt_irrefl _)]; rfl
end Go.Proofs.Ytjbkhaoddababaa
