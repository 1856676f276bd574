/-
  More ticks lead on from where fewer did, plain.
-/
import Derived.Test.YtjbkhaoddababaaLinkClean
namespace Go.Proofs.Ytjbkhaoddababaa
set_option linter.unusedVariables false

theorem take_da (cl : Bool) (s : Rd) (num : UInt8) (d : List UInt8) : s.da <+: (takeR cl s num d).2.da := by
  unfold takeR finR stopR
  repeat' split
  all_goals first | exact List.prefix_refl _ | exact List.prefix_append _ _
theorem rput_da (crc cl : Bool) (V : Nat) (s : Rd) (b : List UInt8) : s.da <+: (putR crc cl V s b).2.da := by
  unfold putR
  split
  · exact List.prefix_refl _
  unfold seeR
  split
  · exact List.prefix_refl _
  split
  · exact List.prefix_refl _
  split
  · exact List.prefix_refl _
  unfold scanR
  split
  · exact List.prefix_refl _
  split
  · exact List.prefix_refl _
  · exact take_da cl { s with tk := V, bu := [] } _ _
theorem rtick_da (crc : Bool) (V : Nat) (s : Rd) : (tickR crc V s).2.da = s.da := by
  unfold tickR askR stopR
  repeat' split
  all_goals rfl
theorem step_grow (p : LP) (ns : List Nz) (x : Lk) : x.sent ≤ (stepL p ns x).sent ∧ x.r.da <+: (stepL p ns x).r.da := by
  have h := rtick_da p.crc p.V x.r
  unfold stepL
  simp only
  split
  · exact ⟨Nat.le_refl _, by rw [h]; exact List.prefix_refl _⟩
  · refine ⟨Nat.le_succ _, ?_⟩
    have := rput_da p.crc true p.V (tickR p.crc p.V x.r).2 (arr ns x.sent ((tickS p.bl p.T p.W x.s).1 ++ feedO p (tickS p.bl p.T p.W x.s).2 (x.up ++ (tickR p.crc p.V x.r).1)))
    rwa [h] at this
theorem run_grow (p : LP) (ns : List Nz) : ∀ (q : Nat) (x : Lk) (o : Bool × Nat × Nat), x.sent ≤ (runX p ns q x o).1.sent ∧ x.r.da <+: (runX p ns q x o).1.r.da
  | 0, x, o => ⟨Nat.le_refl _, List.prefix_refl _⟩
  | q + 1, x, o => by
    unfold runX
    split
    · exact ⟨Nat.le_refl _, List.prefix_refl _⟩
    · have h1 := step_grow p ns x
      have h2 := run_grow p ns q (stepL p ns x) (false, x.s.err, x.r.er)
      exact ⟨Nat.le_trans h1.1 h2.1, h1.2.trans h2.2⟩
theorem run_more (p : LP) (ns : List Nz) (q : Nat) : ∀ (N : Nat) (x : Lk) (o : Bool × Nat × Nat), o.1 = false →
    (runX p ns N x o).2.1 ≤ (runX p ns (N + q) x o).2.1 ∧ (runX p ns N x o).1.sent ≤ (runX p ns (N + q) x o).1.sent ∧ (runX p ns N x o).1.r.da <+: (runX p ns (N + q) x o).1.r.da ∧ ((runX p ns N x o).2.2.1 = true → runX p ns (N + q) x o = runX p ns N x o)
  | 0, x, o, ho => by
    have h := run_grow p ns (0 + q) x o
    exact ⟨Nat.zero_le _, h.1, h.2, fun e => by rw [show (runX p ns 0 x o).2.2.1 = o.1 from rfl, ho] at e; cases e⟩
  | N + 1, x, o, ho => by
    rw [show N + 1 + q = (N + q) + 1 by omega]
    by_cases hov : overL x = true
    · rw [runX_stop hov, runX_stop hov]
      exact ⟨Nat.le_refl _, Nat.le_refl _, List.prefix_refl _, fun _ => rfl⟩
    · have hov' : overL x = false := by simpa using hov
      rw [runX_step hov', runX_step hov']
      have ih := run_more p ns q N (stepL p ns x) (false, x.s.err, x.r.er) rfl
      exact ⟨Nat.succ_le_succ ih.1, ih.2.1, ih.2.2.1, fun e => by rw [ih.2.2.2 e]⟩
theorem run_data_le (p : LP) (ns : List Nz) : ∀ (N : Nat) (x : Lk) (o : Bool × Nat × Nat) (d b k : Nat), Rb d b k x.r → x.up.length ≤ 2 → (runX p ns N x o).1.r.da.length ≤ d + 1024 * N
  | 0, x, o, d, b, k, h, hu => by have := h.da; show x.r.da.length ≤ _; omega
  | N + 1, x, o, d, b, k, h, hu => by
    unfold runX
    split
    · have := h.da; show x.r.da.length ≤ _; omega
    · have h1 := h.tick p.crc p.V
      have h2 : ∃ b' k', Rb (d + 1024) b' k' (stepL p ns x).r ∧ (stepL p ns x).up.length ≤ 2 := by
        unfold stepL
        simp only
        split
        · exact ⟨b, k, ⟨Nat.le_trans h1.da (by omega), h1.bu, h1.bl⟩, by simp⟩
        · exact ⟨_, _, h1.put p.crc true p.V _, rput_out _ _ _ _ _⟩
      obtain ⟨b', k', h3, h4⟩ := h2
      have := run_data_le p ns N (stepL p ns x) (false, x.s.err, x.r.er) _ _ _ h3 h4
      show (runX p ns N (stepL p ns x) (false, x.s.err, x.r.er)).1.r.da.length ≤ _
      omega
end Go.Proofs.Ytjbkhaoddababaa
