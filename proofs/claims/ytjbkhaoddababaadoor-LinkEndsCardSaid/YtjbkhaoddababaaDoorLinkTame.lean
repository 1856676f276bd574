/-
  A talk with tame noise, plain.
-/
import Derived.Test.YtjbkhaoddababaaDoorLinkClean
namespace Go.Proofs.YtjbkhaoddababaaDoor
set_option linter.unusedVariables false

def BadN (z : Nz) : Prop := z.lost = true ∨ z.by_ ≠ 0
/-- So many bad ones from a place on. -/
def BadRun (ns : List Nz) (a i : Nat) : Prop := ∀ q, q < i → ∃ z, ns[a + q]? = some z ∧ BadN z
structure TameN (ns : List Nz) (T : Nat) : Prop where
  at_ : ∀ (j : Nat) (z : Nz), ns[j]? = some z → z.by_ ≠ 0 → 1 ≤ z.at_ ∧ z.at_ ≤ 100
  run : ∀ a, ¬ BadRun ns a T
theorem BadRun.lt {ns : List Nz} {T a i : Nat} (h : BadRun ns a i) (ht : TameN ns T) : i < T := by
  rcases Nat.lt_or_ge i T with k | k
  · exact k
  · exact absurd (fun q hq => h q (by omega)) (ht.run a)
theorem BadRun.push {ns : List Nz} {a i : Nat} {z : Nz} (h : BadRun ns a i) (hz : ns[a + i]? = some z) (hb : BadN z) : BadRun ns a (i + 1) := fun q hq => by
  rcases Nat.lt_or_ge q i with k | k
  · exact h q k
  · obtain rfl : q = i := by omega
    exact ⟨z, hz, hb⟩
theorem hit_same (x : List UInt8) (z : Nz) (h : z.by_ = 0) : hitL x z = x := by
  unfold hitL
  rw [h]
  rcases Nat.lt_or_ge (hitI x z) x.length with k | k
  · rw [List.getD_eq_getElem?_getD, List.getElem?_eq_getElem k]
    simp
  · rw [List.set_eq_of_length_le k]
theorem pc_len {p : LP} (hp : LOk p) {k : Nat} (hk : k < p.bl.length) : 131 < (pc p k).length := by
  obtain ⟨b, hb, e⟩ := pc_lt hk
  have := szT_pos p.crc
  rw [e, enc_len]
  rcases (hp.num k b hb).2 with h | h <;> omega
theorem hit_at {x : List UInt8} {z : Nz} (h1 : 1 ≤ z.at_) (h2 : z.at_ ≤ 102) (hx : 131 < x.length) : 1 ≤ hitI x z ∧ hitI x z ≤ 102 := by
  unfold hitI
  rw [Int.emod_eq_of_lt (by omega) (by omega)]
  omega
theorem rput_y {p : LP} {j tr c : Nat} {y : UInt8} (hy : y ≠ 4) : putR p.crc true p.V (rat p j tr c []) [y] = ([], rat p j tr p.V [y]) ∨ putR p.crc true p.V (rat p j tr c []) [y] = ([21], rat p j tr p.V []) := by
  rw [rput_see (by simp)]
  unfold seeR
  rw [if_neg (by rintro ⟨_, e⟩; simp [rat] at e; exact hy e), if_neg (by intro e; simp [rat] at e)]
  by_cases h3 : (rat p j tr p.V [y]).bu = [24]
  · rw [if_pos h3]; exact .inl rfl
  rw [if_neg h3]
  unfold scanR
  rcases scan_short (bs := [y]) (crc := p.crc) (by simp) with e | e
  · have e' : (scanL (rat p j tr p.V [y]).bu p.crc).1 = 0 := e
    rw [if_pos e']; exact .inl rfl
  · have e' : (scanL (rat p j tr p.V [y]).bu p.crc).1 = 1 := e
    rw [if_neg (by rw [e']; decide), if_pos e']; exact .inr rfl
theorem xor_ne {a b : UInt8} (h : b ≠ 0) : a ^^^ b ≠ a := fun e => u8_xor_ne (c := a) h e.symm
/-- What comes of piece k that is sent: it is taken, or the noise was bad. -/
theorem sent_out {p : LP} (hp : LOk p) {ns : List Nz} (hn : ∀ (j : Nat) (z : Nz), ns[j]? = some z → z.by_ ≠ 0 → 1 ≤ z.at_ ∧ z.at_ ≤ 102) {k tr c : Nat} (hk : k ≤ p.bl.length) (j : Nat) :
    putR p.crc true p.V (rat p k tr c []) (arr ns j (pc p k)) = ([6], took p k tr) ∨ ((∃ z, ns[j]? = some z ∧ BadN z) ∧
      (putR p.crc true p.V (rat p k tr c []) (arr ns j (pc p k)) = ([21], rat p k tr p.V []) ∨ putR p.crc true p.V (rat p k tr c []) (arr ns j (pc p k)) = ([], rat p k tr c []) ∨
        (k = p.bl.length ∧ ∃ y, putR p.crc true p.V (rat p k tr c []) (arr ns j (pc p k)) = ([], rat p k tr p.V [y])))) := by
  unfold arr
  cases hz : ns[j]? with
  | none => exact .inl (took_put hp hk)
  | some z =>
    show (putR p.crc true p.V _ (if z.lost then [] else hitL (pc p k) z) = _) ∨ _ ∧ (putR p.crc true p.V _ (if z.lost then [] else hitL (pc p k) z) = _ ∨ putR p.crc true p.V _ (if z.lost then [] else hitL (pc p k) z) = _ ∨ _ ∧ ∃ y, putR p.crc true p.V _ (if z.lost then [] else hitL (pc p k) z) = _)
    cases hl : z.lost with
    | true => exact .inr ⟨⟨z, rfl, .inl hl⟩, .inr (.inl (by rw [if_pos rfl]; exact rput_none))⟩
    | false =>
      rw [if_neg (by simp)]
      by_cases hb : z.by_ = 0
      · rw [hit_same _ _ hb]; exact .inl (took_put hp hk)
      · refine .inr ⟨⟨z, rfl, .inr hb⟩, ?_⟩
        have ha := hn j z hz hb
        by_cases hkl : k < p.bl.length
        · left
          have h1 := hit_at ha.1 ha.2 (pc_len hp hkl)
          have h2 := pc_len hp hkl
          have h3 := rput_turned hp (tr := tr) (c := c) hkl [] (hitI (pc p k) z) h1.1 (by omega) z.by_ hb
          rw [List.append_nil] at h3
          exact h3
        · obtain rfl : k = p.bl.length := by omega
          have e1 : hitL (pc p p.bl.length) z = [4 ^^^ z.by_] := by
            rw [pc_end]
            unfold hitL
            have e2 : hitI [4] z = 0 := by
              unfold hitI
              have : z.at_ % ((([4] : List UInt8).length : Nat) : Int) = 0 := by simp
              rw [this]; rfl
            rw [e2]
            rfl
          rw [e1]
          rcases rput_y (p := p) (j := p.bl.length) (tr := tr) (c := c) (y := 4 ^^^ z.by_) (xor_ne hb) with h | h
          · exact .inr (.inr ⟨rfl, _, h⟩)
          · exact .inl h
/-- Both of a talk with tame noise, and how many ticks are left at most. -/
inductive TS (p : LP) (ns : List Nz) : Nat → Lk → Prop
  | ack (k i tr j : Nat) (hk : k ≤ p.bl.length) : TS p ns (20 * (p.bl.length - k) + 2) ⟨sat p k i 3, took p k tr, [6], j⟩
  | nak (k i tr a : Nat) (hk : k ≤ p.bl.length) (hb : BadRun ns a i) (hi : 1 ≤ i) (ht : k = 0 → 18 ≤ 2 * tr + 2 + 3 * (i - 1)) : TS p ns (20 * (p.bl.length - k) + 3 * (4 - i) + 6) ⟨sat p k i 3, rat p k tr 2 [], [21], a + i⟩
  | mute (k i v c tr a : Nat) (bu : List UInt8) (hk : k ≤ p.bl.length) (hb : BadRun ns a i) (hi : 1 ≤ i) (hc : 1 ≤ c ∧ c ≤ 2) (hv : 1 ≤ v ∧ v ≤ 3) (h0 : 0 < k ∨ bu ≠ [] → c + 1 ≤ v) (hbu : bu ≠ [] → k = p.bl.length) (ht : k = 0 → 18 ≤ 2 * tr + c + 3 * (i - 1) + (3 - v)) :
      TS p ns (20 * (p.bl.length - k) + 3 * (4 - i) + v + 3) ⟨sat p k i v, rat p k tr c bu, [], a + i⟩
/-- What is known of a talk with tame noise. -/
structure Tm (p : LP) (ns : List Nz) : Prop where
  ok : LOk p
  W : p.W = 3
  V : p.V = 2
  crc : p.crc = true
  T4 : p.T ≤ 4
  tame : TameN ns p.T
theorem Tm.bound {p : LP} {ns : List Nz} (h : Tm p ns) : ∀ (j : Nat) (z : Nz), ns[j]? = some z → z.by_ ≠ 0 → 1 ≤ z.at_ ∧ z.at_ ≤ 102 := fun j z hz hb => by have := h.tame.at_ j z hz hb; omega
/-- A tick in which piece k is sent, the i-th time. -/
theorem Tm.send {p : LP} {ns : List Nz} (h : Tm p ns) {x : Lk} {k i tr c a : Nat} (hk : k ≤ p.bl.length) (hi : 1 ≤ i) (hb : BadRun ns a (i - 1)) (hc : 1 ≤ c ∧ c ≤ 2) (ht : k = 0 → 18 ≤ 2 * tr + c + 3 * (i - 1))
    (hx : stepL p ns x = ⟨sat p k i 3, (putR p.crc true p.V (rat p k tr c []) (arr ns (a + (i - 1)) (pc p k))).2, (putR p.crc true p.V (rat p k tr c []) (arr ns (a + (i - 1)) (pc p k))).1, a + (i - 1) + 1⟩) :
    ∃ m, m ≤ 20 * (p.bl.length - k) + 3 * (4 - i) + 6 ∧ TS p ns m (stepL p ns x) := by
  have hi4 : i ≤ 4 := by have := hb.lt h.tame; have := h.T4; omega
  rw [hx]
  rcases sent_out h.ok h.bound (tr := tr) (c := c) hk (a + (i - 1)) with e | ⟨⟨z, hz, hbz⟩, e⟩
  · rw [e]
    exact ⟨_, by omega, TS.ack k i tr _ hk⟩
  · have hb2 : BadRun ns a i := by
      have := hb.push hz hbz
      rwa [show i - 1 + 1 = i by omega] at this
    have ej : a + (i - 1) + 1 = a + i := by omega
    rw [ej]
    have hV := h.V
    rcases e with e | e | ⟨hkn, y, e⟩
    · rw [e, hV]
      exact ⟨_, Nat.le_refl _, TS.nak k i tr a hk hb2 hi (fun hk0 => by have := ht hk0; omega)⟩
    · rw [e]
      exact ⟨_, by omega, TS.mute k i 3 c tr a [] hk hb2 hi hc ⟨by omega, by omega⟩ (fun _ => by omega) (fun e => absurd rfl e) (fun hk0 => by have := ht hk0; omega)⟩
    · rw [e, hV]
      exact ⟨_, by omega, TS.mute k i 3 2 tr a [y] hk hb2 hi ⟨by omega, by omega⟩ ⟨by omega, by omega⟩ (fun _ => by omega) (fun _ => hkn) (fun hk0 => by have := ht hk0; omega)⟩
theorem Tm.start {p : LP} {ns : List Nz} (h : Tm p ns) : ∃ m, m ≤ 20 * p.bl.length + 15 ∧ TS p ns m (stepL p ns (startL p 9)) := by
  have e := step_start h.ok (by rw [h.W]; omega) ns (R := 9) (by omega)
  have hW := h.W
  have hV := h.V
  obtain ⟨m, h1, h2⟩ := h.send (x := startL p 9) (k := 0) (i := 1) (tr := 8) (c := 2) (a := 0) (Nat.zero_le _) (Nat.le_refl _) (fun q hq => by omega) ⟨by omega, by omega⟩ (fun _ => by omega) (by rw [e, hW, hV])
  exact ⟨m, by omega, h2⟩
/-- One tick of a talk with tame noise. -/
theorem Tm.step {p : LP} {ns : List Nz} (h : Tm p ns) {m : Nat} {x : Lk} (hx : TS p ns m x) :
    overL x = false ∧ ((∃ m', m' < m ∧ TS p ns m' (stepL p ns x)) ∨ (2 ≤ m ∧ overL (stepL p ns x) = true ∧ (stepL p ns x).s.err = 0 ∧ (stepL p ns x).r.er = 0 ∧ (stepL p ns x).r.da = flat p p.bl.length)) := by
  have hW := h.W
  have hV := h.V
  have hok := h.ok
  cases hx with
  | ack k i tr j hk =>
    refine ⟨sat_not_over _ _ _ _ _ _ _, ?_⟩
    by_cases hkl : k < p.bl.length
    · left
      have e := step_ack (i := i) (tr := tr) (j := j) hok (by omega) (by omega) ns hkl
      rw [hW] at e
      obtain ⟨m', h1, h2⟩ := h.send (x := ⟨sat p k i 3, took p k tr, [6], j⟩) (k := k + 1) (i := 1) (tr := tr) (c := 1) (a := j) (by omega) (Nat.le_refl _) (fun q hq => by omega) ⟨by omega, by omega⟩ (fun e => by omega) (by rw [e, hV]; rfl)
      exact ⟨m', by omega, h2⟩
    · right
      obtain rfl : k = p.bl.length := by omega
      have e := step_end (i := i) (tr := tr) (j := j) (p := p) (by omega) ns
      rw [hW] at e
      rw [e]
      refine ⟨by omega, ?_, rfl, ?_, took_da p tr⟩
      · unfold overL took; rw [if_neg (Nat.lt_irrefl _)]; rfl
      · unfold took; rw [if_neg (Nat.lt_irrefl _)]; rfl
  | nak k i tr a hk hb hi ht =>
    refine ⟨sat_not_over _ _ _ _ _ _ _, .inl ?_⟩
    have hiT := hb.lt h.tame
    have e : stepL p ns ⟨sat p k i 3, rat p k tr 2 [], [21], a + i⟩ = ⟨sat p k (i + 1) 3, (putR p.crc true p.V (rat p k tr 1 []) (arr ns (a + i) (pc p k))).2, (putR p.crc true p.V (rat p k tr 1 []) (arr ns (a + i) (pc p k))).1, a + i + 1⟩ := by
      refine step_some (x := ⟨sat p k i 3, rat p k tr 2 [], [21], a + i⟩) (o := []) (d0 := []) (d1 := pc p k) (d := pc p k) (r1 := rat p k tr 1 []) (s1 := sat p k i 2) (rtick_more (by omega)) (tick_more (by omega)) ?_ ?_ rfl (pc_ne p k) rfl
      · show feedO p _ [21] = _
        rw [feedO_one, put_nak, again_yes hok hk hiT]
      · show feedS p _ [21] = _
        rw [feedS_one, put_nak, again_yes hok hk hiT, hW]
    obtain ⟨m', h1, h2⟩ := h.send (k := k) (i := i + 1) (tr := tr) (c := 1) (a := a) hk (by omega) (by rwa [Nat.add_sub_cancel]) ⟨by omega, by omega⟩ (fun hk0 => by have := ht hk0; omega) (by rw [e, Nat.add_sub_cancel])
    exact ⟨m', by have := h.T4; omega, h2⟩
  | mute k i v c tr a bu hk hb hi hc hv h0 hbu ht =>
    refine ⟨sat_not_over _ _ _ _ _ _ _, .inl ?_⟩
    have hiT := hb.lt h.tame
    have hT4 := h.T4
    have hcc : c = 1 ∨ c = 2 := by omega
    rcases hcc with rfl | rfl
    · rcases Nat.eq_zero_or_pos k with rfl | hkp
      · -- asked for with what begins a talk
        have htr : 0 < tr := by have := ht rfl; omega
        have hg : goB p.crc = 67 := by rw [h.crc]; rfl
        have er : tickR p.crc p.V (rat p 0 tr 1 bu) = ([67], rat p 0 (tr - 1) 2 []) := by rw [rtick_ask (by omega) htr, hg, hV]
        by_cases hv1 : 1 < v
        · have e : stepL p ns ⟨sat p 0 i v, rat p 0 tr 1 bu, [], a + i⟩ = ⟨sat p 0 i (v - 1), rat p 0 (tr - 1) 2 [], [], a + i⟩ := by
            refine step_none (x := ⟨sat p 0 i v, rat p 0 tr 1 bu, [], a + i⟩) (o := [67]) (d0 := []) (d1 := []) (s1 := sat p 0 i (v - 1)) er (tick_more hv1) ?_ ?_ rfl
            · show feedO p _ [67] = _
              rw [feedO_one, put_C]
            · show feedS p _ [67] = _
              rw [feedS_one, put_C]
          rw [e]
          exact ⟨_, by omega, TS.mute 0 i (v - 1) 2 (tr - 1) a [] hk hb hi ⟨by omega, by omega⟩ ⟨by omega, by omega⟩ (fun hh => hh.elim (fun q => absurd q (Nat.lt_irrefl _)) (fun q => absurd rfl q)) (fun hh => absurd rfl hh) (fun _ => by have := ht rfl; omega)⟩
        · obtain rfl : v = 1 := by omega
          have e : stepL p ns ⟨sat p 0 i 1, rat p 0 tr 1 bu, [], a + i⟩ = ⟨sat p 0 (i + 1) 3, (putR p.crc true p.V (rat p 0 (tr - 1) 2 []) (arr ns (a + i) (pc p 0))).2, (putR p.crc true p.V (rat p 0 (tr - 1) 2 []) (arr ns (a + i) (pc p 0))).1, a + i + 1⟩ := by
            refine step_some (x := ⟨sat p 0 i 1, rat p 0 tr 1 bu, [], a + i⟩) (o := [67]) (d0 := pc p 0) (d1 := []) (d := pc p 0) (r1 := rat p 0 (tr - 1) 2 []) (s1 := sat p 0 (i + 1) 3) er ?_ ?_ ?_ (List.append_nil _) (pc_ne p 0) rfl
            · show tickS p.bl p.T p.W (sat p 0 i 1) = _
              rw [tick_now (by omega), again_yes hok hk hiT, hW]
            · show feedO p _ [67] = _
              rw [feedO_one, put_C]
            · show feedS p _ [67] = _
              rw [feedS_one, put_C]
          obtain ⟨m', h1, h2⟩ := h.send (k := 0) (i := i + 1) (tr := tr - 1) (c := 2) (a := a) hk (by omega) (by rwa [Nat.add_sub_cancel]) ⟨by omega, by omega⟩ (fun _ => by have := ht rfl; omega) (by rw [e, Nat.add_sub_cancel])
          exact ⟨m', by omega, h2⟩
      · -- asked for again
        have hvv : 2 ≤ v := h0 (.inl hkp)
        have e : stepL p ns ⟨sat p k i v, rat p k tr 1 bu, [], a + i⟩ = ⟨sat p k (i + 1) 3, (putR p.crc true p.V (rat p k tr 2 []) (arr ns (a + i) (pc p k))).2, (putR p.crc true p.V (rat p k tr 2 []) (arr ns (a + i) (pc p k))).1, a + i + 1⟩ := by
          refine step_some (x := ⟨sat p k i v, rat p k tr 1 bu, [], a + i⟩) (o := [21]) (d0 := []) (d1 := pc p k) (d := pc p k) (r1 := rat p k tr 2 []) (s1 := sat p k i (v - 1)) ?_ (tick_more (by omega)) ?_ ?_ rfl (pc_ne p k) rfl
          · show tickR p.crc p.V (rat p k tr 1 bu) = _
            rw [rtick_nak hok (by omega) hkp hk, hV]
          · show feedO p _ [21] = _
            rw [feedO_one, put_nak, again_yes hok hk hiT]
          · show feedS p _ [21] = _
            rw [feedS_one, put_nak, again_yes hok hk hiT, hW]
        obtain ⟨m', h1, h2⟩ := h.send (k := k) (i := i + 1) (tr := tr) (c := 2) (a := a) hk (by omega) (by rwa [Nat.add_sub_cancel]) ⟨by omega, by omega⟩ (fun hk0 => by omega) (by rw [e, Nat.add_sub_cancel])
        exact ⟨m', by omega, h2⟩
    · have er : tickR p.crc p.V (rat p k tr 2 bu) = ([], rat p k tr 1 bu) := rtick_more (by omega)
      by_cases hv1 : 1 < v
      · have e : stepL p ns ⟨sat p k i v, rat p k tr 2 bu, [], a + i⟩ = ⟨sat p k i (v - 1), rat p k tr 1 bu, [], a + i⟩ :=
          step_none (x := ⟨sat p k i v, rat p k tr 2 bu, [], a + i⟩) (o := []) (d0 := []) (d1 := []) (s1 := sat p k i (v - 1)) er (tick_more hv1) rfl rfl rfl
        rw [e]
        exact ⟨_, by omega, TS.mute k i (v - 1) 1 tr a bu hk hb hi ⟨by omega, by omega⟩ ⟨by omega, by omega⟩ (fun hh => by have := h0 hh; omega) hbu (fun hk0 => by have := ht hk0; omega)⟩
      · obtain rfl : v = 1 := by omega
        have hk0 : k = 0 := by
          rcases Nat.eq_zero_or_pos k with hh | hh
          · exact hh
          · have := h0 (.inl hh); omega
        subst hk0
        obtain rfl : bu = [] := by
          rcases bu with _ | ⟨b, r⟩
          · rfl
          · have := h0 (.inr (by simp)); omega
        have e : stepL p ns ⟨sat p 0 i 1, rat p 0 tr 2 [], [], a + i⟩ = ⟨sat p 0 (i + 1) 3, (putR p.crc true p.V (rat p 0 tr 1 []) (arr ns (a + i) (pc p 0))).2, (putR p.crc true p.V (rat p 0 tr 1 []) (arr ns (a + i) (pc p 0))).1, a + i + 1⟩ := by
          refine step_some (x := ⟨sat p 0 i 1, rat p 0 tr 2 [], [], a + i⟩) (o := []) (d0 := pc p 0) (d1 := []) (d := pc p 0) (r1 := rat p 0 tr 1 []) (s1 := sat p 0 (i + 1) 3) er ?_ rfl rfl (List.append_nil _) (pc_ne p 0) rfl
          show tickS p.bl p.T p.W (sat p 0 i 1) = _
          rw [tick_now (by omega), again_yes hok hk hiT, hW]
        obtain ⟨m', h1, h2⟩ := h.send (k := 0) (i := i + 1) (tr := tr) (c := 1) (a := a) hk (by omega) (by rwa [Nat.add_sub_cancel]) ⟨by omega, by omega⟩ (fun _ => by have := ht rfl; omega) (by rw [e, Nat.add_sub_cancel])
        exact ⟨m', by omega, h2⟩
theorem Tm.runs {p : LP} {ns : List Nz} (h : Tm p ns) : ∀ (N m : Nat) (x : Lk) (o : Bool × Nat × Nat), TS p ns m x → m ≤ N → (runX p ns N x o).2.2 = (true, 0, 0) ∧ (runX p ns N x o).1.r.da = flat p p.bl.length
  | 0, m, x, o, hx, hm => by
    exfalso
    cases hx <;> omega
  | N + 1, m, x, o, hx, hm => by
    obtain ⟨h1, h2⟩ := h.step hx
    rw [runX_step h1]
    rcases h2 with ⟨m', h3, h4⟩ | ⟨h3, h4, h5, h6, h7⟩
    · exact h.runs N m' _ _ h4 (by omega)
    · obtain ⟨N', rfl⟩ : ∃ N', N = N' + 1 := ⟨N - 1, by omega⟩
      rw [runX_stop h4, h5, h6]
      exact ⟨rfl, h7⟩
/-- With tame noise all is taken. -/
theorem run_tame {p : LP} {ns : List Nz} (h : Tm p ns) (o : Bool × Nat × Nat) : (runX p ns 400 (startL p 9) o).2.2 = (true, 0, 0) ∧ (runX p ns 400 (startL p 9) o).1.r.da = flat p p.bl.length := by
  rw [runX_step (start_not_over p 9)]
  obtain ⟨m, h1, h2⟩ := h.start
  exact h.runs 399 m _ _ h2 (by have := h.ok.few; omega)
end Go.Proofs.YtjbkhaoddababaaDoor
