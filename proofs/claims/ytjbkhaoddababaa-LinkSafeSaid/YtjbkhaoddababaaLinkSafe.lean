/-
  A talk with noise that turns bytes behind the number, plain: what is taken is the beginning of what was sent.
-/
import Derived.Test.YtjbkhaoddababaaLinkTame
namespace Go.Proofs.Ytjbkhaoddababaa
set_option linter.unusedVariables false

/-- Both of a talk: what they have. -/
inductive SI (p : LP) : Lk → Prop
  | ack (k i tr j : Nat) (hk : k ≤ p.bl.length) : SI p ⟨sat p k i p.W, took p k tr, [6], j⟩
  | nak (k i tr j : Nat) (hk : k ≤ p.bl.length) (hi : i ≤ p.T) : SI p ⟨sat p k i p.W, rat p k tr p.V [], [21], j⟩
  | mute (k i a c tr : Nat) (bu : List UInt8) (j : Nat) (hk : k ≤ p.bl.length) (hi : i ≤ p.T) (hbu : k < p.bl.length → bu = []) (hl : bu.length ≤ i) : SI p ⟨sat p k i a, rat p k tr c bu, [], j⟩
  | deaf (k i a : Nat) (r : Rd) (j d : Nat) (hk : k ≤ p.bl.length) (hov : r.ov = true) (hd : d ≤ p.bl.length) (hda : r.da = flat p d) : SI p ⟨sat p k i a, r, [], j⟩
  | over (s : Sd) (r : Rd) (up : List UInt8) (j d : Nat) (hs : s.ph = 3) (he : s.err ≠ 0) (hd : d ≤ p.bl.length) (hda : r.da = flat p d) : SI p ⟨s, r, up, j⟩
  | both (s : Sd) (tr j : Nat) (hs : s.ph = 3) : SI p ⟨s, took p p.bl.length tr, [], j⟩
structure Sf (p : LP) (ns : List Nz) : Prop where
  ok : LOk p
  W : 2 ≤ p.W
  V : 2 ≤ p.V
  T9 : p.T ≤ 9
  at_ : ∀ (j : Nat) (z : Nz), ns[j]? = some z → z.by_ ≠ 0 → 1 ≤ z.at_ ∧ z.at_ ≤ 102
/-- Few bytes, whatever waits. -/
theorem rput_few2 {p : LP} {j tr c : Nat} {bu x : List UInt8} (hx : x ≠ []) (hl : bu.length + x.length < 132) :
    putR p.crc true p.V (rat p j tr c bu) x = ([6], stopR (rat p j tr p.V [4]) 0) ∨ putR p.crc true p.V (rat p j tr c bu) x = ([], stopR (rat p j tr p.V [4]) 9) ∨ putR p.crc true p.V (rat p j tr c bu) x = ([], rat p j tr p.V (bu ++ x)) ∨ putR p.crc true p.V (rat p j tr c bu) x = ([21], rat p j tr p.V []) := by
  have h0 : putR p.crc true p.V (rat p j tr c bu) x = seeR p.crc true (rat p j tr p.V (bu ++ x)) := by
    unfold putR
    rw [if_neg (by simp [rat, hx])]
    rfl
  rw [h0]
  unfold seeR
  by_cases h1 : true = true ∧ (rat p j tr p.V (bu ++ x)).bu.head? = some 4
  · rw [if_pos h1]; exact .inl rfl
  rw [if_neg h1]
  by_cases h2 : (rat p j tr p.V (bu ++ x)).bu.take 2 = [24, 24]
  · rw [if_pos h2]; exact .inr (.inl rfl)
  rw [if_neg h2]
  by_cases h3 : (rat p j tr p.V (bu ++ x)).bu = [24]
  · rw [if_pos h3]; exact .inr (.inr (.inl rfl))
  rw [if_neg h3]
  unfold scanR
  rcases scan_short (bs := bu ++ x) (crc := p.crc) (by rw [List.length_append]; exact hl) with e | e
  · have e' : (scanL (rat p j tr p.V (bu ++ x)).bu p.crc).1 = 0 := e
    rw [if_pos e']; exact .inr (.inr (.inl rfl))
  · have e' : (scanL (rat p j tr p.V (bu ++ x)).bu p.crc).1 = 1 := e
    rw [if_neg (by rw [e']; decide), if_pos e']; exact .inr (.inr (.inr rfl))
theorem arr_len (ns : List Nz) (j : Nat) (x : List UInt8) : arr ns j x = [] ∨ (arr ns j x).length = x.length := by
  unfold arr
  split
  · exact .inr rfl
  · split
    · exact .inl rfl
    · exact .inr (by simp [hitL])
theorem few_da {p : LP} {j tr c : Nat} {bu x : List UInt8} (hl : bu.length + x.length < 132) : (putR p.crc true p.V (rat p j tr c bu) x).2.da = flat p j := by
  by_cases hx : x = []
  · rw [hx, rput_none]; rfl
  · rcases rput_few2 (p := p) (j := j) (tr := tr) (c := c) hx hl with e | e | e | e <;> rw [e] <;> rfl
/-- A block that is sent, whatever stands behind it. -/
theorem Sf.block {p : LP} {ns : List Nz} (h : Sf p ns) {k tr c j : Nat} (hk : k < p.bl.length) (rest : List UInt8) :
    putR p.crc true p.V (rat p k tr c []) (arr ns j (pc p k ++ rest)) = ([6], rat p (k + 1) tr p.V []) ∨ putR p.crc true p.V (rat p k tr c []) (arr ns j (pc p k ++ rest)) = ([21], rat p k tr p.V []) ∨ putR p.crc true p.V (rat p k tr c []) (arr ns j (pc p k ++ rest)) = ([], rat p k tr c []) := by
  unfold arr
  cases hz : ns[j]? with
  | none => exact .inl (rput_block h.ok hk rest)
  | some z =>
    show (putR p.crc true p.V _ (if z.lost then [] else hitL (pc p k ++ rest) z) = _) ∨ putR p.crc true p.V _ (if z.lost then [] else hitL (pc p k ++ rest) z) = _ ∨ putR p.crc true p.V _ (if z.lost then [] else hitL (pc p k ++ rest) z) = _
    cases hl : z.lost with
    | true => exact .inr (.inr (by rw [if_pos rfl]; exact rput_none))
    | false =>
      rw [if_neg (by simp)]
      by_cases hb : z.by_ = 0
      · rw [hit_same _ _ hb]; exact .inl (rput_block h.ok hk rest)
      · have ha := h.at_ j z hz hb
        have h2 := pc_len h.ok hk
        have h1 := hit_at ha.1 ha.2 (x := pc p k ++ rest) (by rw [List.length_append]; omega)
        exact .inr (.inl (rput_turned h.ok hk rest (hitI (pc p k ++ rest) z) h1.1 (by omega) z.by_ hb))
/-- A burst that begins with piece k. -/
theorem Sf.burst {p : LP} {ns : List Nz} (h : Sf p ns) {x : Lk} {k i tr c j j' : Nat} {bu rest : List UInt8} (hk : k ≤ p.bl.length) (hi : i ≤ p.T) (hbu : k < p.bl.length → bu = []) (hl : k = p.bl.length → bu.length + (pc p k ++ rest).length ≤ i)
    (hx : stepL p ns x = ⟨sat p k i p.W, (putR p.crc true p.V (rat p k tr c bu) (arr ns j (pc p k ++ rest))).2, (putR p.crc true p.V (rat p k tr c bu) (arr ns j (pc p k ++ rest))).1, j'⟩) (hb : bu.length ≤ i) : SI p (stepL p ns x) := by
  rw [hx]
  by_cases hkl : k < p.bl.length
  · obtain rfl := hbu hkl
    rcases h.block (tr := tr) (c := c) (j := j) hkl rest with e | e | e <;> rw [e]
    · have e2 : rat p (k + 1) tr p.V [] = took p k tr := by unfold took; rw [if_pos hkl]
      rw [e2]
      exact SI.ack k i tr j' hk
    · exact SI.nak k i tr j' hk hi
    · exact SI.mute k i p.W c tr [] j' hk hi (fun _ => rfl) (Nat.zero_le _)
  · obtain rfl : k = p.bl.length := by omega
    have hl' := hl rfl
    have hT := h.T9
    rcases arr_len ns j (pc p p.bl.length ++ rest) with e0 | e0
    · rw [e0, rput_none]
      exact SI.mute _ i p.W c tr bu j' hk hi hbu hb
    · have hne : arr ns j (pc p p.bl.length ++ rest) ≠ [] := fun e => by
        rw [e] at e0
        have hp : 0 < (pc p p.bl.length).length := List.length_pos_iff.2 (pc_ne p _)
        rw [List.length_append] at e0
        simp at e0
        omega
      rcases rput_few2 (p := p) (j := p.bl.length) (tr := tr) (c := c) (bu := bu) hne (by omega) with e | e | e | e <;> rw [e]
      · have e2 : stopR (rat p p.bl.length tr p.V [4]) 0 = took p p.bl.length tr := by unfold took; rw [if_neg (Nat.lt_irrefl _)]
        rw [e2]
        exact SI.ack _ i tr j' hk
      · exact SI.deaf _ i p.W _ j' p.bl.length hk rfl (Nat.le_refl _) rfl
      · exact SI.mute _ i p.W p.V tr _ j' hk hi (fun hh => absurd hh (Nat.lt_irrefl _)) (by rw [List.length_append]; omega)
      · exact SI.nak _ i tr j' hk hi
/-- The sender has given up. -/
theorem Sf.dead {p : LP} {ns : List Nz} (h : Sf p ns) {x : Lk} {k tr c j j' : Nat} {bu z : List UInt8} {s : Sd} (hk : k ≤ p.bl.length) (hbu : k < p.bl.length → bu = []) (hb : bu.length ≤ 9) (hs : s.ph = 3) (he : s.err ≠ 0) (hz : z.length ≤ 3 ∨ ∃ rest, z = pc p k ++ rest ∧ rest.length ≤ 2)
    (hx : stepL p ns x = ⟨s, (putR p.crc true p.V (rat p k tr c bu) (arr ns j z)).2, (putR p.crc true p.V (rat p k tr c bu) (arr ns j z)).1, j'⟩) : SI p (stepL p ns x) := by
  rw [hx]
  have hle := arr_le ns j z
  rcases hz with hz | ⟨rest, rfl, hr⟩
  · exact SI.over s _ _ j' k hs he hk (few_da (by omega))
  · by_cases hkl : k < p.bl.length
    · obtain rfl := hbu hkl
      rcases h.block (tr := tr) (c := c) (j := j) hkl rest with e | e | e <;> rw [e]
      · exact SI.over s _ _ j' (k + 1) hs he (by omega) rfl
      · exact SI.over s _ _ j' k hs he hk rfl
      · exact SI.over s _ _ j' k hs he hk rfl
    · obtain rfl : k = p.bl.length := by omega
      rw [pc_end] at hle ⊢
      have : ([4] ++ rest).length ≤ 3 := by simp; omega
      exact SI.over s _ _ j' p.bl.length hs he hk (few_da (by omega))
/-- Nothing that matters is answered. -/
theorem Sf.calm {p : LP} {ns : List Nz} (h : Sf p ns) {k i a c c' tr tr' j : Nat} {bu bu' o : List UInt8} (hk : k ≤ p.bl.length) (hi : i ≤ p.T) (hbu : k < p.bl.length → bu' = []) (hl : bu'.length ≤ i) (hr : tickR p.crc p.V (rat p k tr c bu) = (o, rat p k tr' c' bu'))
    (ho : ∀ i a, feedO p (sat p k i a) o = [] ∧ feedS p (sat p k i a) o = sat p k i a) : SI p (stepL p ns ⟨sat p k i a, rat p k tr c bu, [], j⟩) := by
  have hT := h.T9
  by_cases ha : 1 < a
  · rw [step_none (x := ⟨sat p k i a, rat p k tr c bu, [], j⟩) (s1 := sat p k i (a - 1)) (s2 := sat p k i (a - 1)) (d0 := []) (d1 := []) hr (tick_more ha) (ho _ _).1 (ho _ _).2 rfl]
    exact SI.mute k i (a - 1) c' tr' bu' j hk hi hbu hl
  · by_cases hiT : i < p.T
    · refine h.burst (k := k) (i := i + 1) (tr := tr') (c := c') (j := j) (bu := bu') (rest := []) hk (by omega) hbu (fun e => by subst e; rw [pc_end]; simp; omega) ?_ (by omega) (j' := j + 1)
      refine step_some (x := ⟨sat p k i a, rat p k tr c bu, [], j⟩) (s1 := sat p k (i + 1) p.W) (d0 := pc p k) (d1 := []) (d := pc p k ++ []) hr ?_ (ho _ _).1 (ho _ _).2 rfl (by rw [List.append_nil]; exact pc_ne p k) rfl
      show tickS p.bl p.T p.W (sat p k i a) = _
      rw [tick_now (by omega), again_yes h.ok hk hiT]
    · have e1 : tickS p.bl p.T p.W (sat p k i a) = ([24, 24], { sat p k i (a - 1) with ph := 3, err := 10 }) := by rw [tick_now (by omega), again_no (by omega)]
      have hf := feed_over (p := p) o { sat p k i (a - 1) with ph := 3, err := 10 } rfl
      refine h.dead (k := k) (tr := tr') (c := c') (j := j) (bu := bu') (z := [24, 24]) (s := feedS p { sat p k i (a - 1) with ph := 3, err := 10 } o) hk hbu (by omega) hf.2.1 (by rw [hf.2.2.1]; simp) (.inl (by simp)) (j' := j + 1) ?_
      exact step_some (x := ⟨sat p k i a, rat p k tr c bu, [], j⟩) (d0 := [24, 24]) (d1 := []) hr e1 hf.1 rfl rfl (by simp) rfl
/-- What was sent is asked for again. -/
theorem Sf.again {p : LP} {ns : List Nz} (h : Sf p ns) {k i a c' tr' j : Nat} {r : Rd} {up o : List UInt8} (hk : k ≤ p.bl.length) (hi : i ≤ p.T) (hu : up ++ o = [21]) (hr : tickR p.crc p.V r = (o, rat p k tr' c' [])) : SI p (stepL p ns ⟨sat p k i a, r, up, j⟩) := by
  have hT := h.T9
  by_cases ha : 1 < a
  · by_cases hiT : i < p.T
    · refine h.burst (k := k) (i := i + 1) (tr := tr') (c := c') (j := j) (bu := []) (rest := []) hk (by omega) (fun _ => rfl) (fun e => by subst e; rw [pc_end]; simp) ?_ (by simp) (j' := j + 1)
      refine step_some (x := ⟨sat p k i a, r, up, j⟩) (s1 := sat p k i (a - 1)) (d0 := []) (d1 := pc p k) (d := pc p k ++ []) hr (tick_more ha) ?_ ?_ (by simp) (by rw [List.append_nil]; exact pc_ne p k) rfl
      · show feedO p _ (up ++ o) = _
        rw [hu, feedO_one, put_nak, again_yes h.ok hk hiT]
      · show feedS p _ (up ++ o) = _
        rw [hu, feedS_one, put_nak, again_yes h.ok hk hiT]
    · refine h.dead (k := k) (tr := tr') (c := c') (j := j) (bu := []) (z := [24, 24]) (s := { sat p k i (a - 1) with ph := 3, err := 10 }) hk (fun _ => rfl) (by simp) rfl (by simp) (.inl (by simp)) (j' := j + 1) ?_
      refine step_some (x := ⟨sat p k i a, r, up, j⟩) (s1 := sat p k i (a - 1)) (d0 := []) (d1 := [24, 24]) hr (tick_more ha) ?_ ?_ rfl (by simp) rfl
      · show feedO p _ (up ++ o) = _
        rw [hu, feedO_one, put_nak, again_no (by omega)]
      · show feedS p _ (up ++ o) = _
        rw [hu, feedS_one, put_nak, again_no (by omega)]
  · by_cases hiT : i < p.T
    · have e1 : tickS p.bl p.T p.W (sat p k i a) = (pc p k, sat p k (i + 1) p.W) := by rw [tick_now (by omega), again_yes h.ok hk hiT]
      by_cases hiT2 : i + 1 < p.T
      · refine h.burst (k := k) (i := i + 1 + 1) (tr := tr') (c := c') (j := j) (bu := []) (rest := pc p k) hk (by omega) (fun _ => rfl) (fun e => by subst e; rw [pc_end]; simp) ?_ (by simp) (j' := j + 1)
        refine step_some (x := ⟨sat p k i a, r, up, j⟩) (s1 := sat p k (i + 1) p.W) (d0 := pc p k) (d1 := pc p k) hr e1 ?_ ?_ rfl (by have := pc_ne p k; simp [this]) rfl
        · show feedO p _ (up ++ o) = _
          rw [hu, feedO_one, put_nak, again_yes h.ok hk hiT2]
        · show feedS p _ (up ++ o) = _
          rw [hu, feedS_one, put_nak, again_yes h.ok hk hiT2]
      · refine h.dead (k := k) (tr := tr') (c := c') (j := j) (bu := []) (z := pc p k ++ [24, 24]) (s := { sat p k (i + 1) p.W with ph := 3, err := 10 }) hk (fun _ => rfl) (by simp) rfl (by simp) (.inr ⟨_, rfl, by simp⟩) (j' := j + 1) ?_
        refine step_some (x := ⟨sat p k i a, r, up, j⟩) (s1 := sat p k (i + 1) p.W) (d0 := pc p k) (d1 := [24, 24]) hr e1 ?_ ?_ rfl (by simp) rfl
        · show feedO p _ (up ++ o) = _
          rw [hu, feedO_one, put_nak, again_no (by omega)]
        · show feedS p _ (up ++ o) = _
          rw [hu, feedS_one, put_nak, again_no (by omega)]
    · have e1 : tickS p.bl p.T p.W (sat p k i a) = ([24, 24], { sat p k i (a - 1) with ph := 3, err := 10 }) := by rw [tick_now (by omega), again_no (by omega)]
      have hf := feed_over (p := p) (up ++ o) { sat p k i (a - 1) with ph := 3, err := 10 } rfl
      refine h.dead (k := k) (tr := tr') (c := c') (j := j) (bu := []) (z := [24, 24]) (s := feedS p { sat p k i (a - 1) with ph := 3, err := 10 } (up ++ o)) hk (fun _ => rfl) (by simp) hf.2.1 (by rw [hf.2.2.1]; simp) (.inl (by simp)) (j' := j + 1) ?_
      exact step_some (x := ⟨sat p k i a, r, up, j⟩) (d0 := [24, 24]) (d1 := []) hr e1 hf.1 rfl rfl (by simp) rfl
theorem put_cans {p : LP} {k i a : Nat} : feedO p (sat p k i a) [24, 24] = [] ∧ (feedS p (sat p k i a) [24, 24]).ph = 3 ∧ (feedS p (sat p k i a) [24, 24]).err = 9 := by
  have e1 : putS p.bl p.T p.W true (sat p k i a) 24 = ([], { sat p k i a with can := true }) := by
    unfold putS
    rw [if_neg (sat3 _ _ _ _), if_neg (by rintro ⟨e, _⟩; cases e), if_neg (sat0 _ _ _ _), if_neg (by decide), if_neg (by decide)]
    rfl
  have e2 : putS p.bl p.T p.W true { sat p k i a with can := true } 24 = ([], { sat p k i a with ph := 3, err := 9, can := true }) := by
    unfold putS
    rw [if_neg (sat3 p k i a), if_pos ⟨rfl, rfl⟩]
    rfl
  rw [feedO_two, feedS_two, e1, e2]
  exact ⟨rfl, rfl, rfl⟩
/-- Who hears nothing more. -/
theorem Sf.deafs {p : LP} {ns : List Nz} (h : Sf p ns) {k i a j d : Nat} {r r0 : Rd} {o : List UInt8} (hk : k ≤ p.bl.length) (hr : tickR p.crc p.V r0 = (o, r)) (hov : r.ov = true) (hd : d ≤ p.bl.length) (hda : r.da = flat p d) (ho : o = [] ∨ o = [24, 24]) : SI p (stepL p ns ⟨sat p k i a, r0, [], j⟩) := by
  obtain ⟨d0, s1, hts⟩ : ∃ d0 s1, tickS p.bl p.T p.W (sat p k i a) = (d0, s1) := ⟨_, _, rfl⟩
  have hs1 : (∃ i' a', s1 = sat p k i' a') ∨ (s1.ph = 3 ∧ s1.err ≠ 0) := by
    by_cases ha : 1 < a
    · rw [tick_more ha] at hts
      exact .inl ⟨i, a - 1, by injection hts with _ e; exact e.symm⟩
    · rw [tick_now (by omega)] at hts
      by_cases hiT : i < p.T
      · rw [again_yes h.ok hk hiT] at hts
        exact .inl ⟨i + 1, p.W, by injection hts with _ e; exact e.symm⟩
      · rw [again_no (by omega)] at hts
        injection hts with _ e
        subst e
        exact .inr ⟨rfl, by simp⟩
  have hend : ∀ s2, feedO p s1 o = [] → feedS p s1 o = s2 → ((∃ i' a', s2 = sat p k i' a') ∨ (s2.ph = 3 ∧ s2.err ≠ 0)) → SI p (stepL p ns ⟨sat p k i a, r0, [], j⟩) := fun s2 hf hg hs2 => by
    have hfin : ∀ j', SI p ⟨s2, r, [], j'⟩ := fun j' => by
      rcases hs2 with ⟨i', a', rfl⟩ | ⟨e1, e2⟩
      · exact SI.deaf k i' a' r j' d hk hov hd hda
      · exact SI.over s2 r [] j' d e1 e2 hd hda
    by_cases hd0 : d0 = []
    · subst hd0
      rw [step_none (x := ⟨sat p k i a, r0, [], j⟩) (d0 := []) (d1 := []) hr hts hf hg rfl]
      exact hfin j
    · rw [step_some (x := ⟨sat p k i a, r0, [], j⟩) (d0 := d0) (d1 := []) (d := d0) hr hts hf hg (List.append_nil _) hd0 (rput_over hov)]
      exact hfin (j + 1)
  rcases ho with rfl | rfl
  · exact hend s1 rfl rfl hs1
  · rcases hs1 with ⟨i', a', rfl⟩ | ⟨e1, e2⟩
    · have hc := put_cans (p := p) (k := k) (i := i') (a := a')
      exact hend _ hc.1 rfl (.inr ⟨hc.2.1, by rw [hc.2.2]; simp⟩)
    · have hf := feed_over (p := p) [24, 24] s1 e1
      exact hend _ hf.1 rfl (.inr ⟨hf.2.1, by rw [hf.2.2.1]; exact e2⟩)
theorem ask_da (crc : Bool) (V : Nat) (s : Rd) : (tickR crc V s).2.da = s.da := by
  unfold tickR askR stopR
  repeat' split
  all_goals rfl
theorem Sf.step {p : LP} {ns : List Nz} (h : Sf p ns) {x : Lk} (hx : SI p x) (hov : overL x = false) : SI p (stepL p ns x) := by
  have hW := h.W
  have hV := h.V
  cases hx with
  | ack k i tr j hk =>
    by_cases hkl : k < p.bl.length
    · have e := step_ack (i := i) (tr := tr) (j := j) h.ok hW hV ns hkl
      have hT1 := h.ok.T1
      exact h.burst (k := k + 1) (i := 1) (tr := tr) (c := p.V - 1) (j := j) (bu := []) (rest := []) (by omega) hT1 (fun _ => rfl) (fun e => by rw [e, pc_end]; simp) (by rw [e, List.append_nil]) (by simp) (j' := j + 1)
    · obtain rfl : k = p.bl.length := by omega
      rw [step_end hW]
      exact SI.both _ tr j rfl
  | nak k i tr j hk hi => exact h.again (c' := p.V - 1) (tr' := tr) hk hi (by simp) (rtick_more (by omega))
  | mute k i a c tr bu j hk hi hbu hl =>
    by_cases hc : 1 < c
    · exact h.calm hk hi hbu hl (rtick_more hc) (fun _ _ => ⟨rfl, rfl⟩)
    · rcases Nat.eq_zero_or_pos k with rfl | hkp
      · rcases Nat.eq_zero_or_pos tr with rfl | htr
        · exact h.deafs (d := 0) hk (rtick_out (by omega)) rfl (Nat.zero_le _) rfl (.inr rfl)
        · have e := rtick_ask (p := p) (c := c) (bu := bu) (by omega) htr
          cases hcrc : p.crc with
          | true =>
            have hg : goB p.crc = 67 := by rw [hcrc]; rfl
            rw [hg] at e
            exact h.calm (bu' := []) hk hi (fun _ => rfl) (Nat.zero_le _) e (fun i a => ⟨by rw [feedO_one, put_C], by rw [feedS_one, put_C]⟩)
          | false =>
            have hg : goB p.crc = 21 := by rw [hcrc]; rfl
            rw [hg] at e
            exact h.again hk hi (by simp) e
      · exact h.again hk hi (by simp) (rtick_nak h.ok (by omega) hkp hk)
  | deaf k i a r j d hk hr hd hda => exact h.deafs hk (rtick_over hr) hr hd hda (.inl rfl)
  | over s r up j d hs he hd hda =>
    have hf := feed_over (p := p) (up ++ (tickR p.crc p.V r).1) s hs
    rw [step_none (x := ⟨s, r, up, j⟩) (o := (tickR p.crc p.V r).1) (r1 := (tickR p.crc p.V r).2) (d0 := []) (d1 := []) rfl (tick_over hs) hf.1 rfl rfl]
    exact SI.over _ _ _ j d hf.2.1 (by rw [hf.2.2.1]; exact he) hd (by rw [ask_da]; exact hda)
  | both s tr j hs =>
    exfalso
    have : overL ⟨s, took p p.bl.length tr, [], j⟩ = true := by
      unfold overL took
      rw [if_neg (Nat.lt_irrefl _)]
      show (s.ph == 3 && true) = true
      rw [hs]; rfl
    rw [this] at hov
    cases hov
theorem Sf.runs {p : LP} {ns : List Nz} (h : Sf p ns) : ∀ (N : Nat) (x : Lk) (o : Bool × Nat × Nat), SI p x → SI p (runX p ns N x o).1
  | 0, x, o, hx => hx
  | N + 1, x, o, hx => by
    by_cases hov : overL x = true
    · rw [runX_stop hov]; exact hx
    · have hov' : overL x = false := by simpa using hov
      rw [runX_step hov']
      exact h.runs N _ _ (h.step hx hov')
theorem SI.da {p : LP} {x : Lk} (h : SI p x) : ∃ d, d ≤ p.bl.length ∧ x.r.da = flat p d := by
  cases h with
  | ack k i tr j hk =>
    by_cases hkl : k < p.bl.length
    · exact ⟨k + 1, hkl, by show (took p k tr).da = _; unfold took; rw [if_pos hkl]; rfl⟩
    · exact ⟨k, hk, by show (took p k tr).da = _; unfold took; rw [if_neg hkl]; rfl⟩
  | nak k i tr j hk hi => exact ⟨k, hk, rfl⟩
  | mute k i a c tr bu j hk hi hbu hl => exact ⟨k, hk, rfl⟩
  | deaf k i a r j d hk hov hd hda => exact ⟨d, hd, hda⟩
  | over s r up j d hs he hd hda => exact ⟨d, hd, hda⟩
  | both s tr j hs => exact ⟨_, Nat.le_refl _, took_da p tr⟩
theorem SI.well {p : LP} {x : Lk} (h : SI p x) (hov : overL x = true) (he : x.s.err = 0) : x.r.da = flat p p.bl.length := by
  cases h with
  | ack k i tr j hk => rw [sat_not_over] at hov; cases hov
  | nak k i tr j hk hi => rw [sat_not_over] at hov; cases hov
  | mute k i a c tr bu j hk hi hbu hl => rw [sat_not_over] at hov; cases hov
  | deaf k i a r j d hk hr hd hda => rw [sat_not_over] at hov; cases hov
  | over s r up j d hs hne hd hda => exact absurd he hne
  | both s tr j hs => exact took_da p tr
/-- What is taken is the beginning of what was sent; all, where both end well. -/
theorem run_safe {p : LP} {ns : List Nz} (h : Sf p ns) {R : Nat} (hR : 0 < R) (N : Nat) : (∃ d, d ≤ p.bl.length ∧ (runX p ns N (startL p R) (false, 0, 0)).1.r.da = flat p d) ∧
    ((runX p ns N (startL p R) (false, 0, 0)).2.2.1 = true → (runX p ns N (startL p R) (false, 0, 0)).2.2.2.1 = 0 → (runX p ns N (startL p R) (false, 0, 0)).1.r.da = flat p p.bl.length) := by
  have h1 : (N = 0 ∧ True) ∨ SI p (runX p ns N (startL p R) (false, 0, 0)).1 := by
    rcases N with _ | N
    · exact .inl ⟨rfl, trivial⟩
    · right
      rw [runX_step (start_not_over p R)]
      refine h.runs N _ _ ?_
      have e := step_start h.ok h.W ns hR
      have hT1 := h.ok.T1
      exact h.burst (k := 0) (i := 1) (tr := R - 1) (c := p.V) (j := 0) (bu := []) (rest := []) (Nat.zero_le _) hT1 (fun _ => rfl) (fun e => by rw [e, pc_end]; simp) (by rw [e, List.append_nil]) (by simp) (j' := 1)
  rcases h1 with ⟨rfl, _⟩ | h1
  · exact ⟨⟨0, Nat.zero_le _, rfl⟩, fun e => by cases e⟩
  · refine ⟨h1.da, fun e1 e2 => ?_⟩
    have h2 := (runX_over p ns N (startL p R) (false, 0, 0) (fun e => by cases e)).1 e1
    rw [h2.2] at e2
    exact h1.well h2.1 e2
end Go.Proofs.Ytjbkhaoddababaa
