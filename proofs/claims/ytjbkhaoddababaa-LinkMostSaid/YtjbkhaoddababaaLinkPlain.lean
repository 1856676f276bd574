/-
  A sender and a receiver that talk, plain: a tick of both, what noise does, how each stands.
-/
import Derived.Test.YtjbkhaoddababaaSenderPlain
import Derived.Test.YtjbkhaoddababaaReceiverPlain
namespace Go.Proofs.Ytjbkhaoddababaa
set_option linter.unusedVariables false

/-- Noise. -/
structure Nz where
  lost : Bool
  at_ : Int
  by_ : UInt8
/-- Whose talk it is: the blocks, the sender's tries and ticks, whether CRCs, the receiver's ticks. Both go by an end. -/
structure LP where
  bl : Bks
  T : Nat
  W : Nat
  crc : Bool
  V : Nat
def hitI (x : List UInt8) (n : Nz) : Nat := (n.at_ % (x.length : Int)).toNat
def hitL (x : List UInt8) (n : Nz) : List UInt8 := x.set (hitI x n) (x.getD (hitI x n) 0 ^^^ n.by_)
/-- What arrives of bytes. -/
def arr (ns : List Nz) (j : Nat) (x : List UInt8) : List UInt8 :=
  match ns[j]? with
  | none => x
  | some n => if n.lost then [] else hitL x n
def feedS (p : LP) : Sd → List UInt8 → Sd
  | s, [] => s
  | s, c :: r => feedS p (putS p.bl p.T p.W true s c).2 r
def feedO (p : LP) : Sd → List UInt8 → List UInt8
  | _, [] => []
  | s, c :: r => (putS p.bl p.T p.W true s c).1 ++ feedO p (putS p.bl p.T p.W true s c).2 r
/-- Both, what travels up, and how often something travelled down. -/
structure Lk where
  s : Sd
  r : Rd
  up : List UInt8
  sent : Nat
def stepL (p : LP) (ns : List Nz) (x : Lk) : Lk :=
  let u := x.up ++ (tickR p.crc p.V x.r).1
  let r1 := (tickR p.crc p.V x.r).2
  let s1 := (tickS p.bl p.T p.W x.s).2
  let d := (tickS p.bl p.T p.W x.s).1 ++ feedO p s1 u
  if d = [] then ⟨feedS p s1 u, r1, [], x.sent⟩
  else ⟨feedS p s1 u, (putR p.crc true p.V r1 (arr ns x.sent d)).2, (putR p.crc true p.V r1 (arr ns x.sent d)).1, x.sent + 1⟩
def overL (x : Lk) : Bool := x.s.ph == 3 && x.r.ov
/-- So many ticks at most: where both are then, and how many ticks went by. -/
def runL (p : LP) (ns : List Nz) : Nat → Lk → Lk × Nat
  | 0, x => (x, 0)
  | n + 1, x => if overL x = true then (x, 0) else ((runL p ns n (stepL p ns x)).1, (runL p ns n (stepL p ns x)).2 + 1)

theorem step_none {p : LP} {ns : List Nz} {x : Lk} {o d0 d1 : List UInt8} {r1 : Rd} {s1 s2 : Sd} (hr : tickR p.crc p.V x.r = (o, r1)) (ht : tickS p.bl p.T p.W x.s = (d0, s1)) (hf : feedO p s1 (x.up ++ o) = d1) (hs : feedS p s1 (x.up ++ o) = s2) (hd : d0 ++ d1 = []) :
    stepL p ns x = ⟨s2, r1, [], x.sent⟩ := by
  unfold stepL
  simp only [hr, ht, hf, hs, hd, if_pos]
theorem step_some {p : LP} {ns : List Nz} {x : Lk} {o d0 d1 d a : List UInt8} {r1 r2 : Rd} {s1 s2 : Sd} (hr : tickR p.crc p.V x.r = (o, r1)) (ht : tickS p.bl p.T p.W x.s = (d0, s1)) (hf : feedO p s1 (x.up ++ o) = d1) (hs : feedS p s1 (x.up ++ o) = s2) (hd : d0 ++ d1 = d) (hne : d ≠ [])
    (hp : putR p.crc true p.V r1 (arr ns x.sent d) = (a, r2)) : stepL p ns x = ⟨s2, r2, a, x.sent + 1⟩ := by
  unfold stepL
  simp only [hr, ht, hf, hs, hd, if_neg hne, hp]
theorem feedO_one (p : LP) (s : Sd) (c : UInt8) : feedO p s [c] = (putS p.bl p.T p.W true s c).1 := by simp [feedO]
theorem feedS_one (p : LP) (s : Sd) (c : UInt8) : feedS p s [c] = (putS p.bl p.T p.W true s c).2 := rfl
theorem feedO_two (p : LP) (s : Sd) (c c' : UInt8) : feedO p s [c, c'] = (putS p.bl p.T p.W true s c).1 ++ (putS p.bl p.T p.W true (putS p.bl p.T p.W true s c).2 c').1 := by simp [feedO]
theorem feedS_two (p : LP) (s : Sd) (c c' : UInt8) : feedS p s [c, c'] = (putS p.bl p.T p.W true (putS p.bl p.T p.W true s c).2 c').2 := rfl

/-! ### The sender at a piece -/
structure LOk (p : LP) : Prop where
  num : ∀ (j : Nat) (b : UInt8 × List UInt8), p.bl[j]? = some b → b.1 = UInt8.ofNat (j + 1) ∧ (b.2.length = 128 ∨ b.2.length = 1024)
  few : p.bl.length ≤ 4
  T1 : 1 ≤ p.T
/-- The k-th piece: a block, or the end. -/
def pc (p : LP) (k : Nat) : List UInt8 :=
  match p.bl[k]? with
  | some b => enc b.1 b.2 p.crc
  | none => [4]
def phK (p : LP) (k : Nat) : Nat := if k < p.bl.length then 1 else 2
/-- The sender that has sent piece k for the i-th time, and waits so many ticks. -/
def sat (p : LP) (k i a : Nat) : Sd := ⟨phK p k, k, p.crc, 0, i, a, false⟩
theorem pc_lt {p : LP} {k : Nat} (h : k < p.bl.length) : ∃ b, p.bl[k]? = some b ∧ pc p k = enc b.1 b.2 p.crc := by
  obtain ⟨b, hb⟩ : ∃ b, p.bl[k]? = some b := ⟨_, List.getElem?_eq_getElem h⟩
  exact ⟨b, hb, by unfold pc; rw [hb]⟩
theorem pc_end (p : LP) : pc p p.bl.length = [4] := by unfold pc; rw [List.getElem?_eq_none (Nat.le_refl _)]
theorem pc_ne (p : LP) (k : Nat) : pc p k ≠ [] := by
  unfold pc
  split
  · simp [enc]
  · simp
theorem phK_or (p : LP) (k : Nat) : phK p k = 1 ∨ phK p k = 2 := by unfold phK; split <;> simp
theorem phK_ne (p : LP) (k : Nat) : phK p k ≠ 3 ∧ phK p k ≠ 0 := by rcases phK_or p k with h | h <;> omega
theorem sat3 (p : LP) (k i a : Nat) : ¬ (sat p k i a).ph = 3 := (phK_ne p k).1
theorem sat0 (p : LP) (k i a : Nat) : ¬ (sat p k i a).ph = 0 := (phK_ne p k).2
theorem send_at {p : LP} (hp : LOk p) {s : Sd} {k : Nat} (hk : k ≤ p.bl.length) (h1 : s.ph = phK p k) (h2 : s.k = k) (h3 : s.crc = p.crc) : sendS p.bl s = (pc p k, s) := by
  unfold sendS
  rcases Nat.lt_or_ge k p.bl.length with h | h
  · obtain ⟨b, hb, e⟩ := pc_lt h
    rw [if_pos (by rw [h1]; unfold phK; rw [if_pos h]), h2, hb]
    have ho : encOk b.2 = true := by
      rcases (hp.num k b hb).2 with e | e <;> simp [encOk, e]
    simp only [ho, if_true, h3, e]
  · obtain rfl : k = p.bl.length := by omega
    rw [if_neg (by rw [h1]; unfold phK; rw [if_neg (Nat.lt_irrefl _)]; omega), if_pos (by rw [h1]; unfold phK; rw [if_neg (Nat.lt_irrefl _)]), pc_end]
theorem go_at' {p : LP} (hp : LOk p) {s : Sd} {k : Nat} (hk : k ≤ p.bl.length) (h1 : s.ph ≠ 2) (h2 : s.k = k) (h3 : s.crc = p.crc) (h4 : s.err = 0) (h5 : s.can = false) : goS p.bl p.W true s = (pc p k, sat p k 1 p.W) := by
  obtain ⟨ph, k', crc, err, tries, wait, can⟩ := s
  simp only at h1 h2 h3 h4 h5
  subst h2 h3 h4 h5
  unfold goS
  rcases Nat.lt_or_ge k' p.bl.length with h | h
  · rw [if_pos h]
    have e : (⟨1, k', p.crc, 0, 1, p.W, false⟩ : Sd) = sat p k' 1 p.W := by unfold sat phK; rw [if_pos h]
    show sendS p.bl ⟨1, k', p.crc, 0, 1, p.W, false⟩ = _
    rw [e]
    exact send_at hp hk rfl rfl rfl
  · obtain rfl : k' = p.bl.length := by omega
    rw [if_neg (Nat.lt_irrefl _), if_pos ⟨rfl, h1⟩, pc_end]
    unfold sat phK
    rw [if_neg (Nat.lt_irrefl _)]
theorem again_yes {p : LP} (hp : LOk p) {k i a : Nat} (hk : k ≤ p.bl.length) (hi : i < p.T) : againS p.bl p.T p.W (sat p k i a) = (pc p k, sat p k (i + 1) p.W) := by
  unfold againS
  rw [if_neg (by show ¬ p.T ≤ i; omega)]
  exact send_at hp hk rfl rfl rfl
theorem again_no {p : LP} {k i a : Nat} (hi : p.T ≤ i) : againS p.bl p.T p.W (sat p k i a) = ([24, 24], { sat p k i a with ph := 3, err := 10 }) := by
  unfold againS
  rw [if_pos (by exact hi)]
theorem tick_more {p : LP} {k i a : Nat} (ha : 1 < a) : tickS p.bl p.T p.W (sat p k i a) = ([], sat p k i (a - 1)) := by
  unfold tickS
  rw [if_neg (sat3 _ _ _ _)]
  exact if_pos ha
theorem tick_now {p : LP} {k i a : Nat} (ha : a ≤ 1) : tickS p.bl p.T p.W (sat p k i a) = againS p.bl p.T p.W (sat p k i (a - 1)) := by
  unfold tickS
  rw [if_neg (sat3 _ _ _ _), if_neg (by show ¬ 1 < a; omega)]
  rfl
theorem put_ack {p : LP} (hp : LOk p) {k i a : Nat} (hk : k < p.bl.length) : putS p.bl p.T p.W true (sat p k i a) 6 = (pc p (k + 1), sat p (k + 1) 1 p.W) := by
  have h1 : phK p k = 1 := by unfold phK; rw [if_pos hk]
  unfold putS
  rw [if_neg (sat3 _ _ _ _), if_neg (by simp), if_neg (sat0 _ _ _ _), if_pos rfl]
  refine go_at' hp (by omega) ?_ ?_ rfl rfl rfl
  · show phK p k ≠ 2; omega
  · show (if phK p k = 1 then k + 1 else k) = k + 1; rw [if_pos h1]
theorem put_end {p : LP} {i a : Nat} : putS p.bl p.T p.W true (sat p p.bl.length i a) 6 = ([], ⟨3, p.bl.length, p.crc, 0, 1, p.W, false⟩) := by
  have h1 : phK p p.bl.length = 2 := by unfold phK; rw [if_neg (Nat.lt_irrefl _)]
  unfold putS
  rw [if_neg (sat3 _ _ _ _), if_neg (by simp), if_neg (sat0 _ _ _ _), if_pos rfl]
  unfold goS
  have e : (if (sat p p.bl.length i a).ph = 1 then (sat p p.bl.length i a).k + 1 else (sat p p.bl.length i a).k) = p.bl.length := by
    show (if phK p p.bl.length = 1 then _ else _) = _
    rw [if_neg (by omega)]
    rfl
  simp only [e]
  rw [if_neg (Nat.lt_irrefl _), if_neg (by intro hh; exact hh.2 h1)]
  rfl
theorem put_nak {p : LP} {k i a : Nat} : putS p.bl p.T p.W true (sat p k i a) 21 = againS p.bl p.T p.W (sat p k i a) := by
  unfold putS
  rw [if_neg (sat3 _ _ _ _), if_neg (by simp), if_neg (sat0 _ _ _ _), if_neg (by decide), if_pos rfl]
  rfl
theorem put_C {p : LP} {k i a : Nat} : putS p.bl p.T p.W true (sat p k i a) 67 = ([], sat p k i a) := by
  unfold putS
  rw [if_neg (sat3 _ _ _ _), if_neg (by simp), if_neg (sat0 _ _ _ _), if_neg (by decide), if_neg (by decide)]
  rfl
/-- What a receiver asks with. -/
def goB (crc : Bool) : UInt8 := if crc then 67 else 21
theorem put_start {p : LP} (hp : LOk p) (a : Nat) : putS p.bl p.T p.W true ⟨0, 0, p.crc, 0, 1, a, false⟩ (goB p.crc) = (pc p 0, sat p 0 1 p.W) := by
  unfold putS
  rw [if_neg (by simp), if_neg (by simp), if_pos (by rfl)]
  cases hc : p.crc
  · rw [if_pos (.inl rfl)]
    exact go_at' hp (Nat.zero_le _) (by simp) rfl (by rw [hc]; rfl) rfl rfl
  · rw [if_pos (.inr ⟨rfl, rfl⟩)]
    exact go_at' hp (Nat.zero_le _) (by simp) rfl (by rw [hc]; rfl) rfl rfl
theorem tick_over {bl : Bks} {T W : Nat} {s : Sd} (h : s.ph = 3) : tickS bl T W s = ([], s) := by unfold tickS; rw [if_pos h]
theorem put_over_ {bl : Bks} {T W : Nat} {cl : Bool} {s : Sd} {c : UInt8} (h : s.ph = 3) : putS bl T W cl s c = ([], { s with can := c == 24 }) := by unfold putS; rw [if_pos h]
theorem feed_over {p : LP} : ∀ (l : List UInt8) (s : Sd), s.ph = 3 → feedO p s l = [] ∧ (feedS p s l).ph = 3 ∧ (feedS p s l).err = s.err ∧ (feedS p s l).k = s.k
  | [], s, h => ⟨rfl, h, rfl, rfl⟩
  | c :: r, s, h => by
    have e := put_over_ (bl := p.bl) (T := p.T) (W := p.W) (cl := true) (c := c) h
    have ih := feed_over (p := p) r ({ s with can := c == 24 }) h
    unfold feedO feedS
    rw [e]
    exact ⟨by simpa using ih.1, ih.2.1, ih.2.2.1, ih.2.2.2⟩

/-! ### The receiver -/
def flat (p : LP) (j : Nat) : List UInt8 := ((p.bl.take j).map (·.2)).flatten
theorem flat_zero (p : LP) : flat p 0 = [] := rfl
theorem flat_succ {p : LP} {j : Nat} {b : UInt8 × List UInt8} (h : p.bl[j]? = some b) : flat p (j + 1) = flat p j ++ b.2 := by
  unfold flat
  rw [List.take_add_one, h]
  simp
theorem flat_all (p : LP) : flat p p.bl.length = (p.bl.map (·.2)).flatten := by unfold flat; rw [List.take_length]
theorem flat_pos {p : LP} (hp : LOk p) {j : Nat} (h1 : 0 < j) (h2 : j ≤ p.bl.length) : flat p j ≠ [] := by
  obtain ⟨k, rfl⟩ : ∃ k, j = k + 1 := ⟨j - 1, by omega⟩
  obtain ⟨b, hb, _⟩ := pc_lt (p := p) (k := k) (by omega)
  rw [flat_succ hb]
  intro e
  have := (List.append_eq_nil_iff.1 e).2
  rcases (hp.num k b hb).2 with e | e <;> (rw [this] at e; simp at e)
/-- The receiver that has j blocks. -/
def rat (p : LP) (j tr c : Nat) (bu : List UInt8) : Rd := ⟨UInt8.ofNat (j + 1), 1 - (j : Int), tr, c, bu, flat p j, false, 0⟩
theorem rtick_more {p : LP} {j tr c : Nat} {bu : List UInt8} (h : 1 < c) : tickR p.crc p.V (rat p j tr c bu) = ([], rat p j tr (c - 1) bu) := by
  unfold tickR
  rw [if_neg (by simp [rat]), if_pos (by exact h)]
  rfl
theorem rtick_nak {p : LP} (hp : LOk p) {j tr c : Nat} {bu : List UInt8} (h : c ≤ 1) (h1 : 0 < j) (h2 : j ≤ p.bl.length) : tickR p.crc p.V (rat p j tr c bu) = ([21], rat p j tr p.V []) := by
  unfold tickR askR
  rw [if_neg (by simp [rat]), if_neg (by show ¬ 1 < c; omega), if_pos (by show flat p j ≠ []; exact flat_pos hp h1 h2)]
  rfl
theorem rtick_ask {p : LP} {tr c : Nat} {bu : List UInt8} (h : c ≤ 1) (ht : 0 < tr) : tickR p.crc p.V (rat p 0 tr c bu) = ([goB p.crc], rat p 0 (tr - 1) p.V []) := by
  unfold tickR askR
  rw [if_neg (by simp [rat]), if_neg (by show ¬ 1 < c; omega), if_neg (by show ¬ flat p 0 ≠ []; simp [flat]), if_neg (by show ¬ tr = 0; omega)]
  rfl
theorem rtick_out {p : LP} {c : Nat} {bu : List UInt8} (h : c ≤ 1) : tickR p.crc p.V (rat p 0 0 c bu) = ([24, 24], stopR (rat p 0 0 p.V []) 10) := by
  unfold tickR askR
  rw [if_neg (by simp [rat]), if_neg (by show ¬ 1 < c; omega), if_neg (by show ¬ flat p 0 ≠ []; simp [flat]), if_pos (by rfl)]
  rfl
theorem rtick_over {crc : Bool} {V : Nat} {r : Rd} (h : r.ov = true) : tickR crc V r = ([], r) := by unfold tickR; rw [if_pos h]
theorem rput_none {crc : Bool} {V : Nat} {r : Rd} : putR crc true V r [] = ([], r) := by unfold putR; rw [if_pos (.inr rfl)]
theorem rput_over {crc : Bool} {V : Nat} {r : Rd} {x : List UInt8} (h : r.ov = true) : putR crc true V r x = ([], r) := by unfold putR; rw [if_pos (.inl h)]
theorem rput_see {p : LP} {j tr c : Nat} {x : List UInt8} (hx : x ≠ []) : putR p.crc true p.V (rat p j tr c []) x = seeR p.crc true (rat p j tr p.V x) := by
  unfold putR
  rw [if_neg (by simp [rat, hx])]
  rfl
/-- A block, whatever comes behind it. -/
theorem rput_block {p : LP} (hp : LOk p) {j tr c : Nat} (hj : j < p.bl.length) (rest : List UInt8) : putR p.crc true p.V (rat p j tr c []) (pc p j ++ rest) = ([6], rat p (j + 1) tr p.V []) := by
  obtain ⟨b, hb, e⟩ := pc_lt hj
  obtain ⟨h1, h2⟩ := hp.num j b hb
  rw [rput_see (by rw [e]; simp [enc]), e]
  obtain ⟨r, er, hl⟩ := enc_head b.1 b.2 p.crc
  rw [see_lead p.crc true _ (leadB b.2.length) (r ++ rest) (by show enc b.1 b.2 p.crc ++ rest = _; rw [er]; rfl) hl]
  unfold scanR
  have hs := scan_enc b.1 b.2 p.crc h2 rest
  show (if (scanL (enc b.1 b.2 p.crc ++ rest) p.crc).1 = 0 then _ else if (scanL (enc b.1 b.2 p.crc ++ rest) p.crc).1 = 1 then _ else takeR true _ (scanL (enc b.1 b.2 p.crc ++ rest) p.crc).2.1 (scanL (enc b.1 b.2 p.crc ++ rest) p.crc).2.2) = _
  rw [hs]
  show takeR true (rat p j tr p.V []) b.1 b.2 = _
  unfold takeR
  rw [if_pos (by exact h1)]
  unfold finR
  rw [if_neg (fun e => by cases e.1)]
  have e1 : UInt8.ofNat (j + 1) + 1 = UInt8.ofNat (j + 1 + 1) := by rw [UInt8.ofNat_add (j + 1) 1]; rfl
  have e2 : (1 : Int) - (j : Int) - 1 = 1 - ((j + 1 : Nat) : Int) := by omega
  show ([6], (⟨UInt8.ofNat (j + 1) + 1, 1 - (j : Int) - 1, tr, p.V, [], flat p j ++ b.2, false, 0⟩ : Rd)) = _
  rw [e1, e2, ← flat_succ hb]
  rfl
theorem scan_bad_app {bs : List UInt8} {crc : Bool} (h : scanL bs crc = (1, 0, [])) (h3 : 3 ≤ bs.length) (rest : List UInt8) : scanL (bs ++ rest) crc = (1, 0, []) := by
  match bs, h3 with
  | a :: b :: c :: r, _ =>
    have hf : firstOf (a :: b :: c :: r ++ rest) = firstOf (a :: b :: c :: r) := rfl
    have ht : third (a :: b :: c :: r ++ rest) = third (a :: b :: c :: r) := rfl
    have hne : (a :: b :: c :: r).length ≠ 0 := by simp
    have hne2 : (a :: b :: c :: r ++ rest).length ≠ 0 := by simp
    by_cases h1 : szD (firstOf (a :: b :: c :: r)) = 0
    · exact scan_lead crc hne2 (by rw [hf]; exact h1)
    · cases h2 : third (a :: b :: c :: r)
      · exact scan_third crc hne2 (by rw [hf]; exact h1) (by rw [ht]; exact h2)
      · rcases Nat.lt_or_ge (a :: b :: c :: r).length (szA (firstOf (a :: b :: c :: r)) crc) with hl | hl
        · rw [scan_few hne h1 h2 hl] at h; simp at h
        · by_cases htl : tailOf (a :: b :: c :: r) crc = trl crc (dataOf (a :: b :: c :: r))
          · rw [scan_good hne h1 h2 (by omega) htl] at h; simp at h
          · have hs : szA (firstOf (a :: b :: c :: r)) crc = 3 + szD (firstOf (a :: b :: c :: r)) + szT crc := by unfold szA; rw [if_neg h1]
            have e1 : tailOf (a :: b :: c :: r ++ rest) crc = tailOf (a :: b :: c :: r) crc := by
              unfold tailOf
              rw [hf, List.drop_append_of_le_length (by omega), List.take_append_of_le_length (by rw [List.length_drop]; omega)]
            have e2 : dataOf (a :: b :: c :: r ++ rest) = dataOf (a :: b :: c :: r) := by
              unfold dataOf
              rw [hf, List.drop_append_of_le_length (by omega), List.take_append_of_le_length (by rw [List.length_drop]; omega)]
            exact scan_tail hne2 (by rw [hf]; exact h1) (by rw [ht]; exact h2) (by rw [hf, List.length_append]; omega) (by rw [e1, e2]; exact htl)
/-- A block of which a byte is turned, whatever comes behind it. -/
theorem rput_turned {p : LP} (hp : LOk p) {j tr c : Nat} (hj : j < p.bl.length) (rest : List UInt8) (k : Nat) (hk1 : 1 ≤ k) (hk : k < (pc p j).length) (y : UInt8) (hy : y ≠ 0) :
    putR p.crc true p.V (rat p j tr c []) ((pc p j ++ rest).set k ((pc p j ++ rest).getD k 0 ^^^ y)) = ([21], rat p j tr p.V []) := by
  obtain ⟨b, hb, e⟩ := pc_lt hj
  obtain ⟨h1, h2⟩ := hp.num j b hb
  obtain ⟨z, hz⟩ : ∃ z, (pc p j)[k]? = some z := ⟨_, List.getElem?_eq_getElem hk⟩
  have hg : (pc p j ++ rest).getD k 0 = z := by
    rw [List.getD_eq_getElem?_getD, List.getElem?_append_left hk, hz]; rfl
  rw [hg, List.set_append_left _ _ hk, e]
  rw [e] at hz hk
  have hsc := scan_turn b.1 b.2 p.crc h2 k hk1 z (z ^^^ y) hz (u8_xor_ne hy)
  have hsc2 := scan_bad_app hsc (by rw [List.length_set, enc_len]; omega) rest
  obtain ⟨r, er, hl⟩ := enc_head b.1 b.2 p.crc
  obtain ⟨k', rfl⟩ : ∃ k', k = k' + 1 := ⟨k - 1, by omega⟩
  have e2 : (enc b.1 b.2 p.crc).set (k' + 1) (z ^^^ y) ++ rest = leadB b.2.length :: (r.set k' (z ^^^ y) ++ rest) := by rw [er]; rfl
  rw [rput_see (by rw [e2]; simp), see_lead p.crc true _ _ _ e2 hl]
  unfold scanR
  show (if (scanL ((enc b.1 b.2 p.crc).set (k' + 1) (z ^^^ y) ++ rest) p.crc).1 = 0 then _ else if (scanL ((enc b.1 b.2 p.crc).set (k' + 1) (z ^^^ y) ++ rest) p.crc).1 = 1 then _ else _) = _
  rw [hsc2]
  rfl
theorem rput_eot {p : LP} {j tr c : Nat} : putR p.crc true p.V (rat p j tr c []) [4] = ([6], stopR (rat p j tr p.V [4]) 0) := by
  rw [rput_see (by simp)]
  unfold seeR
  rw [if_pos ⟨rfl, rfl⟩]
theorem scan_short {bs : List UInt8} {crc : Bool} (h : bs.length < 132) : (scanL bs crc).1 = 0 ∨ (scanL bs crc).1 = 1 := by
  rcases scan_state bs crc with e | e | e
  · exact .inl e
  · exact .inr e
  · exfalso
    unfold scanL at e
    split at e
    · simp at e
    split at e
    · simp at e
    split at e
    · simp at e
    split at e
    · simp at e
    split at e
    · simp at e
    rename_i h1 h2 h3 h4 h5
    have hs : szA (firstOf bs) crc = 3 + szD (firstOf bs) + szT crc := by unfold szA; rw [if_neg h2]
    have hd : 128 ≤ szD (firstOf bs) := by
      unfold szD at h2 ⊢
      split
      · exact Nat.le_refl _
      · split
        · omega
        · rename_i a b; rw [if_neg a, if_neg b] at h2; exact absurd rfl h2
    have := szT_pos crc
    omega
/-- Few bytes are no block: what they come to. -/
theorem rput_few {p : LP} {j tr c : Nat} {x : List UInt8} (hx : x ≠ []) (hl : x.length < 132) :
    (x.head? = some 4 ∧ putR p.crc true p.V (rat p j tr c []) x = ([6], stopR (rat p j tr p.V x) 0)) ∨ (x.head? ≠ some 4 ∧
      (putR p.crc true p.V (rat p j tr c []) x = ([], stopR (rat p j tr p.V x) 9) ∨ putR p.crc true p.V (rat p j tr c []) x = ([], rat p j tr p.V x) ∨ putR p.crc true p.V (rat p j tr c []) x = ([21], rat p j tr p.V []))) := by
  rw [rput_see hx]
  unfold seeR
  by_cases h1 : true = true ∧ (rat p j tr p.V x).bu.head? = some 4
  · rw [if_pos h1]; exact .inl ⟨h1.2, rfl⟩
  rw [if_neg h1]
  refine .inr ⟨fun e => h1 ⟨rfl, e⟩, ?_⟩
  by_cases h2 : (rat p j tr p.V x).bu.take 2 = [24, 24]
  · rw [if_pos h2]; exact .inl rfl
  rw [if_neg h2]
  by_cases h3 : (rat p j tr p.V x).bu = [24]
  · rw [if_pos h3]; exact .inr (.inl rfl)
  rw [if_neg h3]
  unfold scanR
  rcases scan_short (crc := p.crc) hl with e | e
  · have e' : (scanL (rat p j tr p.V x).bu p.crc).1 = 0 := e
    rw [if_pos e']; exact .inr (.inl rfl)
  · have e' : (scanL (rat p j tr p.V x).bu p.crc).1 = 1 := e
    rw [if_neg (by rw [e']; decide), if_pos e']; exact .inr (.inr rfl)
end Go.Proofs.Ytjbkhaoddababaa
