/-
  Dialogues, plainly: steps, their text, what is read of tokens.
-/
import Derived.Test.YtgndcgknedmalaaGreatDoorManifestPlain
namespace Go.Proofs.YtgndcgknedmalaaGreatDoor
set_option linter.unusedVariables false

structure Ar where
  pat : List UInt8
  dst : List UInt8
  deriving DecidableEq
structure Sp where
  label : List UInt8
  kind : Int
  text : List UInt8
  arms : List Ar
  n : Int
  dst : List UInt8
  pos : Int
  deriving DecidableEq
def dSend : List UInt8 := [115, 101, 110, 100]
def dExpect : List UInt8 := [101, 120, 112, 101, 99, 116]
def dGo : List UInt8 := [103, 111]
def dTry : List UInt8 := [116, 114, 121]
def dDone : List UInt8 := [100, 111, 110, 101]
def dFail : List UInt8 := [102, 97, 105, 108]
def dAfter : List UInt8 := [97, 102, 116, 101, 114]
def wordsL : List (List UInt8) := [dSend, dExpect, dGo, dTry, dDone, dFail]
def wordK (k : Nat) : List UInt8 := wordsL.getD k []
def kindOf (t : List UInt8) : Option Nat := if t = dSend then some 0 else if t = dExpect then some 1 else if t = dGo then some 2 else if t = dTry then some 3 else if t = dDone then some 4 else if t = dFail then some 5 else none

/-! ### a dialogue's text -/
def cGo : List UInt8 := [32, 103, 111, 32]
def cAfter : List UInt8 := [32, 97, 102, 116, 101, 114, 32]
def kindK (k : Int) : Nat := if k < 0 then 0 else if 5 < k then 5 else k.toNat
def armL (a : Ar) : List UInt8 := quoE a.pat ++ cGo ++ a.dst
def armsL : List Ar → List UInt8
  | [] => []
  | a :: r => armL a ++ r.flatMap fun b => [44, 32] ++ armL b
def restL (k : Nat) (s : Sp) : List UInt8 :=
  if k = 0 then [32] ++ quoE s.text
  else if k = 1 then [32] ++ armsL s.arms ++ cAfter ++ numL 10 s.n ++ cGo ++ s.dst
  else if k = 2 then [32] ++ s.dst
  else if k = 3 then [32] ++ numL 10 s.n ++ cGo ++ s.dst
  else []
def labL (s : Sp) : List UInt8 := if s.label = [] then [] else s.label ++ [58, 32]
def lineS (s : Sp) : List UInt8 := labL s ++ wordK (kindK s.kind) ++ restL (kindK s.kind) s ++ [59, 10]
def textS (ss : List Sp) : List UInt8 := ss.flatMap lineS
theorem arms_snoc (l : List Ar) (a : Ar) : armsL (l ++ [a]) = armsL l ++ (if l = [] then [] else [44, 32]) ++ armL a := by
  cases l with
  | nil => simp [armsL]
  | cons b r => simp [armsL]

/-! ### tokens are read -/
structure PS where
  ts : List Tk
  err : Option (Nat × Nat)
  deriving DecidableEq
def zT : Tk := ⟨0, [], 0, 0⟩
def hdP (s : PS) : Tk := s.ts.headD zT
def sndP (s : PS) : Tk := s.ts.getD 1 zT
def failP (no : Nat) (t : Tk) (s : PS) : PS := if s.err = none then { s with err := some (no, t.pos) } else s
def takP (k : Nat) (s : PS) : Tk × PS :=
  if (hdP s).kind ≠ k then (zT, failP 2 (hdP s) s) else if s.err ≠ none then (zT, s) else (hdP s, { s with ts := s.ts.tail })
def isT (t : Tk) (k : Nat) (x : List UInt8) : Bool := decide (t.kind = k) && decide (t.text = x)
def mustP (k : Nat) (x : List UInt8) (s : PS) : PS := (takP k (if isT (hdP s) k x = true then s else failP 2 (hdP s) s)).2
def labP (s : PS) : List UInt8 × PS := if isT (sndP s) 4 [58] = true then ((takP 1 s).1.text, mustP 4 [58] (takP 1 s).2) else ([], s)
def kinP (s : PS) : Nat × PS := match kindOf (takP 1 s).1.text with
  | some k => (k, (takP 1 s).2)
  | none => (0, failP 3 (takP 1 s).1 (takP 1 s).2)
def numP (most : Nat) (s : PS) : Nat × PS := ((takP 2 s).1.val, if (takP 2 s).1.val < 1 ∨ most < (takP 2 s).1.val then failP 5 (takP 2 s).1 (takP 2 s).2 else (takP 2 s).2)
def tgtP (s : PS) : List UInt8 × PS := ((takP 1 (mustP 1 dGo s)).1.text, (takP 1 (mustP 1 dGo s)).2)
def armP (s : PS) : Ar × PS := (⟨(takP 3 s).1.text, (tgtP (takP 3 s).2).1⟩, (tgtP (takP 3 s).2).2)
def lopP : Nat → List Ar → PS → List Ar × PS
  | 0, as, s => (as, s)
  | f + 1, as, s => if s.err = none ∧ isT (hdP s) 4 [44] = true then lopP f (as ++ [(armP (mustP 4 [44] s)).1]) (armP (mustP 4 [44] s)).2 else (as, s)
def armsP (s : PS) : List Ar × PS := lopP (armP s).2.ts.length [(armP s).1] (armP s).2
def expP (l : List UInt8) (p : Nat) (s : PS) : Sp × PS :=
  let a := armsP s
  let n := numP 99 (mustP 1 dAfter a.2)
  let t := tgtP n.2
  (⟨l, 1, [], a.1, (n.1 : Int), t.1, (p : Int)⟩, t.2)
def bodP (l : List UInt8) (p k : Nat) (s : PS) : Sp × PS :=
  if k = 0 then (⟨l, 0, (takP 3 s).1.text, [], 0, [], (p : Int)⟩, (takP 3 s).2)
  else if k = 1 then expP l p s
  else if k = 2 then (⟨l, 2, [], [], 0, (takP 1 s).1.text, (p : Int)⟩, (takP 1 s).2)
  else if k = 3 then (⟨l, 3, [], [], ((numP 9 s).1 : Int), (tgtP (numP 9 s).2).1, (p : Int)⟩, (tgtP (numP 9 s).2).2)
  else (⟨l, (k : Int), [], [], 0, [], (p : Int)⟩, s)
def stpP (s : PS) : Sp × PS :=
  let l := labP s
  let k := kinP l.2
  let b := bodP l.1 (hdP s).pos k.1 k.2
  (b.1, mustP 4 [59] b.2)
def parN (k : Nat) (r : Sp × PS) (ss : List Sp) (go : List Sp → PS → Except (Nat × Nat) (List Sp)) : Except (Nat × Nat) (List Sp) :=
  if k = 0 then .ok ss else match r.2.err with
    | some x => .error x
    | none => go (ss ++ [r.1]) r.2
def parP : Nat → List Sp → PS → Except (Nat × Nat) (List Sp)
  | 0, ss, _ => .ok ss
  | f + 1, ss, s => parN (hdP s).kind (stpP s) ss (parP f)
def parseD (l : List UInt8) : Except (Nat × Nat) (List Sp) := match cutR l 0 with
  | .error p => .error (1, p)
  | .ok ts => parP ts.length [] ⟨ts, none⟩

/-! ### on and on -/
theorem Ended.cons {t : Tk} {r : List Tk} (h : Ended (t :: r)) (hk : t.kind ≠ 0) : Ended r := by
  have h2 : 1 < (t :: r).length := by
    obtain ⟨us, p, e, _⟩ := h
    cases us with
    | nil => simp at e; rw [e.1] at hk; exact absurd rfl hk
    | cons u us =>
      simp at e
      rw [e.2]; simp
  exact h.drop h2
theorem Ended.pos {ts : List Tk} (h : Ended ts) : 0 < ts.length := by obtain ⟨us, p, rfl, _⟩ := h; simp
theorem Ended.kind {t : Tk} {r : List Tk} (h : Ended (t :: r)) (hr : r ≠ []) : t.kind ≠ 0 := by
  obtain ⟨us, p, e, hk⟩ := h
  cases us with
  | nil => simp at e; exact absurd e.2 hr
  | cons u us => simp at e; rw [e.1]; exact hk u (List.mem_cons_self ..)
/-- s' is where s has come to. -/
structure Adv (s s' : PS) : Prop where
  stay : s.err ≠ none → s' = s
  drop : ∃ k, k < s.ts.length ∧ s'.ts = s.ts.drop k
  errs : ∀ x, s'.err = some x → s.err = some x ∨ ((x.1 = 2 ∨ x.1 = 3 ∨ x.1 = 5) ∧ ∃ t ∈ s.ts, t.pos = x.2)
theorem Adv.refl {s : PS} (h : 0 < s.ts.length) : Adv s s := ⟨fun _ => rfl, ⟨0, h, rfl⟩, fun x hx => .inl hx⟩
theorem Adv.trans {a b c : PS} (h : Adv a b) (k : Adv b c) : Adv a c := by
  refine ⟨fun he => ?_, ?_, fun x hx => ?_⟩
  · have h1 := h.stay he
    rw [h1] at k
    exact k.stay he
  · obtain ⟨i, hi, e1⟩ := h.drop
    obtain ⟨j, hj, e2⟩ := k.drop
    rw [e1, List.length_drop] at hj
    exact ⟨i + j, by omega, by rw [e2, e1, List.drop_drop]⟩
  · rcases k.errs x hx with h1 | ⟨h1, t, ht, e⟩
    · exact h.errs x h1
    · obtain ⟨i, _, e1⟩ := h.drop
      rw [e1] at ht
      exact .inr ⟨h1, t, List.mem_of_mem_drop ht, e⟩
theorem Adv.ended {a b : PS} (h : Adv a b) (he : Ended a.ts) : Ended b.ts := by
  obtain ⟨k, hk, e⟩ := h.drop
  rw [e]; exact he.drop hk
theorem Adv.mem {a b : PS} (h : Adv a b) {t : Tk} (ht : t ∈ b.ts) : t ∈ a.ts := by
  obtain ⟨k, hk, e⟩ := h.drop
  rw [e] at ht; exact List.mem_of_mem_drop ht
theorem Adv.len {a b : PS} (h : Adv a b) : b.ts.length ≤ a.ts.length := by
  obtain ⟨k, hk, e⟩ := h.drop
  rw [e, List.length_drop]; omega
theorem Adv.pos {a b : PS} (h : Adv a b) : 0 < b.ts.length := by
  obtain ⟨k, hk, e⟩ := h.drop
  rw [e, List.length_drop]; omega
theorem Adv.good {a b : PS} (h : Adv a b) (he : b.err = none) : a.err = none := by
  cases hx : a.err with
  | none => rfl
  | some x => have := h.stay (by rw [hx]; simp); rw [this, hx] at he; cases he
theorem hd_mem {s : PS} (h : 0 < s.ts.length) : hdP s ∈ s.ts := by
  unfold hdP
  cases hs : s.ts with
  | nil => rw [hs] at h; simp at h
  | cons t r => simp
theorem adv_fail {no : Nat} (hno : no = 2 ∨ no = 3 ∨ no = 5) {t : Tk} {s0 s : PS} (h : Adv s0 s) (ht : s.err = none → t ∈ s0.ts) : Adv s0 (failP no t s) := by
  unfold failP
  split
  · rename_i he
    refine ⟨fun k => absurd (h.good he) k, h.drop, fun x hx => .inr (by cases hx; exact ⟨hno, t, ht he, rfl⟩)⟩
  · exact h
theorem adv_take {k : Nat} (hk : k ≠ 0) {s : PS} (he : Ended s.ts) : Adv s (takP k s).2 := by
  unfold takP
  split
  · exact adv_fail (.inl rfl) (Adv.refl he.pos) fun _ => hd_mem he.pos
  · rename_i hkk
    split
    · exact Adv.refl he.pos
    · rename_i hs
      refine ⟨fun k => absurd k hs, ⟨1, ?_, by simp⟩, fun x hx => .inl hx⟩
      cases ht : s.ts with
      | nil => have := he.pos; rw [ht] at this; simp at this
      | cons t r =>
        rw [ht] at he
        have : t.kind ≠ 0 := by
          unfold hdP at hkk
          rw [ht] at hkk
          simp at hkk
          omega
        have := (he.cons this).pos
        simp; omega
theorem adv_must {k : Nat} (hk : k ≠ 0) (x : List UInt8) {s : PS} (he : Ended s.ts) : Adv s (mustP k x s) := by
  unfold mustP
  split
  · exact adv_take hk he
  · have h := adv_fail (no := 2) (.inl rfl) (Adv.refl he.pos) fun _ => hd_mem (s := s) he.pos
    exact h.trans (adv_take hk (h.ended he))
/-- What is taken where all is well. -/
theorem tak_inv {k : Nat} {s : PS} (h : (takP k s).2.err = none) : s.err = none ∧ (hdP s).kind = k ∧ takP k s = (hdP s, ⟨s.ts.tail, none⟩) := by
  revert h
  unfold takP
  split
  · unfold failP
    split
    · intro h; cases h
    · rename_i h1; intro h; exact absurd h h1
  · rename_i hk
    split
    · rename_i h1; intro h; exact absurd h h1
    · rename_i h1
      intro h
      have h1' : s.err = none := by simpa using h1
      exact ⟨h1', by simpa using hk, by rw [h1']⟩
theorem tak_mem {k : Nat} {s : PS} (he : 0 < s.ts.length) (h : (takP k s).2.err = none) : (takP k s).1 ∈ s.ts := by
  rw [(tak_inv h).2.2]; exact hd_mem he
theorem adv_lab {s : PS} (he : Ended s.ts) : Adv s (labP s).2 := by
  unfold labP
  split
  · have h := adv_take (k := 1) (by decide) he
    exact h.trans (adv_must (by decide) _ (h.ended he))
  · exact Adv.refl he.pos
theorem adv_kin {s : PS} (he : Ended s.ts) : Adv s (kinP s).2 := by
  have h := adv_take (k := 1) (by decide) he
  unfold kinP
  split
  · exact h
  · exact adv_fail (.inr (.inl rfl)) h (tak_mem he.pos)
theorem adv_num (m : Nat) {s : PS} (he : Ended s.ts) : Adv s (numP m s).2 := by
  have h := adv_take (k := 2) (by decide) he
  unfold numP
  dsimp only
  split
  · exact adv_fail (.inr (.inr rfl)) h (tak_mem he.pos)
  · exact h
theorem adv_tgt {s : PS} (he : Ended s.ts) : Adv s (tgtP s).2 := by
  have h := adv_must (k := 1) (by decide) dGo he
  exact h.trans (adv_take (by decide) (h.ended he))
theorem adv_arm {s : PS} (he : Ended s.ts) : Adv s (armP s).2 := by
  have h := adv_take (k := 3) (by decide) he
  exact h.trans (adv_tgt (h.ended he))
theorem is_kind {t : Tk} {k : Nat} {x : List UInt8} (h : isT t k x = true) : t.kind = k ∧ t.text = x := by
  unfold isT at h
  rw [Bool.and_eq_true] at h
  exact ⟨of_decide_eq_true h.1, of_decide_eq_true h.2⟩
theorem must_inv {k : Nat} {x : List UInt8} {s : PS} (h : (mustP k x s).err = none) : s.err = none ∧ (hdP s).kind = k ∧ (hdP s).text = x ∧ mustP k x s = ⟨s.ts.tail, none⟩ := by
  revert h
  unfold mustP
  split
  · rename_i h1
    intro h
    obtain ⟨h2, h3, h4⟩ := tak_inv h
    exact ⟨h2, h3, (is_kind h1).2, by rw [h4]⟩
  · intro h
    obtain ⟨h2, _⟩ := tak_inv h
    unfold failP at h2
    split at h2
    · cases h2
    · rename_i h3; exact absurd h2 h3
theorem must_ok {k : Nat} {x : List UInt8} {s : PS} (he : s.err = none) (h : isT (hdP s) k x = true) : mustP k x s = ⟨s.ts.tail, none⟩ := by
  unfold mustP
  rw [if_pos h]
  unfold takP
  rw [if_neg (by simp [(is_kind h).1]), if_neg (by simp [he]), he]
theorem lop_len {s : PS} (hE : Ended s.ts) (he : s.err = none) (h : isT (hdP s) 4 [44] = true) : Ended (mustP 4 [44] s).ts ∧ Ended (armP (mustP 4 [44] s)).2.ts ∧ (armP (mustP 4 [44] s)).2.ts.length < s.ts.length := by
  have h1 := adv_must (k := 4) (by decide) [44] hE
  have h2 := adv_arm (h1.ended hE)
  have h3 := h2.len
  rw [must_ok he h] at h3
  have h4 := hE.pos
  refine ⟨h1.ended hE, h2.ended (h1.ended hE), ?_⟩
  rw [must_ok he h]
  simp at h3 ⊢
  omega
theorem adv_lop : ∀ (f : Nat) (as : List Ar) (s : PS), Ended s.ts → Adv s (lopP f as s).2
  | 0, as, s, he => Adv.refl he.pos
  | f + 1, as, s, he => by
    unfold lopP
    split
    · rename_i h
      have h1 := adv_must (k := 4) (by decide) [44] he
      have h2 := h1.trans (adv_arm (h1.ended he))
      exact h2.trans (adv_lop f _ _ (h2.ended he))
    · exact Adv.refl he.pos
theorem adv_arms {s : PS} (he : Ended s.ts) : Adv s (armsP s).2 := by
  have h := adv_arm he
  exact h.trans (adv_lop _ _ _ (h.ended he))
theorem adv_exp (l : List UInt8) (p : Nat) {s : PS} (he : Ended s.ts) : Adv s (expP l p s).2 := by
  have h1 := adv_arms he
  have h2 := h1.trans (adv_must (k := 1) (by decide) dAfter (h1.ended he))
  have h3 := h2.trans (adv_num 99 (h2.ended he))
  have h4 := h3.trans (adv_tgt (h3.ended he))
  dsimp only [expP]
  exact h4
theorem adv_bod (l : List UInt8) (p k : Nat) {s : PS} (he : Ended s.ts) : Adv s (bodP l p k s).2 := by
  unfold bodP
  split
  · exact adv_take (by decide) he
  · split
    · exact adv_exp l p he
    · split
      · exact adv_take (by decide) he
      · split
        · have h := adv_num 9 he
          exact h.trans (adv_tgt (h.ended he))
        · exact Adv.refl he.pos
theorem stp_2 (s : PS) : (stpP s).2 = mustP 4 [59] (bodP (labP s).1 (hdP s).pos (kinP (labP s).2).1 (kinP (labP s).2).2).2 := by dsimp only [stpP]
theorem stp_1 (s : PS) : (stpP s).1 = (bodP (labP s).1 (hdP s).pos (kinP (labP s).2).1 (kinP (labP s).2).2).1 := by dsimp only [stpP]
theorem adv_stp {s : PS} (he : Ended s.ts) : Adv s (stpP s).2 := by
  have h1 := adv_lab he
  have h2 := h1.trans (adv_kin (h1.ended he))
  have h3 := h2.trans (adv_bod (labP s).1 (hdP s).pos (kinP (labP s).2).1 (h2.ended he))
  have h4 := h3.trans (adv_must (k := 4) (by decide) [59] (h3.ended he))
  rw [stp_2]
  exact h4
/-- A step that is well takes a token. -/
theorem stp_less {s : PS} (he : Ended s.ts) (h : (stpP s).2.err = none) : (stpP s).2.ts.length < s.ts.length := by
  have h1 := adv_lab he
  have h2 := h1.trans (adv_kin (h1.ended he))
  have h3 := h2.trans (adv_bod (labP s).1 (hdP s).pos (kinP (labP s).2).1 (h2.ended he))
  have h4 := h3.len
  have h5 := h3.pos
  rw [stp_2] at h ⊢
  have h6 := (must_inv h).2.2.2
  rw [h6]
  show (List.tail _).length < _
  rw [List.length_tail]
  omega

/-! ### what is wrong, and where -/
section
attribute [local irreducible] stpP
theorem par_end {f : Nat} {ss : List Sp} {s : PS} (h : (hdP s).kind = 0) : parP (f + 1) ss s = .ok ss := by
  show parN _ _ _ _ = _
  unfold parN
  rw [if_pos h]
theorem par_bad {f : Nat} {ss : List Sp} {s : PS} {x : Nat × Nat} (h : (hdP s).kind ≠ 0) (hx : (stpP s).2.err = some x) : parP (f + 1) ss s = .error x := by
  show parN _ _ _ _ = _
  unfold parN
  rw [if_neg h, hx]
theorem par_go {f : Nat} {ss : List Sp} {s : PS} (h : (hdP s).kind ≠ 0) (hx : (stpP s).2.err = none) : parP (f + 1) ss s = parP f (ss ++ [(stpP s).1]) (stpP s).2 := by
  show parN _ _ _ _ = _
  unfold parN
  rw [if_neg h, hx]
theorem par_err (f : Nat) : ∀ (ss : List Sp) (s : PS) (x : Nat × Nat), Ended s.ts → s.err = none → parP f ss s = .error x → (x.1 = 2 ∨ x.1 = 3 ∨ x.1 = 5) ∧ ∃ t ∈ s.ts, t.pos = x.2 := by
  induction f with
  | zero => intro ss s x _ _ h; cases h
  | succ f ih =>
    intro ss s x hE he h
    have ha := adv_stp hE
    by_cases hk : (hdP s).kind = 0
    · rw [par_end hk] at h; cases h
    · cases hx : (stpP s).2.err with
      | some y =>
        rw [par_bad hk hx] at h
        injection h with h
        subst h
        rcases ha.errs _ hx with h1 | h1
        · rw [he] at h1; cases h1
        · exact h1
      | none =>
        rw [par_go hk hx] at h
        obtain ⟨h1, t, ht, h2⟩ := ih _ _ x (ha.ended hE) hx h
        exact ⟨h1, t, ha.mem ht, h2⟩
end
theorem parseD_err {l : List UInt8} {x : Nat × Nat} (h : parseD l = .error x) : (x.1 = 1 ∨ x.1 = 2 ∨ x.1 = 3 ∨ x.1 = 5) ∧ x.2 ≤ l.length := by
  unfold parseD at h
  cases hc : cutR l 0 with
  | error p => rw [hc] at h; cases h; exact ⟨.inl rfl, by have := (cut_err l 0 p hc).2; omega⟩
  | ok ts =>
    rw [hc] at h
    obtain ⟨hE, _⟩ := cut_told l 0 ts hc
    obtain ⟨h1, t, ht, h2⟩ := par_err _ _ _ x hE rfl h
    have := ((cut_placed l 0 ts hc).in_ t ht).2.1
    exact ⟨by omega, by omega⟩


/-! ### a text is cut -/
def bare (t : Tk) : Tk := { t with pos := 0 }
def wK (x : List UInt8) : Tk := ⟨1, x, 0, 0⟩
def sK (c : UInt8) : Tk := ⟨4, [c], 0, 0⟩
def qK (x : List UInt8) : Tk := ⟨3, x, 0, 0⟩
def nK (n : Nat) : Tk := ⟨2, digL 10 n, n, 0⟩
def NW (r : List UInt8) : Prop := ∃ c s, r = c :: s ∧ wordL.contains c = false
/-- A text that is cut into these tokens, wherever it stands; if b, ahead of what goes on no word. -/
def Cut (b : Bool) (x : List UInt8) (ks : List Tk) : Prop := ∀ r p, (b = true → NW r) → ∃ ts, ts.map bare = ks ∧ cutR (x ++ r) p = preT ts (cutR r (p + x.length))
theorem Cut.app {b1 b2 : Bool} {x y : List UInt8} {ks js : List Tk} (h1 : Cut b1 x ks) (h2 : Cut b2 y js) (hy : b1 = true → ∀ r, (b2 = true → NW r) → NW (y ++ r)) : Cut b2 (x ++ y) (ks ++ js) := fun r p hr => by
  obtain ⟨ts, e1, e2⟩ := h1 (y ++ r) p (fun hb => hy hb r hr)
  obtain ⟨us, e3, e4⟩ := h2 r (p + x.length) hr
  refine ⟨ts ++ us, by rw [List.map_append, e1, e3], ?_⟩
  rw [List.append_assoc, e2, e4, preT_preT, List.length_append, Nat.add_assoc]
theorem Cut.weak {x : List UInt8} {ks : List Tk} (h : Cut false x ks) : Cut true x ks := fun r p _ => h r p (fun h => by cases h)
theorem nw_app {c : UInt8} {y : List UInt8} (h : wordL.contains c = false) (r : List UInt8) : NW (c :: y ++ r) := ⟨c, y ++ r, rfl, h⟩
theorem cut_none_ : Cut false [] [] := fun r p _ => ⟨[], rfl, by rw [preT_nil]; rfl⟩
/-- A Word's text. -/
def IsW (x : List UInt8) : Prop := ∃ a r, x = a :: r ∧ letL.contains a = true ∧ ∀ b ∈ r, wordL.contains b = true
theorem cut_w {x : List UInt8} (h : IsW x) : Cut true x [wK x] := fun r p hr => by
  obtain ⟨a, y, rfl, h1, h2⟩ := h
  obtain ⟨c, s, rfl, hc⟩ := hr rfl
  exact ⟨_, rfl, word_cut h1 h2 hc⟩
theorem cut_n {n : Nat} (h : n < 4294967296) : Cut true (digL 10 n) [nK n] := fun r p hr => by
  obtain ⟨c, s, rfl, hc⟩ := hr rfl
  exact ⟨_, rfl, dec_cut hc h⟩
theorem cut_q {l : List UInt8} (h : ∃ q, quoL l = some q) : Cut false (quoE l) [qK l] := fun r p _ => by
  obtain ⟨q, hq⟩ := h
  have e : quoE l = 34 :: (q ++ [34]) := by unfold quoE; rw [hq]
  rw [e]
  exact ⟨_, rfl, by rw [str_cut hq]; congr 2; simp⟩
theorem cut_sp : Cut false [32] [] := fun r p _ => ⟨[], rfl, by rw [preT_nil]; exact sp_cut r p⟩
theorem cut_nl : Cut false [10] [] := fun r p _ => ⟨[], rfl, by rw [preT_nil]; exact nl_cut r p⟩
theorem cut_sign {c : UInt8} (h0 : blankL.contains c = false) (h9 : c ≠ 35) (h1 : letL.contains c = false) (h2 : decL.contains c = false) (h3 : c ≠ 34) (h : signL.contains c = true) : Cut false [c] [sK c] := fun r p _ => by
  refine ⟨[⟨4, [c], 0, p⟩], rfl, ?_⟩
  have h := preT_some (r := r) (p := p) [] h0 h9 (first_sign (r := r) h1 h2 h3 h)
  rw [preT_nil] at h
  show cutR (c :: r) p = _
  rw [h]; rfl
theorem cut_semi : Cut false [59] [sK 59] := cut_sign (by decide) (by decide) (by decide) (by decide) (by decide) (by decide)
theorem cut_colon : Cut false [58] [sK 58] := cut_sign (by decide) (by decide) (by decide) (by decide) (by decide) (by decide)
theorem cut_comma : Cut false [44] [sK 44] := cut_sign (by decide) (by decide) (by decide) (by decide) (by decide) (by decide)
theorem isw_go : IsW dGo := ⟨103, [111], rfl, by decide, by decide⟩
theorem isw_after : IsW dAfter := ⟨97, [102, 116, 101, 114], rfl, by decide, by decide⟩
theorem isw_word {k : Nat} (h : k < 6) : IsW (wordK k) := by
  rcases (by omega : k = 0 ∨ k = 1 ∨ k = 2 ∨ k = 3 ∨ k = 4 ∨ k = 5) with rfl | rfl | rfl | rfl | rfl | rfl <;> exact ⟨_, _, rfl, by decide, by decide⟩
theorem w32' (y r : List UInt8) : NW (32 :: y ++ r) := nw_app (by decide) r
theorem w44' (y r : List UInt8) : NW (44 :: y ++ r) := nw_app (by decide) r
theorem w58' (y r : List UInt8) : NW (58 :: y ++ r) := nw_app (by decide) r
theorem w59' (y r : List UInt8) : NW (59 :: y ++ r) := nw_app (by decide) r
theorem cut_go : Cut false cGo [wK dGo] := by
  have h := (cut_sp.app ((cut_w isw_go).app cut_sp fun _ r _ => w32' [] r) (fun h => by cases h))
  exact h
theorem cut_after : Cut false cAfter [wK dAfter] := by
  have h := (cut_sp.app ((cut_w isw_after).app cut_sp fun _ r _ => w32' [] r) (fun h => by cases h))
  exact h
/-- What a dialogue's text can tell. -/
structure TellA (a : Ar) : Prop where
  pat : ∃ q, quoL a.pat = some q
  dst : IsW a.dst
structure TellS (x : Sp) : Prop where
  label : x.label = [] ∨ IsW x.label
  kind : 0 ≤ x.kind ∧ x.kind ≤ 5
  text : if x.kind = 0 then ∃ q, quoL x.text = some q else x.text = []
  arms : if x.kind = 1 then x.arms ≠ [] ∧ ∀ a ∈ x.arms, TellA a else x.arms = []
  n : if x.kind = 1 then 1 ≤ x.n ∧ x.n ≤ 99 else if x.kind = 3 then 1 ≤ x.n ∧ x.n ≤ 9 else x.n = 0
  dst : if x.kind = 1 ∨ x.kind = 2 ∨ x.kind = 3 then IsW x.dst else x.dst = []
def skA (a : Ar) : List Tk := [qK a.pat, wK dGo, wK a.dst]
def skT (rs : List Ar) : List Tk := rs.flatMap fun b => sK 44 :: skA b
def skArms : List Ar → List Tk
  | [] => []
  | a :: r => skA a ++ skT r
theorem cut_arm {a : Ar} (h : TellA a) : Cut true (armL a) (skA a) :=
  ((cut_q h.pat).app cut_go (fun h => by cases h)).app (cut_w h.dst) (fun h => by cases h)
theorem cut_tail : ∀ (rs : List Ar), (∀ a ∈ rs, TellA a) → Cut true (rs.flatMap fun b => [44, 32] ++ armL b) (skT rs)
  | [], _ => cut_none_.weak
  | a :: r, h => by
    have ih := cut_tail r fun b hb => h b (List.mem_cons_of_mem _ hb)
    have h1 := (cut_comma.app cut_sp (fun h => by cases h)).app (cut_arm (h a (List.mem_cons_self ..))) (fun h => by cases h)
    have h2 := h1.app ih (fun _ s hs => by
      cases r with
      | nil => exact hs rfl
      | cons b r => exact w44' _ _)
    exact h2
theorem cut_arms {rs : List Ar} (h0 : rs ≠ []) (h : ∀ a ∈ rs, TellA a) : Cut true (armsL rs) (skArms rs) := by
  cases rs with
  | nil => exact absurd rfl h0
  | cons a r =>
    refine (cut_arm (h a (List.mem_cons_self ..))).app (cut_tail r fun b hb => h b (List.mem_cons_of_mem _ hb)) (fun _ s hs => ?_)
    cases r with
    | nil => exact hs rfl
    | cons b r => exact w44' _ _
def skR (k : Nat) (x : Sp) : List Tk :=
  if k = 0 then [qK x.text] else if k = 1 then skArms x.arms ++ [wK dAfter, nK x.n.toNat, wK dGo, wK x.dst] else if k = 2 then [wK x.dst] else if k = 3 then [nK x.n.toNat, wK dGo, wK x.dst] else []
def skS (x : Sp) : List Tk := (if x.label = [] then [] else [wK x.label, sK 58]) ++ ([wK (wordK x.kind.toNat)] ++ (skR x.kind.toNat x ++ [sK 59]))
def bodyS (x : Sp) : List UInt8 := labL x ++ (wordK (kindK x.kind) ++ (restL (kindK x.kind) x ++ [59]))
theorem line_bodyS (x : Sp) : lineS x = bodyS x ++ [10] := by simp [lineS, bodyS]
theorem kind_nat {x : Sp} (h : TellS x) : kindK x.kind = x.kind.toNat ∧ x.kind.toNat < 6 := by
  have := h.kind
  unfold kindK
  rw [if_neg (by omega), if_neg (by omega)]
  exact ⟨rfl, by omega⟩
theorem num_nat {n : Int} (h : 0 ≤ n) : numL 10 n = digL 10 n.toNat := by unfold numL; rw [if_neg (by omega)]
theorem cut_lab {x : Sp} (h : TellS x) : Cut false (labL x) (if x.label = [] then [] else [wK x.label, sK 58]) := by
  unfold labL
  by_cases h0 : x.label = []
  · rw [if_pos h0, if_pos h0]; exact cut_none_
  · rw [if_neg h0, if_neg h0]
    rcases h.label with h1 | h1
    · exact absurd h1 h0
    · exact (cut_w h1).app (cut_colon.app cut_sp (fun h => by cases h)) (fun _ r _ => w58' [32] r)
theorem cut_rest {x : Sp} (h : TellS x) : Cut false (restL x.kind.toNat x ++ [59]) (skR x.kind.toNat x ++ [sK 59]) := by
  have hk := h.kind
  have ht := h.text
  have ha := h.arms
  have hn := h.n
  have hd := h.dst
  obtain ⟨k, hkk⟩ : ∃ k : Nat, x.kind = (k : Int) := ⟨x.kind.toNat, by omega⟩
  rw [hkk] at ht ha hn hd
  rw [hkk, Int.toNat_natCast]
  rcases (by omega : k = 0 ∨ k = 1 ∨ k = 2 ∨ k = 3 ∨ k = 4 ∨ k = 5) with rfl | rfl | rfl | rfl | rfl | rfl
  · rw [if_pos (by omega)] at ht
    exact (cut_sp.app (cut_q ht) (fun h => by cases h)).app cut_semi (fun h => by cases h)
  · rw [if_pos (by omega)] at ha hn
    rw [if_pos (.inl rfl)] at hd
    show Cut false ([32] ++ armsL x.arms ++ cAfter ++ numL 10 x.n ++ cGo ++ x.dst ++ [59]) (skArms x.arms ++ [wK dAfter, nK x.n.toNat, wK dGo, wK x.dst] ++ [sK 59])
    rw [num_nat (by omega)]
    have h1 := cut_sp.app (cut_arms ha.1 ha.2) (fun h => by cases h)
    have h2 := h1.app cut_after (fun _ r _ => w32' _ r)
    have h3 := h2.app (cut_n (n := x.n.toNat) (by omega)) (fun h => by cases h)
    have h4 := h3.app cut_go (fun _ r _ => w32' _ r)
    have h5 := h4.app (cut_w hd) (fun h => by cases h)
    have h6 := h5.app cut_semi (fun _ r _ => w59' [] r)
    have e : [] ++ skArms x.arms ++ [wK dAfter] ++ [nK x.n.toNat] ++ [wK dGo] ++ [wK x.dst] ++ [sK 59] = skArms x.arms ++ [wK dAfter, nK x.n.toNat, wK dGo, wK x.dst] ++ [sK 59] := by simp
    rw [← e]
    exact h6
  · rw [if_pos (.inr (.inl rfl))] at hd
    exact (cut_sp.app (cut_w hd) (fun h => by cases h)).app cut_semi (fun _ r _ => w59' [] r)
  · rw [if_neg (by omega), if_pos (by omega)] at hn
    rw [if_pos (.inr (.inr rfl))] at hd
    show Cut false ([32] ++ numL 10 x.n ++ cGo ++ x.dst ++ [59]) ([nK x.n.toNat, wK dGo, wK x.dst] ++ [sK 59])
    rw [num_nat (by omega)]
    have h3 := cut_sp.app (cut_n (n := x.n.toNat) (by omega)) (fun h => by cases h)
    have h4 := h3.app cut_go (fun _ r _ => w32' _ r)
    have h5 := h4.app (cut_w hd) (fun h => by cases h)
    exact h5.app cut_semi (fun _ r _ => w59' [] r)
  · exact cut_semi
  · exact cut_semi
theorem cut_bodyS {x : Sp} (h : TellS x) : Cut false (bodyS x) (skS x) := by
  obtain ⟨h1, h2⟩ := kind_nat h
  unfold bodyS skS
  rw [h1]
  refine (cut_lab h).app ((cut_w (isw_word h2)).app (cut_rest h) (fun _ r _ => ?_)) (fun h => by cases h)
  have hk := h.kind
  obtain ⟨k, hkk⟩ : ∃ k : Nat, x.kind = (k : Int) := ⟨x.kind.toNat, by omega⟩
  rw [hkk, Int.toNat_natCast]
  rcases (by omega : k = 0 ∨ k = 1 ∨ k = 2 ∨ k = 3 ∨ k = 4 ∨ k = 5) with rfl | rfl | rfl | rfl | rfl | rfl
  · exact w32' _ r
  · show NW ([32] ++ armsL x.arms ++ cAfter ++ numL 10 x.n ++ cGo ++ x.dst ++ [59] ++ r)
    simp only [List.append_assoc]
    exact w32' [] _
  · exact w32' _ r
  · show NW ([32] ++ numL 10 x.n ++ cGo ++ x.dst ++ [59] ++ r)
    simp only [List.append_assoc]
    exact w32' [] _
  · exact w59' [] r
  · exact w59' [] r
theorem cut_lineS {x : Sp} (h : TellS x) : Cut false (lineS x) (skS x) := by
  have := (cut_bodyS h).app cut_nl (fun h => by cases h)
  rw [List.append_nil] at this
  rw [line_bodyS]
  exact this


/-! ### tokens of a step are read -/
theorem map_one {T : List Tk} {k : Tk} {ks : List Tk} (h : T.map bare = k :: ks) : ∃ t T', T = t :: T' ∧ bare t = k ∧ T'.map bare = ks := by
  cases T with
  | nil => cases h
  | cons t T' => rw [List.map_cons] at h; injection h with h1 h2; exact ⟨t, T', rfl, h1, h2⟩
theorem map_nil {T : List Tk} (h : T.map bare = []) : T = [] := by cases T with
  | nil => rfl
  | cons t T' => cases h
theorem map_two {T : List Tk} {ks js : List Tk} (h : T.map bare = ks ++ js) : ∃ U V, T = U ++ V ∧ U.map bare = ks ∧ V.map bare = js := by
  obtain ⟨U, V, e, h1, h2⟩ := List.map_eq_append_iff.1 h
  exact ⟨U, V, e, h1, h2⟩
theorem bare_k {t k : Tk} (h : bare t = k) : t.kind = k.kind ∧ t.text = k.text ∧ t.val = k.val := by rw [← h]; exact ⟨rfl, rfl, rfl⟩
theorem bare_w {t : Tk} {x : List UInt8} (h : bare t = wK x) : t.kind = 1 ∧ t.text = x := ⟨(bare_k h).1, (bare_k h).2.1⟩
theorem bare_q {t : Tk} {x : List UInt8} (h : bare t = qK x) : t.kind = 3 ∧ t.text = x := ⟨(bare_k h).1, (bare_k h).2.1⟩
theorem bare_s {t : Tk} {c : UInt8} (h : bare t = sK c) : t.kind = 4 ∧ t.text = [c] := ⟨(bare_k h).1, (bare_k h).2.1⟩
theorem bare_n {t : Tk} {n : Nat} (h : bare t = nK n) : t.kind = 2 ∧ t.val = n := ⟨(bare_k h).1, (bare_k h).2.2⟩
theorem tak_go {t : Tk} {r : List Tk} {k : Nat} (h : t.kind = k) : takP k ⟨t :: r, none⟩ = (t, ⟨r, none⟩) := by
  unfold takP
  rw [if_neg (by show ¬ t.kind ≠ k; omega), if_neg (by simp)]
  rfl
theorem isT_go {t : Tk} {k : Nat} {x : List UInt8} (h1 : t.kind = k) (h2 : t.text = x) : isT t k x = true := by unfold isT; rw [decide_eq_true h1, decide_eq_true h2]; rfl
theorem isT_no {t : Tk} {k : Nat} {x : List UInt8} (h : t.kind ≠ k ∨ t.text ≠ x) : isT t k x = false := by
  unfold isT
  rcases h with h | h
  · rw [decide_eq_false h]; rfl
  · rw [decide_eq_false h, Bool.and_false]
theorem must_go {t : Tk} {r : List Tk} {k : Nat} {x : List UInt8} (h1 : t.kind = k) (h2 : t.text = x) : mustP k x ⟨t :: r, none⟩ = ⟨r, none⟩ := by
  unfold mustP
  rw [if_pos (show isT (hdP ⟨t :: r, none⟩) k x = true from isT_go h1 h2), tak_go h1]
theorem tgt_go {T us : List Tk} {x : List UInt8} (h : T.map bare = [wK dGo, wK x]) : tgtP ⟨T ++ us, none⟩ = (x, ⟨us, none⟩) := by
  obtain ⟨t1, T1, rfl, h1, h⟩ := map_one h
  obtain ⟨t2, T2, rfl, h2, h⟩ := map_one h
  obtain rfl := map_nil h
  obtain ⟨a1, a2⟩ := bare_w h1
  obtain ⟨b1, b2⟩ := bare_w h2
  show ((takP 1 (mustP 1 dGo ⟨t1 :: (t2 :: us), none⟩)).1.text, (takP 1 (mustP 1 dGo ⟨t1 :: (t2 :: us), none⟩)).2) = _
  rw [must_go a1 a2, tak_go b1, b2]
theorem arm_go {T us : List Tk} {a : Ar} (h : T.map bare = skA a) : armP ⟨T ++ us, none⟩ = (a, ⟨us, none⟩) := by
  obtain ⟨t1, T1, rfl, h1, h⟩ := map_one h
  obtain ⟨a1, a2⟩ := bare_q h1
  show ((⟨(takP 3 ⟨t1 :: (T1 ++ us), none⟩).1.text, (tgtP (takP 3 ⟨t1 :: (T1 ++ us), none⟩).2).1⟩ : Ar), (tgtP (takP 3 ⟨t1 :: (T1 ++ us), none⟩).2).2) = _
  rw [tak_go a1, tgt_go h, a2]
theorem lop_end {f : Nat} {rs : List Ar} {s : PS} (h : isT (hdP s) 4 [44] = false) : lopP f rs s = (rs, s) := by
  cases f with
  | zero => rfl
  | succ f => unfold lopP; rw [if_neg (fun k => by rw [h] at k; cases k.2)]
theorem lop_run : ∀ (bs : List Ar) (T us : List Tk) (f : Nat) (rs : List Ar), T.map bare = skT bs → isT (hdP ⟨us, none⟩) 4 [44] = false → bs.length ≤ f → lopP f rs ⟨T ++ us, none⟩ = (rs ++ bs, ⟨us, none⟩)
  | [], T, us, f, rs, h, hu, _ => by
    obtain rfl := map_nil h
    rw [List.append_nil]
    exact lop_end hu
  | b :: bs, T, us, f, rs, h, hu, hf => by
    obtain ⟨f, rfl⟩ : ∃ g, f = g + 1 := ⟨f - 1, by simp at hf; omega⟩
    obtain ⟨t1, T1, rfl, h1, h⟩ := map_one (show T.map bare = sK 44 :: (skA b ++ skT bs) from h)
    obtain ⟨U, V, rfl, h2, h3⟩ := map_two h
    obtain ⟨a1, a2⟩ := bare_s h1
    have e : lopP (f + 1) rs ⟨t1 :: ((U ++ V) ++ us), none⟩ = lopP f (rs ++ [(armP (mustP 4 [44] ⟨t1 :: ((U ++ V) ++ us), none⟩)).1]) (armP (mustP 4 [44] ⟨t1 :: ((U ++ V) ++ us), none⟩)).2 := by
      rw [lopP, if_pos ⟨rfl, isT_go a1 a2⟩]
    rw [List.cons_append, e, must_go a1 a2, List.append_assoc, arm_go h2]
    dsimp only
    rw [lop_run bs V us f _ h3 hu (by simp at hf; omega), List.append_assoc]
    rfl
theorem skT_len (bs : List Ar) : bs.length ≤ (skT bs).length := by
  unfold skT
  induction bs with
  | nil => simp
  | cons b bs ih => rw [List.flatMap_cons, List.length_append, List.length_cons, List.length_cons]; omega
theorem arms_go {T us : List Tk} {rs : List Ar} (h0 : rs ≠ []) (h : T.map bare = skArms rs) (hu : isT (hdP ⟨us, none⟩) 4 [44] = false) : armsP ⟨T ++ us, none⟩ = (rs, ⟨us, none⟩) := by
  cases rs with
  | nil => exact absurd rfl h0
  | cons a r =>
    obtain ⟨U, V, rfl, h1, h2⟩ := map_two (show T.map bare = skA a ++ skT r from h)
    have hl : r.length ≤ (V ++ us).length := by
      have e := skT_len r
      rw [← h2, List.length_map] at e
      rw [List.length_append]; omega
    show lopP (armP ⟨(U ++ V) ++ us, none⟩).2.ts.length [(armP ⟨(U ++ V) ++ us, none⟩).1] (armP ⟨(U ++ V) ++ us, none⟩).2 = _
    rw [List.append_assoc, arm_go h1]
    dsimp only
    rw [lop_run r V us _ _ h2 hu hl]
    rfl
theorem num_go {t : Tk} {r : List Tk} {n most : Nat} (h : bare t = nK n) (h1 : 1 ≤ n) (h2 : n ≤ most) : numP most ⟨t :: r, none⟩ = (n, ⟨r, none⟩) := by
  obtain ⟨a1, a3'⟩ := bare_n h
  show ((takP 2 ⟨t :: r, none⟩).1.val, if (takP 2 ⟨t :: r, none⟩).1.val < 1 ∨ most < (takP 2 ⟨t :: r, none⟩).1.val then failP 5 (takP 2 ⟨t :: r, none⟩).1 (takP 2 ⟨t :: r, none⟩).2 else (takP 2 ⟨t :: r, none⟩).2) = _
  rw [tak_go a1]
  dsimp only
  rw [a3', if_neg (by omega)]
theorem bod_go {x : Sp} (h : TellS x) (l : List UInt8) (p : Nat) {T us : List Tk} (hT : T.map bare = skR x.kind.toNat x ++ [sK 59]) : ∃ t, bodP l p x.kind.toNat ⟨T ++ us, none⟩ = ({ x with label := l, pos := (p : Int) }, ⟨t :: us, none⟩) ∧ bare t = sK 59 := by
  obtain ⟨U, V, rfl, h1, h2⟩ := map_two hT
  obtain ⟨t9, V', rfl, h9, h2⟩ := map_one h2
  obtain rfl := map_nil h2
  refine ⟨t9, ?_, h9⟩
  have hk := h.kind
  have ht := h.text
  have ha := h.arms
  have hn := h.n
  have hd := h.dst
  obtain ⟨k, hkk⟩ : ∃ k : Nat, x.kind = (k : Int) := ⟨x.kind.toNat, by omega⟩
  rw [hkk] at ht ha hn hd
  rw [hkk, Int.toNat_natCast] at h1
  rw [hkk, Int.toNat_natCast, List.append_assoc]
  have hu : isT (hdP ⟨t9 :: us, none⟩) 4 [44] = false := isT_no (.inr (by rw [show hdP ⟨t9 :: us, none⟩ = t9 from rfl, (bare_s h9).2]; decide))
  obtain ⟨L, K, TX, AR, N, D, P⟩ := x
  dsimp only at *
  subst hkk
  rcases (by omega : k = 0 ∨ k = 1 ∨ k = 2 ∨ k = 3 ∨ k = 4 ∨ k = 5) with rfl | rfl | rfl | rfl | rfl | rfl
  · rw [if_neg (by omega)] at ha hd
    rw [if_neg (by omega), if_neg (by omega)] at hn
    obtain ⟨t1, U1, rfl, e1, e2⟩ := map_one (show U.map bare = [qK TX] from h1)
    obtain rfl := map_nil e2
    show ((⟨l, 0, (takP 3 ⟨t1 :: (t9 :: us), none⟩).1.text, [], 0, [], (p : Int)⟩ : Sp), (takP 3 ⟨t1 :: (t9 :: us), none⟩).2) = _
    rw [tak_go (bare_q e1).1, (bare_q e1).2, ha, hn, hd]
    rfl
  · rw [if_neg (by omega)] at ht
    rw [if_pos (by omega)] at ha hn
    obtain ⟨U1, U2, rfl, e1, e2⟩ := map_two (show U.map bare = skArms AR ++ [wK dAfter, nK N.toNat, wK dGo, wK D] from h1)
    obtain ⟨t2, U3, rfl, e3, e4⟩ := map_one e2
    obtain ⟨t3, U4, rfl, e5, e6⟩ := map_one e4
    have hu2 : isT (hdP ⟨t2 :: (t3 :: (U4 ++ (t9 :: us))), none⟩) 4 [44] = false := isT_no (.inl (by rw [show hdP ⟨t2 :: (t3 :: (U4 ++ (t9 :: us))), none⟩ = t2 from rfl, (bare_w e3).1]; decide))
    show expP l p ⟨(U1 ++ t2 :: (t3 :: U4)) ++ (t9 :: us), none⟩ = _
    rw [List.append_assoc]
    have e7 : expP l p ⟨U1 ++ (t2 :: (t3 :: (U4 ++ (t9 :: us)))), none⟩ = (⟨l, 1, [], AR, ((N.toNat : Nat) : Int), D, (p : Int)⟩, ⟨t9 :: us, none⟩) := by
      dsimp only [expP]
      rw [arms_go ha.1 e1 hu2, must_go (bare_w e3).1 (bare_w e3).2, num_go e5 (by omega) (by omega), tgt_go e6]
    have e8 : expP l p ⟨U1 ++ ((t2 :: (t3 :: U4)) ++ (t9 :: us)), none⟩ = (⟨l, 1, [], AR, ((N.toNat : Nat) : Int), D, (p : Int)⟩, ⟨t9 :: us, none⟩) := e7
    rw [e8, ht, show ((N.toNat : Nat) : Int) = N by omega]
    rfl
  · rw [if_neg (by omega)] at ha ht
    rw [if_neg (by omega), if_neg (by omega)] at hn
    obtain ⟨t1, U1, rfl, e1, e2⟩ := map_one (show U.map bare = [wK D] from h1)
    obtain rfl := map_nil e2
    show ((⟨l, 2, [], [], 0, (takP 1 ⟨t1 :: (t9 :: us), none⟩).1.text, (p : Int)⟩ : Sp), (takP 1 ⟨t1 :: (t9 :: us), none⟩).2) = _
    rw [tak_go (bare_w e1).1, (bare_w e1).2, ha, hn, ht]
    rfl
  · rw [if_neg (by omega)] at ha ht
    rw [if_neg (by omega), if_pos (by omega)] at hn
    obtain ⟨t3, U4, rfl, e5, e6⟩ := map_one (show U.map bare = [nK N.toNat, wK dGo, wK D] from h1)
    show ((⟨l, 3, [], [], ((numP 9 ⟨t3 :: (U4 ++ (t9 :: us)), none⟩).1 : Int), (tgtP (numP 9 ⟨t3 :: (U4 ++ (t9 :: us)), none⟩).2).1, (p : Int)⟩ : Sp), (tgtP (numP 9 ⟨t3 :: (U4 ++ (t9 :: us)), none⟩).2).2) = _
    rw [num_go e5 (by omega) (by omega), tgt_go e6, ha, ht]
    show (Sp.mk l 3 [] [] ((N.toNat : Nat) : Int) D (p : Int), _) = _
    rw [show ((N.toNat : Nat) : Int) = N by omega]
    rfl
  · rw [if_neg (by omega)] at ha ht hd
    rw [if_neg (by omega), if_neg (by omega)] at hn
    obtain rfl := map_nil (show U.map bare = [] from h1)
    rw [ha, ht, hd, hn]; rfl
  · rw [if_neg (by omega)] at ha ht hd
    rw [if_neg (by omega), if_neg (by omega)] at hn
    obtain rfl := map_nil (show U.map bare = [] from h1)
    rw [ha, ht, hd, hn]; rfl
theorem kind_word {k : Nat} (h : k < 6) : kindOf (wordK k) = some k := by
  rcases (by omega : k = 0 ∨ k = 1 ∨ k = 2 ∨ k = 3 ∨ k = 4 ∨ k = 5) with rfl | rfl | rfl | rfl | rfl | rfl <;> decide
theorem kin_go {t : Tk} {r : List Tk} {k : Nat} (hk : k < 6) (h : bare t = wK (wordK k)) : kinP ⟨t :: r, none⟩ = (k, ⟨r, none⟩) := by
  unfold kinP
  rw [tak_go (bare_w h).1]
  dsimp only
  rw [(bare_w h).2, kind_word hk]
theorem rest_no {x : Sp} (h : TellS x) {V us : List Tk} (hV : V.map bare = skR x.kind.toNat x ++ [sK 59]) {t : Tk} (e : Option (Nat × Nat)) : isT (sndP ⟨t :: (V ++ us), e⟩) 4 [58] = false := by
  have hd : ∃ u r, V = u :: r ∧ ¬ (u.kind = 4 ∧ u.text = [58]) := by
    obtain ⟨k, hkk⟩ : ∃ k : Nat, x.kind.toNat = k := ⟨_, rfl⟩
    rw [hkk] at hV
    have hk6 : k < 6 := by have := (kind_nat h).2; omega
    have ha := h.arms
    have hk := h.kind
    rcases (by omega : k = 0 ∨ k = 1 ∨ k = 2 ∨ k = 3 ∨ k = 4 ∨ k = 5) with rfl | rfl | rfl | rfl | rfl | rfl
    · obtain ⟨u, r, e, h1, _⟩ := map_one (show V.map bare = qK x.text :: [sK 59] from hV)
      exact ⟨u, r, e, fun k => by have := (bare_q h1).1; omega⟩
    · rw [if_pos (by omega)] at ha
      cases hA : x.arms with
      | nil => exact absurd hA ha.1
      | cons a rs =>
        have e1 : skR 1 x = skArms x.arms ++ [wK dAfter, nK x.n.toNat, wK dGo, wK x.dst] := rfl
        rw [e1, hA] at hV
        obtain ⟨u, r, e, h1, _⟩ := map_one (show V.map bare = qK a.pat :: ([wK dGo, wK a.dst] ++ skT rs ++ [wK dAfter, nK x.n.toNat, wK dGo, wK x.dst] ++ [sK 59]) from by rw [hV]; simp [skArms, skA])
        exact ⟨u, r, e, fun k => by have := (bare_q h1).1; omega⟩
    · obtain ⟨u, r, e, h1, _⟩ := map_one (show V.map bare = wK x.dst :: [sK 59] from hV)
      exact ⟨u, r, e, fun k => by have := (bare_w h1).1; omega⟩
    · obtain ⟨u, r, e, h1, _⟩ := map_one (show V.map bare = nK x.n.toNat :: [wK dGo, wK x.dst, sK 59] from hV)
      exact ⟨u, r, e, fun k => by have := (bare_n h1).1; omega⟩
    · obtain ⟨u, r, e, h1, _⟩ := map_one (show V.map bare = sK 59 :: [] from hV)
      exact ⟨u, r, e, fun k => by have := (bare_s h1).2; rw [k.2] at this; revert this; decide⟩
    · obtain ⟨u, r, e, h1, _⟩ := map_one (show V.map bare = sK 59 :: [] from hV)
      exact ⟨u, r, e, fun k => by have := (bare_s h1).2; rw [k.2] at this; revert this; decide⟩
  obtain ⟨u, r, rfl, hu⟩ := hd
  show isT u 4 [58] = false
  by_cases h1 : u.kind = 4
  · exact isT_no (.inr fun h2 => hu ⟨h1, h2⟩)
  · exact isT_no (.inl h1)
/-- A step's tokens are read. -/
theorem stp_go {x : Sp} (h : TellS x) {T us : List Tk} (hT : T.map bare = skS x) : ∃ p : Nat, stpP ⟨T ++ us, none⟩ = ({ x with pos := (p : Int) }, ⟨us, none⟩) ∧ (hdP ⟨T ++ us, none⟩).kind ≠ 0 := by
  obtain ⟨U, V, rfl, h1, h2⟩ := map_two hT
  obtain ⟨t, V', rfl, h3, h4⟩ := map_one (show V.map bare = wK (wordK x.kind.toNat) :: (skR x.kind.toNat x ++ [sK 59]) from h2)
  have hk6 := (kind_nat h).2
  have hlab : labP ⟨(U ++ t :: V') ++ us, none⟩ = (x.label, ⟨t :: (V' ++ us), none⟩) ∧ (hdP ⟨(U ++ t :: V') ++ us, none⟩).kind ≠ 0 := by
    by_cases h0 : x.label = []
    · rw [if_pos h0] at h1
      obtain rfl := map_nil h1
      refine ⟨?_, ?_⟩
      · rw [h0]
        have := rest_no h h4 (t := t) (us := us) none
        unfold labP
        rw [show ([] ++ t :: V') ++ us = t :: (V' ++ us) from rfl, if_neg (by rw [this]; decide)]
      · show t.kind ≠ 0
        rw [(bare_w h3).1]; decide
    · rw [if_neg h0] at h1
      obtain ⟨t1, U1, rfl, e1, e2⟩ := map_one h1
      obtain ⟨t2, U2, rfl, e3, e4⟩ := map_one e2
      obtain rfl := map_nil e4
      refine ⟨?_, ?_⟩
      · unfold labP
        rw [show ([t1, t2] ++ t :: V') ++ us = t1 :: (t2 :: (t :: (V' ++ us))) from rfl, if_pos (show isT (sndP ⟨t1 :: (t2 :: (t :: (V' ++ us))), none⟩) 4 [58] = true from isT_go (bare_s e3).1 (bare_s e3).2), tak_go (bare_w e1).1]
        dsimp only
        rw [must_go (bare_s e3).1 (bare_s e3).2, (bare_w e1).2]
      · show t1.kind ≠ 0
        rw [(bare_w e1).1]; decide
  obtain ⟨hl, h0⟩ := hlab
  obtain ⟨t9, hb, h9⟩ := bod_go h x.label (hdP ⟨(U ++ t :: V') ++ us, none⟩).pos (us := us) h4
  refine ⟨(hdP ⟨(U ++ t :: V') ++ us, none⟩).pos, ?_, h0⟩
  refine Prod.ext ?_ ?_
  · rw [stp_1, hl]
    dsimp only
    rw [kin_go hk6 h3]
    dsimp only
    rw [hb]
  · rw [stp_2, hl]
    dsimp only
    rw [kin_go hk6 h3]
    dsimp only
    rw [hb]
    dsimp only
    rw [must_go (bare_s h9).1 (bare_s h9).2]
/-! ### a dialogue's text is read -/
def noPos (x : Sp) : Sp := { x with pos := 0 }
theorem par_run : ∀ (ss : List Sp) (ts : List Tk) (p : Nat) (f : Nat) (acc : List Sp), (∀ x ∈ ss, TellS x) → ts.map bare = ss.flatMap skS → ss.length ≤ f →
    ∃ xs, parP f acc ⟨ts ++ [⟨0, [], 0, p⟩], none⟩ = .ok (acc ++ xs) ∧ xs.map noPos = ss.map noPos
  | [], ts, p, f, acc, _, h, _ => by
    obtain rfl := map_nil h
    refine ⟨[], ?_, rfl⟩
    rw [List.append_nil]
    cases f with
    | zero => rfl
    | succ f => exact par_end rfl
  | x :: ss, ts, p, f, acc, hx, h, hf => by
    obtain ⟨f, rfl⟩ : ∃ g, f = g + 1 := ⟨f - 1, by simp at hf; omega⟩
    obtain ⟨T, V, rfl, h1, h2⟩ := map_two (show ts.map bare = skS x ++ ss.flatMap skS from h)
    obtain ⟨q, e1, e2⟩ := stp_go (hx x (List.mem_cons_self ..)) (us := V ++ [⟨0, [], 0, p⟩]) h1
    obtain ⟨xs, e3, e4⟩ := par_run ss V p f (acc ++ [{ x with pos := (q : Int) }]) (fun y hy => hx y (List.mem_cons_of_mem _ hy)) h2 (by simp at hf; omega)
    refine ⟨{ x with pos := (q : Int) } :: xs, ?_, ?_⟩
    · rw [List.append_assoc, par_go e2 (by rw [e1])]
      rw [e1]
      dsimp only
      rw [e3, List.append_assoc]
      rfl
    · rw [List.map_cons, List.map_cons, e4]; rfl
theorem cut_textS : ∀ (ss : List Sp), (∀ x ∈ ss, TellS x) → Cut false (textS ss) (ss.flatMap skS)
  | [], _ => cut_none_
  | x :: ss, h => (cut_lineS (h x (List.mem_cons_self ..))).app (cut_textS ss fun y hy => h y (List.mem_cons_of_mem _ hy)) (fun h => by cases h)
theorem skS_len (ss : List Sp) : ss.length ≤ (ss.flatMap skS).length := by
  induction ss with
  | nil => simp
  | cons b bs ih =>
    have : 1 ≤ (skS b).length := by unfold skS; rw [List.length_append, List.length_append]; simp; omega
    rw [List.flatMap_cons, List.length_append, List.length_cons]; omega
/-- What a text is cut into tells steps. -/
theorem read_cut {l : List UInt8} {ss : List Sp} (h : ∀ x ∈ ss, TellS x) (hc : Cut false l (ss.flatMap skS)) : ∃ xs, parseD l = .ok xs ∧ xs.map noPos = ss.map noPos := by
  obtain ⟨ts, e1, e2⟩ := hc [] 0 (fun h => by cases h)
  rw [List.append_nil, cut_nil] at e2
  have hl : ss.length ≤ (ts ++ [(⟨0, [], 0, 0 + l.length⟩ : Tk)]).length := by
    have := skS_len ss
    rw [← e1, List.length_map] at this
    rw [List.length_append]; omega
  obtain ⟨xs, e3, e4⟩ := par_run ss ts (0 + l.length) _ [] h e1 hl
  refine ⟨xs, ?_, e4⟩
  unfold parseD
  rw [e2]
  exact e3
theorem text_read {ss : List Sp} (h : ∀ x ∈ ss, TellS x) : ∃ xs, parseD (textS ss) = .ok xs ∧ xs.map noPos = ss.map noPos := read_cut h (cut_textS ss h)
end Go.Proofs.YtgndcgknedmalaaGreatDoor
