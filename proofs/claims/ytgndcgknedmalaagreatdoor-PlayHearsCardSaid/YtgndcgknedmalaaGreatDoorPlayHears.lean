/-
  What was heard ahead of a pattern does not matter behind it: the law's walk.
-/
import Derived.Test.YtgndcgknedmalaaGreatDoorPlayStep
import Derived.Test.YtgndcgknedmalaaGreatDoorNfaText
namespace Go.Proofs.YtgndcgknedmalaaGreatDoor
open Go.RowKit
set_option linter.unusedVariables false

def hrA : Sp := ⟨[97], 1, [], [⟨[97, 98], [98]⟩], 9, [97], 0⟩
def hrB : Sp := ⟨[98], 1, [], [⟨[98, 99], [99]⟩], 9, [98], 0⟩
def hrC : Sp := ⟨[99], 4, [], [], 0, [], 0⟩
def hrS : List Sp := [hrA, hrB, hrC]
def hrT : List Sp := [hrB, hrC]
def hrX : List Pst := [⟨1, [], [[97, 98]], [1], 9, 0⟩, ⟨1, [], [[98, 99]], [2], 9, 1⟩, ⟨4, [], [], [], 0, -1⟩]
def hrY : List Pst := [⟨1, [], [[98, 99]], [1], 9, 0⟩, ⟨4, [], [], [], 0, -1⟩]
theorem hrX_is : pstsO hrS = hrX := by rfl
theorem hrY_is : pstsO hrT = hrY := by rfl
theorem hr_chk {ss : List Sp} (h1 : 1 ≤ ss.length) (h2 : ss.length ≤ 64) (h : ∀ i x, ss[i]? = some x → (x = hrA ∨ x = hrB ∨ x = hrC) ∧ findS (ss.take i) x.label < 0 ∧ ∀ t ∈ tgtS x, 0 ≤ findS ss t) : OfOk ss := by
  have hm : ∀ x ∈ ss, x = hrA ∨ x = hrB ∨ x = hrC := fun x hx => by
    obtain ⟨i, hi, hix⟩ := List.getElem_of_mem hx
    exact (h i x (by rw [List.getElem?_eq_getElem hi, hix])).1
  refine ⟨⟨h1, h2⟩, fun i x hx => ?_, fun x hx => ?_, fun x hx a ha => ?_, fun x hx => ?_, fun x hx => ?_⟩
  · obtain ⟨hk, hf, ht⟩ := h i x hx
    rcases hk with rfl | rfl | rfl
    · exact ⟨hf, fun _ => ⟨by decide, by decide, of9_one (l := [97, 98]) (by decide +kernel)⟩, by decide, ht⟩
    · exact ⟨hf, fun _ => ⟨by decide, by decide, of9_one (l := [98, 99]) (by decide +kernel)⟩, by decide, ht⟩
    · exact ⟨hf, (fun h => absurd (show (4 : Int) = 1 from h) (by decide)), by decide, ht⟩
  · rcases hm x hx with rfl | rfl | rfl <;> decide
  · rcases hm x hx with rfl | rfl | rfl
    · obtain rfl : a = ⟨[97, 98], [98]⟩ := by simpa [hrA] using ha
      decide
    · obtain rfl : a = ⟨[98, 99], [99]⟩ := by simpa [hrB] using ha
      decide
    · cases ha
  · rcases hm x hx with rfl | rfl | rfl <;> decide
  · rcases hm x hx with rfl | rfl | rfl <;> decide
theorem hrS_ok : OfOk hrS := hr_chk (by decide) (by decide) (fun i x hx => by
  have hi : i < 3 := (List.getElem?_eq_some_iff.1 hx).1
  rcases (by omega : i = 0 ∨ i = 1 ∨ i = 2) with rfl | rfl | rfl
  · obtain rfl := Option.some.inj hx
    exact ⟨.inl rfl, by decide, by decide⟩
  · obtain rfl := Option.some.inj hx
    exact ⟨.inr (.inl rfl), by decide, by decide⟩
  · obtain rfl := Option.some.inj hx
    exact ⟨.inr (.inr rfl), by decide, by decide⟩)
theorem hrT_ok : OfOk hrT := hr_chk (by decide) (by decide) (fun i x hx => by
  have hi : i < 2 := (List.getElem?_eq_some_iff.1 hx).1
  rcases (by omega : i = 0 ∨ i = 1) with rfl | rfl
  · obtain rfl := Option.some.inj hx
    exact ⟨.inr (.inl rfl), by decide, by decide⟩
  · obtain rfl := Option.some.inj hx
    exact ⟨.inr (.inr rfl), by decide, by decide⟩)
theorem hrX_ok : PstsOk hrX := by rw [← hrX_is]; exact psts_ok hrS_ok
theorem hrY_ok : PstsOk hrY := by rw [← hrY_is]; exact psts_ok hrT_ok
def hp0 (h : List UInt8) : Pd := ⟨0, [0, 0, 0], 9, 0, [], h⟩
def hp1 (h : List UInt8) : Pd := ⟨1, [0, 0, 0], 9, 0, [0], h⟩
def hq0 (h : List UInt8) : Pd := ⟨0, [0, 0], 9, 0, [], h⟩
theorem hr_ofX : ofP hrX = (hp0 [], []) := by decide +kernel
theorem hr_ofY : ofP hrY = (hq0 [], []) := by decide +kernel
theorem hr_runX1 : runR hrX 256 1 [0, 0, 0] [] = ⟨1, [0, 0, 0], [], 0⟩ := by decide +kernel
theorem hr_runX2 : runR hrX 256 2 [0, 0, 0] [] = ⟨2, [0, 0, 0], [], 1⟩ := by decide +kernel
theorem hr_runY1 : runR hrY 256 1 [0, 0] [] = ⟨1, [0, 0], [], 1⟩ := by decide +kernel
theorem hr_same : asAt hrY 0 = asAt hrX 1 := rfl
theorem hr_one (p : Nat) (hp : p ≤ 1) : ∃ r : Re, asAt hrX p = [auOf r] := by
  rcases (by omega : p = 0 ∨ p = 1) with rfl | rfl
  · obtain ⟨qs, h⟩ := of9_one (l := [97, 98]) (by decide +kernel)
    have hl := of9_len _ _ h
    match qs, hl with
    | [r], _ => exact ⟨r, by show (match of9 [[97, 98]] with | .inl rs => rs.map auOf | .inr _ => []) = _; rw [h]; rfl⟩
  · obtain ⟨qs, h⟩ := of9_one (l := [98, 99]) (by decide +kernel)
    have hl := of9_len _ _ h
    match qs, hl with
    | [r], _ => exact ⟨r, by show (match of9 [[98, 99]] with | .inl rs => rs.map auOf | .inr _ => []) = _; rw [h]; rfl⟩
theorem arm_zero {A : Au} {s : List UInt8} {i : Nat} (h : armA [A] s = some i) : i = 0 := by
  obtain ⟨⟨a, ha, _⟩, _⟩ := arm_some.1 h
  have := (List.getElem?_eq_some_iff.1 ha).1
  simp at this
  exact this
/-- What ends with "ab" has come. -/
theorem hr_ab (l : List UInt8) : armA (asAt hrX 0) (l ++ [97, 98]) ≠ none := by
  have hd : (match pat9 [97, 98] with | .inl r => fitsB (auOf r) [97, 98] | .inr _ => false) = true := by decide +kernel
  cases hp : pat9 [97, 98] with
  | inr v => rw [hp] at hd; cases hd
  | inl r =>
    rw [hp] at hd
    have hm := (fits_iff (auOf_ok r) [97, 98]).1 hd
    have he : asAt hrX 0 = [auOf r] := by
      show (match of9 [[97, 98]] with | .inl rs => rs.map auOf | .inr _ => []) = _
      simp [of9, hp]
    rw [he]
    intro hn
    have h0 := arm_none.1 hn (auOf r) List.mem_cons_self
    unfold endA at h0
    have h1 : anyB (srch (auOf r) (l ++ [97, 98])) (auOf r).last = true := by
      rw [srch_any (auOf_ok r)]
      exact ⟨l.length, by simp, by rw [List.drop_left]; exact hm⟩
    rw [h1] at h0; cases h0
theorem hr_put0 (h : List UInt8) (c : UInt8) : (armA (asAt hrX 0) (h ++ [c]) = none ∧ (putP hrX (hp0 h) c).1 = hp0 (h ++ [c])) ∨ (putP hrX (hp0 h) c).1 = hp1 [] := by
  cases ha : armA (asAt hrX 0) (h ++ [c]) with
  | none =>
    left
    refine ⟨rfl, ?_⟩
    unfold putP hp0
    rw [if_pos rfl]
    dsimp only
    rw [ha]
  | some i =>
    right
    obtain ⟨r, hr⟩ := hr_one 0 (by omega)
    have hi := arm_zero (by rw [hr] at ha; exact ha)
    subst hi
    unfold putP hp0
    rw [if_pos rfl]
    dsimp only
    rw [ha]
    unfold goP
    show Prod.fst (Pd.mk (runR hrX 256 1 [0, 0, 0] []).pos (runR hrX 256 1 [0, 0, 0] []).cnt (if (runR hrX 256 1 [0, 0, 0] []).st = 0 then max (nAt hrX (runR hrX 256 1 [0, 0, 0] []).pos) 1 else 0) (runR hrX 256 1 [0, 0, 0] []).st ([] ++ [0]) [], _) = _
    rw [hr_runX1]
    rfl
/-- Both wait, or both are over. -/
def Sim (q r : Pd) : Prop := (∃ h, q = hq0 h ∧ r = hp1 h) ∨ (q.st = 1 ∧ r.st = 1)
theorem sim_put {q r : Pd} (h : Sim q r) (c : UInt8) : Sim (putP hrY q c).1 (putP hrX r c).1 := by
  rcases h with ⟨h, rfl, rfl⟩ | ⟨h1, h2⟩
  · cases ha : armA (asAt hrX 1) (h ++ [c]) with
    | none =>
      left
      refine ⟨h ++ [c], ?_, ?_⟩
      · unfold putP hq0
        rw [if_pos rfl]
        dsimp only
        rw [hr_same, ha]
      · unfold putP hp1
        rw [if_pos rfl]
        dsimp only
        rw [ha]
    | some i =>
      right
      obtain ⟨r, hr⟩ := hr_one 1 (by omega)
      have hi := arm_zero (by rw [hr] at ha; exact ha)
      subst hi
      refine ⟨?_, ?_⟩
      · unfold putP hq0
        rw [if_pos rfl]
        dsimp only
        rw [hr_same, ha]
        show (runR hrY 256 1 [0, 0] []).st = 1
        rw [hr_runY1]
      · unfold putP hp1
        rw [if_pos rfl]
        dsimp only
        rw [ha]
        show (runR hrX 256 2 [0, 0, 0] []).st = 1
        rw [hr_runX2]
  · right
    have e1 : putP hrY q c = (q, []) := by unfold putP; rw [if_neg (by omega)]
    have e2 : putP hrX r c = (r, []) := by unfold putP; rw [if_neg (by omega)]
    rw [e1, e2]
    exact ⟨h1, h2⟩
theorem sim_st {q r : Pd} (h : Sim q r) : q.st = r.st := by
  rcases h with ⟨h, rfl, rfl⟩ | ⟨h1, h2⟩
  · rfl
  · rw [h1, h2]
/-- So much was heard and traced. -/
def PdH (n : Nat) (p : Pd) : Prop := p.heard.length ≤ n ∧ p.tr.length ≤ n
theorem pdh_put {xs : List Pst} {p : Pd} {n : Nat} (c : UInt8) (h : PdH n p) : PdH (n + 1) (putP xs p c).1 := by
  obtain ⟨h1, h2⟩ := h
  unfold putP PdH
  split
  · split
    · dsimp only; rw [List.length_append]; exact ⟨by show _ + 1 ≤ _; omega, by omega⟩
    · unfold goP; dsimp only; rw [List.length_append]; exact ⟨Nat.zero_le _, by show _ + 1 ≤ _; omega⟩
  · exact ⟨Nat.le_succ_of_le h1, Nat.le_succ_of_le h2⟩
def putsP (xs : List Pst) (p : Pd) (l : List UInt8) : Pd := l.foldl (fun q c => (putP xs q c).1) p
theorem puts_snoc (xs : List Pst) (p : Pd) (l : List UInt8) (c : UInt8) : putsP xs p (l ++ [c]) = (putP xs (putsP xs p l) c).1 := by unfold putsP; rw [List.foldl_append]; rfl
/-- What is read of a text so far: not yet at the second step, or behind so many bytes. -/
structure HrAt (s : List UInt8) (i : Nat) (z : Int) : Prop where
  way : (z = -1 ∧ putsP hrX (hp0 []) (s.take i) = hp0 (s.take i) ∧ (i = 0 ∨ armA (asAt hrX 0) (s.take i) = none)) ∨ (∃ j : Nat, z = (j : Int) ∧ j ≤ i ∧ putsP hrX (hp0 []) (s.take j) = hp1 [])
theorem hr_next {s : List UInt8} {i : Nat} {z : Int} {c : UInt8} (h : HrAt s i z) (hc : s[i]? = some c) :
    (z = -1 ∧ (((putP hrX (putsP hrX (hp0 []) (s.take i)) c).1.pos = 0 ∧ HrAt s (i + 1) (-1)) ∨ ((putP hrX (putsP hrX (hp0 []) (s.take i)) c).1.pos = 1 ∧ HrAt s (i + 1) ((i : Int) + 1)))) ∨ (0 ≤ z ∧ HrAt s (i + 1) z) := by
  have ht := List.take_succ_of hc
  rcases h.way with ⟨h1, h2, h3⟩ | ⟨j, h1, h2, h3⟩
  · left
    refine ⟨h1, ?_⟩
    rw [h2]
    rcases hr_put0 (s.take i) c with ⟨a1, a2⟩ | a2
    · left
      rw [a2]
      refine ⟨rfl, ⟨.inl ⟨rfl, ?_, .inr ?_⟩⟩⟩
      · rw [ht, puts_snoc, h2, a2]
      · rw [ht]; exact a1
    · right
      rw [a2]
      refine ⟨rfl, ⟨.inr ⟨i + 1, by omega, Nat.le_refl _, ?_⟩⟩⟩
      rw [ht, puts_snoc, h2, a2]
  · right
    exact ⟨by omega, ⟨.inr ⟨j, h1, by omega, h3⟩⟩⟩
theorem hr_last {l : List UInt8} {z : Int} (h : HrAt (l ++ [97, 98]) (l ++ [97, 98]).length z) : ∃ j : Nat, z = (j : Int) ∧ j ≤ (l ++ [97, 98]).length ∧ putsP hrX (hp0 []) ((l ++ [97, 98]).take j) = hp1 [] := by
  rcases h.way with ⟨h1, h2, h3⟩ | h
  · exfalso
    rcases h3 with h3 | h3
    · simp at h3
    · rw [List.take_length] at h3
      exact hr_ab l h3
  · exact h
/-- A Play that the law made since wc, after so many bytes. -/
structure HrMid (wc wr : World) (O : Nat → Prop) (gp : Nat) (xs : List Pst) (p : Pd) (i : Nat) : Prop where
  ply : Ply wr O gp xs p
  low : ∀ b, O b → wc.heap.size ≤ b
  bel : Below wc.heap.size wc wr
  ok : PdOk xs p
  few : PdH i p
theorem hr_put_any {xs : List Pst} (hX : PstsOk xs) {wc wr : World} {O : Nat → Prop} {gp i : Nat} {p : Pd} (h : HrMid wc wr O gp xs p i) (hi : i < 1000000) (c : UInt8) :
    Calls Tryz.prog 14 #[.pointer (some ⟨gp, 0, none⟩), .int .u8 (c.toNat : Int)] wr fun e w' => ∃ O' A n k, e = .returned (.slice A n k) ∧ HrMid wc w' O' gp xs (putP xs p c).1 (i + 1) ∧ (∀ b, O' b → O b ∨ wr.heap.size ≤ b) ∧ Turn O wr w' :=
  (put_ply hX h.ply h.ok (by have := h.few.1; omega) (by have := h.few.2; omega) c).mono fun e w' h' => by
    obtain ⟨O', A, k, he, ho⟩ := h'.out
    exact ⟨O', A, _, k, he, ⟨ho.ply, ho.low h.low h.bel.size, h.bel.trans (ho.below h.low h.bel.size), (put_ok hX c h.ok).1, pdh_put c h.few⟩, ho.sub, ho.turn⟩
/-- Others have turned. -/
theorem HrMid.turn {wc wr w' : World} {O S : Nat → Prop} {gp i : Nat} {xs : List Pst} {p : Pd} (h : HrMid wc wr O gp xs p i) (ht : Turn S wr w') (hS : ∀ b, S b → ¬ O b) (hb : Below wc.heap.size wc w') : HrMid wc w' O gp xs p i :=
  ⟨h.ply.turn ht hS, h.low, hb, h.ok, h.few⟩
theorem StS.tail {w : World} {g n : Nat} {x : Sp} {ss : List Sp} (h : StS w (some ⟨g, 0, none⟩) (n + 1) (x :: ss)) : StS w (some ⟨g, 7, none⟩) n ss := by
  refine ⟨by have := h.1; simp at this; exact this, by have := h.2.1; omega, fun k y hk => ?_⟩
  obtain ⟨ad, P, m, c, e, hl, hc, ha, hm⟩ := h.2.2 (k + 1) y (by simpa using hk)
  obtain rfl := (Option.some.inj e).symm
  refine ⟨_, P, m, c, rfl, hl, fun j z hz => ?_, ha, hm⟩
  have := hc j z hz
  rw [addr0] at this
  have e2 : (⟨g, 7, none⟩ : Addr).add (k * 7 + j) = ⟨g, (k + 1) * 7 + j, none⟩ := by
    unfold Addr.add
    split <;> simp_all <;> omega
  rw [e2]
  exact this
theorem run_from7 (g : Nat) (W : World) : (Instr.slice 29 (.slice (some ⟨g, 0, none⟩) 3 3) (some (.int .i64 1)) none none).run Tryz.prog W = .ok (.slice (some ⟨g, 7, none⟩) 2 2) W := by
  kernel_rfl
def hrCells (ga gb : Nat) : Array Value := #[.string ⟨#[97]⟩, .int .i64 1, .string ⟨#[]⟩, .slice (some ⟨ga, 0, none⟩) 1 1, .int .i64 9, .string ⟨#[97]⟩, .int .i64 0, .string ⟨#[98]⟩, .int .i64 1, .string ⟨#[]⟩, .slice (some ⟨gb, 0, none⟩) 1 1, .int .i64 9, .string ⟨#[98]⟩, .int .i64 0, .string ⟨#[99]⟩, .int .i64 4, .string ⟨#[]⟩, .slice none 0 0, .int .i64 0, .string ⟨#[]⟩, .int .i64 0]
/-- The three steps, laid. -/
theorem hr_laid {w1 w : World} {base ga gb : Nat} (hA : OwnA w1 base (.slice (some ⟨ga, 0, none⟩) 1 1) 1 [⟨[97, 98], [98]⟩]) (hB : OwnA w1 base (.slice (some ⟨gb, 0, none⟩) 1 1) 1 [⟨[98, 99], [99]⟩]) (hb : base ≤ w1.heap.size) (hw : w1.alloc (.cells (hrCells ga gb) 26) = w) :
    OwnSt w base (.slice (some ⟨w1.heap.size, 0, none⟩) 3 3) 3 hrS := by
  have h := sts_lit w1 base [(hrA, .slice (some ⟨ga, 0, none⟩) 1 1), (hrB, .slice (some ⟨gb, 0, none⟩) 1 1), (hrC, .slice none 0 0)] 3 rfl (hrCells ga gb) rfl (fun z hz => by
    have h3 : z = (hrA, .slice (some ⟨ga, 0, none⟩) 1 1) ∨ z = (hrB, .slice (some ⟨gb, 0, none⟩) 1 1) ∨ z = (hrC, .slice none 0 0) := by simpa using hz
    rcases h3 with rfl | rfl | rfl
    · exact ⟨1, hA⟩
    · exact ⟨1, hB⟩
    · exact ⟨0, OwnA.nil _ _⟩) hb (by omega)
  rw [← hw]
  exact h
set_option maxRecDepth 100000 in
set_option maxHeartbeats 16000000 in
theorem hears_walk (a0 : Option Addr) (n0 c0 : Nat) (b0 : List UInt8) (a1 : Option Addr) (n1 c1 : Nat) (b1 : List UInt8) (w : World) (hE : Errs w) (h0 : Bys w w.heap.size a0 n0 b0) (h1 : Bys w w.heap.size a1 n1 b1) :
    Calls Tryz.prog 5 #[.slice a0 n0 c0, .slice a1 n1 c1] w fun e w' => e = .returned (.bool true) ∧ Below w.heap.size w w' := by
  have HA := keepHid (awake_any w hE)
  have H0 := keepHid h0
  have H1 := keepHid h1
  clear hE h0 h1
  go_enter Tryz.func5, Tryz.ntmps5
  go_wp2_with fail
  refine HA.out.mono ?_
  rintro e w1 ⟨rfl, hb1⟩
  have HB1 := keepHid hb1
  clear hb1 HA
  obtain ⟨wA, hwA⟩ : ∃ w', w1.alloc (.cells #[.string ⟨#[97, 98]⟩, .string ⟨#[98]⟩] 28) = w' := ⟨_, rfl⟩
  obtain ⟨wB, hwB⟩ : ∃ w', wA.alloc (.cells #[.string ⟨#[98, 99]⟩, .string ⟨#[99]⟩] 28) = w' := ⟨_, rfl⟩
  obtain ⟨wC, hwC⟩ : ∃ w', wB.alloc (.cells (hrCells w1.heap.size wA.heap.size) 26) = w' := ⟨_, rfl⟩
  have hBA : Below w1.heap.size w1 wA := by rw [← hwA]; exact (Below.refl _ _).alloc (Nat.le_refl _) _
  have hBB : Below wA.heap.size wA wB := by rw [← hwB]; exact (Below.refl _ _).alloc (Nat.le_refl _) _
  have hBC : Below wB.heap.size wB wC := by rw [← hwC]; exact (Below.refl _ _).alloc (Nat.le_refl _) _
  have hOA : OwnA wB w1.heap.size (.slice (some ⟨w1.heap.size, 0, none⟩) 1 1) 1 [⟨[97, 98], [98]⟩] := OwnA.below (by rw [← hwA]; exact OwnA.new w1 w1.heap.size ⟨[97, 98], [98]⟩ (Nat.le_refl _)) hBB
  have hOB : OwnA wB w1.heap.size (.slice (some ⟨wA.heap.size, 0, none⟩) 1 1) 1 [⟨[98, 99], [99]⟩] := by rw [← hwB]; exact OwnA.new wA w1.heap.size ⟨[98, 99], [99]⟩ hBA.size
  have hS := hr_laid hOA hOB (Nat.le_trans hBA.size hBB.size) hwC
  have hKC : Blk wC wB.heap.size 26 (hrCells w1.heap.size wA.heap.size) := by rw [← hwC]; exact Blk.new _ _ _
  have HKC := keepHid hKC
  have HOB := keepHid (hOB.below hBC)
  have HSC := keepHid hS.sts
  have hbC := (HB1.out.trans (hBA.mono HB1.out.size)).trans ((hBB.mono (Nat.le_trans HB1.out.size hBA.size)).trans (hBC.mono (Nat.le_trans HB1.out.size (Nat.le_trans hBA.size hBB.size))))
  have HBC := keepHid hbC
  have HG1C : Hid (w1.heap.size ≤ wC.heap.size) := keepHid (Nat.le_trans hBA.size (Nat.le_trans hBB.size hBC.size))
  have HT0 := keepHid (text_any (k := c0) b0 (H0.out.below hbC))
  have HT1 := keepHid (text_any (k := c1) b1 (H1.out.below hbC))
  have HOF := keepHid (of_any18 hrS_ok (some ⟨wB.heap.size, 0, none⟩) 3 3 (Nat.le_refl _) (by omega) wC HSC.out)
  rw [hrX_is, hr_ofX] at HOF
  unfold hrCells at hwC
  clear hBA hBB hBC hOA hOB hS hKC hbC
  go_upto_region 4 with fail
  try rw [hwA]
  try rw [hwB]
  try rw [hwC]
  clear hwA hwB hwC
  generalize hgs : wB.heap.size = gs at *
  generalize hga : wA.heap.size = ga at *
  clear hgs hga
  obtain ⟨s, hs⟩ : ∃ s, txt b0 ++ [97, 98] = s := ⟨_, rfl⟩
  have hl0 := txt_len b0
  have hl1 := txt_len b1
  have hsl : s.length ≤ 16 := by rw [← hs]; simp; omega
  have hadd : ∀ w, (Op.stringOp .add (strB (txt b0)) ⟨#[97, 98]⟩).run Tryz.prog w = .ok (.string (strB s)) w := fun w => by rw [← hs]; exact run_strAdd _ [97, 98] (by simp; omega) w
  have HSS := keepHid hs
  obtain ⟨u, hu⟩ : ∃ u, txt b1 = u := ⟨_, rfl⟩
  rw [hu] at HT1 hl1
  have hss : (strB s).size = s.length := strB_size s
  obtain ⟨N, hN⟩ : ∃ N, s.length = N := ⟨_, rfl⟩
  have HN := keepHid hN
  rw [hN] at hss hsl
  clear hs hu hl0 hN
  go_wp2_with fail
  refine HT0.out.mono ?_
  rintro e w2 ⟨rfl, rfl⟩
  clear HT0
  go_wp2_with fail
  refine HT1.out.mono ?_
  rintro e w3 ⟨rfl, rfl⟩
  clear HT1 hadd
  go_wp2_with fail
  refine HOF.out.mono ?_
  rintro e w4 ⟨O4, gp, A4, k4, rfl, ho4, hp4, hl4, ha4, hb4⟩
  have hok := (of_ok hrX_ok).1
  rw [hr_ofX] at hok
  have HM0 : Hid (HrMid wC w4 O4 gp hrX (putsP hrX (hp0 []) (s.take 0)) 0) := keepHid ⟨hp4, hl4, hb4, hok, ⟨Nat.le_refl _, Nat.le_refl _⟩⟩
  have HR0 : Hid (HrAt s 0 (-1)) := keepHid ⟨.inl ⟨rfl, rfl, .inl rfl⟩⟩
  clear ho4 hp4 hl4 ha4 hb4 hok HOF
  go_wp2_with fail
  go_loopw [11, 10] (fun iv zv wr => ∃ (i : Nat) (z : Int) (O : Nat → Prop), i ≤ N ∧ iv = .int .i64 (i : Int) ∧ zv = .int .i64 z ∧ -1 ≤ z ∧ z ≤ (i : Int) ∧ Hid (HrAt s i z) ∧ Hid (HrMid wC wr O gp hrX (putsP hrX (hp0 []) (s.take i)) i)) (fun iv _ _ => N - (intOf iv).toNat)
  case atStart => exact ⟨0, -1, O4, Nat.zero_le _, rfl, rfl, by omega, by omega, HR0, HM0⟩
  case round =>
    obtain ⟨i, z, O, hi, rfl, rfl, hz1, hz2, HR, HM⟩ := hrel
    generalize wr = wq at *
    by_cases hlt : i < N
    · have hltI : (i : Int) < (N : Int) := by omega
      obtain ⟨c, hc⟩ : ∃ c, s[i]? = some c := ⟨_, List.getElem?_eq_getElem (by rw [HN.out]; exact hlt)⟩
      have hidx := fun w => run_idx hc (i : Int) rfl w
      have HNX := keepHid (hr_next HR.out hc)
      have HPU := keepHid (hr_put_any hrX_ok HM.out (by omega) c)
      rw [← puts_snoc, ← List.take_succ_of hc] at HPU HNX
      clear hc HR HM HM0 HR0
      go_wp2_with fail
      refine HPU.out.mono ?_
      rintro e w5 ⟨O5, A5, n5, k5, rfl, hm5, _, _⟩
      have HM5 := keepHid hm5
      have HAT := keepHid (at_any18 hm5.ply)
      clear hm5 HPU hidx
      rcases HNX.out with ⟨rfl, ⟨hp, hr⟩ | ⟨hp, hr⟩⟩ | ⟨hz, hr⟩
      · rw [hp, show ((0 : Nat) : Int) = 0 from rfl] at HAT
        have HR5 := keepHid hr
        clear hp hr HNX
        go_wp2_with (first | ((with_reducible refine HAT.out.mono ?_); rintro e w6 ⟨rfl, rfl⟩))
        go_roundw
        case rel => exact ⟨i + 1, -1, O5, by omega, by go_num, rfl, by omega, by omega, HR5, HM5⟩
        case measure => simp [intOf]; omega
      · rw [hp, show ((1 : Nat) : Int) = 1 from rfl] at HAT
        have HR5 := keepHid hr
        clear hp hr HNX
        go_wp2_with (first | ((with_reducible refine HAT.out.mono ?_); rintro e w6 ⟨rfl, rfl⟩))
        go_roundw
        case rel => exact ⟨i + 1, (i : Int) + 1, O5, by omega, by go_num, by first | rfl | trivial, by omega, by omega, HR5, HM5⟩
        case measure => simp [intOf]; omega
      · have HR5 := keepHid hr
        have hzn : ¬ z < 0 := by omega
        have hzd : decide (z < 0) = false := by simp; omega
        obtain ⟨q, hq⟩ : ∃ q, (putsP hrX (hp0 []) (s.take (i + 1))).pos = q := ⟨_, rfl⟩
        rw [hq] at HAT
        clear hr HNX hq
        by_cases hq1 : q = 1
        · subst hq1
          rw [show ((1 : Nat) : Int) = 1 from rfl] at HAT
          go_wp2_with (first | ((with_reducible refine HAT.out.mono ?_); rintro e w6 ⟨rfl, rfl⟩))
          go_roundw
          case rel => exact ⟨i + 1, z, O5, by omega, by go_num, rfl, by omega, by omega, HR5, HM5⟩
          case measure => simp [intOf]; omega
        · have hqb : ((q : Int) == 1) = false := by simp; omega
          go_wp2_with (first | ((with_reducible refine HAT.out.mono ?_); rintro e w6 ⟨rfl, rfl⟩))
          go_roundw
          case rel => exact ⟨i + 1, z, O5, by omega, by go_num, rfl, by omega, by omega, HR5, HM5⟩
          case measure => simp [intOf]; omega
    · obtain rfl : i = N := by omega
      have hlast := hr_last (l := txt b0) (z := z) (by rw [HSS.out, HN.out]; exact HR.out)
      rw [HSS.out, HN.out] at hlast
      obtain ⟨j, rfl, hjN, hj1⟩ := hlast
      have HJ1 := keepHid hj1
      have hzn : ¬ (j : Int) < 0 := by omega
      have HBQ := keepHid HM.out.bel
      have HS2 := keepHid (StS.tail (x := hrA) (ss := hrT) (HSC.out.below HBQ.out (Nat.le_refl _)))
      have HOFQ := keepHid (of_any18 hrT_ok (some ⟨gs, 7, none⟩) 2 2 (Nat.le_refl _) (by omega) wq HS2.out)
      rw [hrY_is, hr_ofY] at HOFQ
      have hcut := run_from7 gs
      have hfrom := fun w => run_from (l := s) (k := j) (by rw [HN.out]; exact hjN) (j : Int) rfl w
      have hdl : (s.drop j).length ≤ 16 := by rw [List.length_drop, HN.out]; omega
      have hadd2 : ∀ w, (Op.stringOp .add (strB (s.drop j)) (strB u)).run Tryz.prog w = .ok (.string (strB (s.drop j ++ u))) w := fun w => run_strAdd _ _ (by omega) w
      have hiN : ¬ (i : Int) < (i : Int) := by omega
      obtain ⟨rs, hrs⟩ : ∃ r, s.drop j ++ u = r := ⟨_, rfl⟩
      have HRL : Hid (rs.length ≤ 30) := keepHid (by rw [← hrs, List.length_append]; omega)
      rw [hrs] at hadd2
      clear hj1 HR HM hz1 hz2 HR0 HM0 HS2 hrs
      go_wp2_with fail
      refine HOFQ.out.mono ?_
      rintro e w5 ⟨O5, gq, A5, k5, rfl, ho5, hp5, hl5, ha5, hb5⟩
      have hok := (of_ok hrY_ok).1
      rw [hr_ofY] at hok
      have HQ5 : Hid (HrMid wC w5 O5 gq hrY (hq0 []) 0) := keepHid ⟨hp5, fun b hb => Nat.le_trans HBQ.out.size (hl5 b hb), HBQ.out.trans (hb5.mono HBQ.out.size), hok, ⟨Nat.le_refl _, Nat.le_refl _⟩⟩
      have HB5 := keepHid HQ5.out.bel
      have HG5 : Hid (gs < w5.heap.size) := keepHid (Nat.lt_of_lt_of_le HKC.out.lt HB5.out.size)
      have HK5 := keepHid (HKC.out.below HB5.out HKC.out.lt)
      clear ho5 hp5 hl5 ha5 hb5 hok HOFQ hcut
      have x7 := HK5.out.cell 7; have x8 := HK5.out.cell 8; have x9 := HK5.out.cell 9; have x10 := HK5.out.cell 10; have x11 := HK5.out.cell 11; have x12 := HK5.out.cell 12; have x13 := HK5.out.cell 13
      have y14 := HK5.out.cell 14; have y15 := HK5.out.cell 15; have y16 := HK5.out.cell 16; have y17 := HK5.out.cell 17; have y18 := HK5.out.cell 18; have y19 := HK5.out.cell 19; have y20 := HK5.out.cell 20
      simp [hrCells] at x7 x8 x9 x10 x11 x12 x13 y14 y15 y16 y17 y18 y19 y20
      have hg5 : gs < w5.heap.size := HG5.out
      have HOB5 := keepHid (HOB.out.below HB5.out)
      have hOA : OwnA (w5.alloc (.cells #[.string ⟨#[97, 98]⟩, .string ⟨#[98]⟩] 28)) w1.heap.size (.slice (some ⟨w5.heap.size, 0, none⟩) 1 1) 1 [⟨[97, 98], [98]⟩] := OwnA.low (OwnA.new w5 w5.heap.size ⟨[97, 98], [98]⟩ (Nat.le_refl _)) (Nat.le_trans HG1C.out HB5.out.size)
      have hOBx := HOB5.out.below ((Below.refl _ w5).alloc (Nat.le_refl _) (.cells #[.string ⟨#[97, 98]⟩, .string ⟨#[98]⟩] 28))
      have hSX := hr_laid hOA hOBx (Nat.le_trans (Nat.le_trans HG1C.out HB5.out.size) (Below.refl _ w5 |>.alloc (Nat.le_refl _) (.cells #[.string ⟨#[97, 98]⟩, .string ⟨#[98]⟩] 28)).size) rfl
      have hszA : (w5.alloc (.cells #[.string ⟨#[97, 98]⟩, .string ⟨#[98]⟩] 28)).heap.size = w5.heap.size + 1 := by simp
      rw [hszA] at hSX
      have hbX : Below w5.heap.size w5 (((w5.alloc (.cells #[.string ⟨#[97, 98]⟩, .string ⟨#[98]⟩] 28)).alloc (.cells (hrCells w5.heap.size ga) 26)).drew) := (((Below.refl _ w5).alloc (Nat.le_refl _) (.cells #[.string ⟨#[97, 98]⟩, .string ⟨#[98]⟩] 28)).alloc (by rw [hszA]; omega) _).drew
      have HBX := keepHid hbX
      have HOFR := keepHid (of_any18 hrS_ok (some ⟨w5.heap.size + 1, 0, none⟩) 3 3 (Nat.le_refl _) (by omega) (((w5.alloc (.cells #[.string ⟨#[97, 98]⟩, .string ⟨#[98]⟩] 28)).alloc (.cells (hrCells w5.heap.size ga) 26)).drew) (hSX.sts.below (Below.refl _ _).drew (Nat.le_refl _)))
      rw [hrX_is, hr_ofX] at HOFR
      unfold hrCells at HOFR HBX
      clear hOA hOBx hSX hszA hbX
      go_upto_region 18 with fail
      clear hfrom hadd2
      have hokr := (of_ok hrX_ok).1
      rw [hr_ofX] at hokr
      have HOKR := keepHid hokr
      clear hokr
      go_cut [15] (fun sv wx => ∃ Or gr, sv = .pointer (some ⟨gr, 0, none⟩) ∧ Hid (HrMid wC wx Or gr hrX (hp0 []) 0) ∧ Hid (HrMid wC wx O5 gq hrY (hq0 []) 0) ∧ Hid ((∀ b, Or b → w5.heap.size ≤ b) ∧ w5.heap.size ≤ wx.heap.size))
      case first =>
        go_region_with (go_at_call 8; (with_reducible refine HOFR.out.mono ?_); rintro e w6 ⟨O6, gr, A6, k6, rfl, ho6, hp6, hl6, ha6, hb6⟩; have HP6 := keepHid hp6; have HL6 := keepHid hl6; have HB6 := keepHid (HBX.out.trans (hb6.mono HBX.out.size)); clear ho6 hp6 hl6 ha6 hb6)
        all_goals
          go_wp2_with fail
          go_meet
          case rel =>
            have hbz := HB6.out
            exact ⟨O6, gr, rfl, keepHid (HrMid.mk HP6.out (fun b hb => Nat.le_trans HB5.out.size (Nat.le_trans HBX.out.size (HL6.out b hb))) (HB5.out.trans (hbz.mono HB5.out.size)) HOKR.out ⟨Nat.le_refl _, Nat.le_refl _⟩), keepHid (HQ5.out.turn (S := fun _ => False) (Turn.of_below hbz) (fun _ e => e.elim) (HB5.out.trans (hbz.mono HB5.out.size))), keepHid ⟨fun b hb => Nat.le_trans HBX.out.size (HL6.out b hb), HB6.out.size⟩⟩
      case rest =>
        obtain ⟨O6, gr, rfl, HR6, HQ6, HL6⟩ := hcut
        generalize wc = w6 at *
        clear x7 x8 x9 x10 x11 x12 x13 y14 y15 y16 y17 y18 y19 y20 HOFR HBX HOB5 HK5
        have HQL : Hid (∀ b, O5 b → b < w5.heap.size) := keepHid (fun b hb => (HQ5.out.ply.1 b hb).2)
        go_wp2_with fail
        go_loopw [17] (fun iv wr => ∃ (i2 : Nat) (Or : Nat → Prop), i2 ≤ j ∧ iv = .int .i64 (i2 : Int) ∧ Hid (HrMid wC wr Or gr hrX (putsP hrX (hp0 []) (s.take i2)) i2) ∧ Hid (HrMid wC wr O5 gq hrY (hq0 []) 0) ∧ Hid ((∀ b, Or b → w5.heap.size ≤ b) ∧ w5.heap.size ≤ wr.heap.size)) (fun iv _ => j - (intOf iv).toNat)
        case atStart => exact ⟨0, O6, Nat.zero_le _, rfl, HR6, HQ6, HL6⟩
        case round =>
          obtain ⟨i2, Or, hi2, rfl, HR, HQ, HL⟩ := hrel
          generalize wr = wz at *
          clear HR6 HQ6 HL6
          by_cases hlt2 : i2 < j
          · have hltI : (i2 : Int) < (j : Int) := by omega
            obtain ⟨c, hc⟩ : ∃ c, s[i2]? = some c := ⟨_, List.getElem?_eq_getElem (by rw [HN.out]; omega)⟩
            have hidx := fun w => run_idx hc (i2 : Int) rfl w
            have HPU := keepHid (hr_put_any hrX_ok HR.out (by omega) c)
            rw [← puts_snoc, ← List.take_succ_of hc] at HPU
            have hiN2 : (i2 : Int) < (i : Int) := by omega
            clear hc
            go_wp2_with fail
            refine HPU.out.mono ?_
            rintro e w7 ⟨O7, A7, n7, k7, rfl, hm7, hs7, ht7⟩
            have HM7 := keepHid hm7
            have HQ7 := keepHid (HQ.out.turn ht7 (fun b hb hb5 => by have := HL.out.1 b hb; have := HQL.out b hb5; omega) hm7.bel)
            have HL7 : Hid ((∀ b, O7 b → w5.heap.size ≤ b) ∧ w5.heap.size ≤ w7.heap.size) := keepHid ⟨fun b hb => by
              rcases hs7 b hb with h | h
              · exact HL.out.1 b h
              · exact Nat.le_trans HL.out.2 h, Nat.le_trans HL.out.2 ht7.size⟩
            clear hm7 hs7 ht7 HPU hidx
            go_wp2
            go_roundw
            case rel => exact ⟨i2 + 1, O7, by omega, by go_num, HM7, HQ7, HL7⟩
            case measure => simp [intOf]; omega
          · obtain rfl : i2 = j := by omega
            rw [HJ1.out] at HR
            have hrsz : (strB rs).size = rs.length := strB_size rs
            obtain ⟨M, hM⟩ : ∃ M, rs.length = M := ⟨_, rfl⟩
            have HM := keepHid hM
            have hM30 : M ≤ 30 := by rw [← hM]; exact HRL.out
            rw [hM] at hrsz
            have HD0 : Hid (∀ b, O5 b → ¬ Or b) := keepHid (fun b h1 h2 => by have := HQL.out b h1; have := HL.out.1 b h2; omega)
            have HS0 : Hid (Sim (hq0 []) (hp1 [])) := keepHid (.inl ⟨[], rfl, rfl⟩)
            have hi2i : i2 ≤ 16 := by omega
            clear hM HL HJ1
            go_wp2_with fail
            go_loopw [18] (fun iv wr => ∃ (i3 : Nat) (q r : Pd) (Oq Or : Nat → Prop), i3 ≤ M ∧ iv = .int .i64 (i3 : Int) ∧ Hid (HrMid wC wr Oq gq hrY q i3) ∧ Hid (HrMid wC wr Or gr hrX r (i2 + i3)) ∧ Hid (Sim q r) ∧ Hid (∀ b, Oq b → ¬ Or b)) (fun iv _ => M - (intOf iv).toNat)
            case atStart => exact ⟨0, hq0 [], hp1 [], O5, Or, Nat.zero_le _, rfl, HQ, HR, HS0, HD0⟩
            case round =>
              obtain ⟨i3, q, r, Oq, Or3, hi3, rfl, HQ3, HR3, HS3, HD3⟩ := hrel
              generalize wr = wy at *
              clear HQ HR HS0 HD0
              by_cases hlt3 : i3 < M
              · have hltI : (i3 : Int) < (M : Int) := by omega
                obtain ⟨c, hc⟩ : ∃ c, rs[i3]? = some c := ⟨_, List.getElem?_eq_getElem (by rw [HM.out]; exact hlt3)⟩
                have hidx := fun w => run_idx hc (i3 : Int) rfl w
                have HPQ := keepHid (hr_put_any hrY_ok HQ3.out (by omega) c)
                have HSM := keepHid (sim_put HS3.out c)
                clear hc
                go_wp2_with fail
                refine HPQ.out.mono ?_
                rintro e w7 ⟨O7, A7, n7, k7, rfl, hm7, hs7, ht7⟩
                have HM7 := keepHid hm7
                have hr7 := HR3.out.turn ht7 (fun b h1 h2 => HD3.out b h1 h2) hm7.bel
                have HR7 := keepHid hr7
                have HPR := keepHid (hr_put_any hrX_ok hr7 (by omega) c)
                have HO7 : Hid (∀ b, O7 b → (Oq b ∨ wy.heap.size ≤ b) ∧ b < w7.heap.size) := keepHid (fun b hb => ⟨hs7 b hb, (hm7.ply.1 b hb).2⟩)
                have HZ7 : Hid (wy.heap.size ≤ w7.heap.size) := keepHid ht7.size
                clear hm7 hs7 ht7 hr7 HPQ
                go_wp2_with fail
                refine HPR.out.mono ?_
                rintro e w8 ⟨O8, A8, n8, k8, rfl, hm8, hs8, ht8⟩
                have HM8 := keepHid hm8
                have HD8 : Hid (∀ b, O7 b → ¬ O8 b) := keepHid (fun b h1 h2 => by
                  obtain ⟨h3, h4⟩ := HO7.out b h1
                  have h6 := HZ7.out
                  rcases hs8 b h2 with h5 | h5
                  · rcases h3 with h3 | h3
                    · exact HD3.out b h3 h5
                    · have := (HR3.out.ply.1 b h5).2; omega
                  · omega)
                have HQ8 := keepHid (HM7.out.turn ht8 (fun b h1 h2 => by
                  obtain ⟨h3, h4⟩ := HO7.out b h2
                  rcases h3 with h3 | h3
                  · exact HD3.out b h3 h1
                  · have := (HR3.out.ply.1 b h1).2; omega) hm8.bel)
                clear hm8 hs8 ht8 HPR hidx
                go_wp2
                go_roundw
                case rel => exact ⟨i3 + 1, _, _, O7, O8, by omega, by go_num, HQ8, HM8, HSM, HD8⟩
                case measure => simp [intOf]; omega
              · obtain rfl : i3 = M := by omega
                have HSQ := keepHid (state_any18 HQ3.out.ply)
                have HSR := keepHid (state_any18 HR3.out.ply)
                have HBE := keepHid HR3.out.bel
                rw [sim_st HS3.out] at HSQ
                obtain ⟨z, hz⟩ : ∃ z, r.st = z := ⟨_, rfl⟩
                rw [hz] at HSQ HSR
                clear hz HQ3 HR3 HS3 HD3
                go_wp2_with (first | ((with_reducible refine HSQ.out.mono ?_); rintro e w9 ⟨rfl, rfl⟩) | ((with_reducible refine HSR.out.mono ?_); rintro e w9 ⟨rfl, rfl⟩))
                go_ret
                exact ⟨rfl, HBC.out.trans (HBE.out.mono HBC.out.size)⟩
end Go.Proofs.YtgndcgknedmalaaGreatDoor
