/-
  Package dialog's parser: one token after the other.
-/
import Derived.Test.YtgndcgknedmalaaGreatDoorTkA
import Derived.Test.YtgndcgknedmalaaGreatDoorDialogPlain
import Derived.Test.YtgndcgknedmalaaGreatDoorTokenOps
import Derived.WalkKit
import Derived.ProofKit
import Derived.WalkLawsBesides
import Derived.IntWalk
import Derived.RegionTactic
import Derived.LoopTactic
import Derived.Test.YtgndcgknedmalaaGreatDoorDialogRows
namespace Go.Proofs.YtgndcgknedmalaaGreatDoor
open Go.RowKit
set_option linter.unusedVariables false

/-- The parser in block g: what is left, and the error. -/
structure ParIn (w : World) (g gt OFF m c : Nat) (s : PS) : Prop where
  blk : Blk w g 84 #[.slice (some ⟨gt, OFF, none⟩) m c, errM s.err]
  ne : gt ≠ g
  tks : TkA w ⟨gt, OFF, none⟩ s.ts
  len : s.ts.length = m
  cap : m ≤ c
  max : c ≤ 9223372036854775807
  ended : Ended s.ts
  few : s.ts.length ≤ 4097
def Par (w : World) (g gt : Nat) (s : PS) : Prop := ∃ OFF m c, ParIn w g gt OFF m c s
abbrev OneG (g : Nat) (w w' : World) : Prop := Turn (fun b => b = g) w w'
theorem TkA.keep {w w' : World} {ad : Addr} {ts : List Tk} (h : TkA w ad ts) (hs : w.heap.size ≤ w'.heap.size) (hk : w'.heap[ad.block]? = w.heap[ad.block]?) : TkA w' ad ts := fun j z hz => by
  obtain ⟨h0, h1, h2, h3, h4⟩ := h j z hz
  have hc : ∀ p : Addr, p.block = ad.block → w'.cell? p = w.cell? p := fun p hp => World.cell?_of_block (by rw [hp]; exact hk)
  have e : (ad.add (j * 4)).block = ad.block := ad_block _ _
  exact ⟨Nat.lt_of_lt_of_le h0 hs, (hc _ e).trans h1, (hc (⟨_, _, none⟩ : Addr) e).trans h2, (hc (⟨_, _, none⟩ : Addr) e).trans h3, (hc (⟨_, _, none⟩ : Addr) e).trans h4⟩
theorem ParIn.lt {w : World} {g gt OFF m c : Nat} {s : PS} (h : ParIn w g gt OFF m c s) : g < w.heap.size := h.blk.lt
theorem ParIn.tlt {w : World} {g gt OFF m c : Nat} {s : PS} (h : ParIn w g gt OFF m c s) : gt < w.heap.size := by
  have h0 := h.ended.pos
  exact (h.tks 0 _ (List.getElem?_eq_getElem h0)).1
theorem ParIn.below {w w' : World} {g gt OFF m c : Nat} {s : PS} (h : ParIn w g gt OFF m c s) (hb : Below w.heap.size w w') : ParIn w' g gt OFF m c s :=
  ⟨h.blk.below hb h.lt, h.ne, h.tks.below hb (Nat.le_refl _), h.len, h.cap, h.max, h.ended, h.few⟩
theorem Par.below {w w' : World} {g gt : Nat} {s : PS} (h : Par w g gt s) (hb : Below w.heap.size w w') : Par w' g gt s := by
  obtain ⟨OFF, m, c, h⟩ := h
  exact ⟨OFF, m, c, h.below hb⟩
theorem Par.lt {w : World} {g gt : Nat} {s : PS} (h : Par w g gt s) : g < w.heap.size := by
  obtain ⟨OFF, m, c, h⟩ := h
  exact h.lt
theorem Par.tlt {w : World} {g gt : Nat} {s : PS} (h : Par w g gt s) : gt < w.heap.size := by
  obtain ⟨OFF, m, c, h⟩ := h
  exact h.tlt
theorem Par.ne {w : World} {g gt : Nat} {s : PS} (h : Par w g gt s) : gt ≠ g := by
  obtain ⟨OFF, m, c, h⟩ := h
  exact h.ne
theorem Par.ended {w : World} {g gt : Nat} {s : PS} (h : Par w g gt s) : Ended s.ts := by
  obtain ⟨OFF, m, c, h⟩ := h
  exact h.ended
theorem Par.few {w : World} {g gt : Nat} {s : PS} (h : Par w g gt s) : s.ts.length ≤ 4097 := by
  obtain ⟨OFF, m, c, h⟩ := h
  exact h.few
theorem ParIn.err {w : World} {g gt OFF m c : Nat} {s : PS} (h : ParIn w g gt OFF m c s) (e : Option (Nat × Nat)) : ParIn (w.setCell ⟨g, 1, none⟩ (errM e)) g gt OFF m c { s with err := e } :=
  ⟨h.blk.put 1 _, h.ne, h.tks.keep (by simp [World.setCell]) (Below.heap_setCell _ _ _ _ h.ne), h.len, h.cap, h.max, h.ended, h.few⟩
theorem tka_tail {w : World} {gt OFF : Nat} {t : Tk} {r : List Tk} (h : TkA w ⟨gt, OFF, none⟩ (t :: r)) : TkA w ⟨gt, OFF + 4, none⟩ r := fun j z hz => by
  have h1 := h (j + 1) z (by simpa using hz)
  have e : (⟨gt, OFF + 4, none⟩ : Addr).add (j * 4) = (⟨gt, OFF, none⟩ : Addr).add ((j + 1) * 4) := by
    by_cases hj : j = 0
    · subst hj; rfl
    · unfold Addr.add
      rw [if_neg (show ¬ j * 4 = 0 by omega), if_neg (show ¬ (j + 1) * 4 = 0 by omega)]
      show Addr.mk gt (OFF + 4 + j * 4) none = Addr.mk gt (OFF + (j + 1) * 4) none
      rw [show OFF + 4 + j * 4 = OFF + (j + 1) * 4 by omega]
  rw [e]
  exact h1
theorem ParIn.tail {w : World} {g gt OFF m c : Nat} {s : PS} (h : ParIn w g gt OFF (m + 1) (c + 1) s) (hk : (hdP s).kind ≠ 0) (he : s.err = none) : ParIn (w.setCell ⟨g, 0, none⟩ (.slice (some ⟨gt, OFF + 4, none⟩) m c)) g gt (OFF + 4) m c ⟨s.ts.tail, none⟩ := by
  obtain ⟨ts, err⟩ := s
  cases ts with
  | nil => have := h.len; simp at this
  | cons t r =>
    obtain rfl : err = none := he
    exact ⟨h.blk.put 0 _, h.ne, (tka_tail h.tks).keep (by simp [World.setCell]) (Below.heap_setCell _ _ _ _ h.ne), by have := h.len; simpa using this, by have := h.cap; omega, by have := h.max; omega, h.ended.cons hk, by have := h.few; simp at this ⊢; omega⟩
theorem fail_some {no : Nat} {t : Tk} {s : PS} {x : Nat × Nat} (h : s.err = some x) : failP no t s = s := by unfold failP; rw [if_neg (by rw [h]; simp)]
theorem fail_none {no : Nat} {t : Tk} {s : PS} (h : s.err = none) : failP no t s = { s with err := some (no, t.pos) } := by unfold failP; rw [if_pos h]
theorem fail_err (no : Nat) (t : Tk) (s : PS) : ∃ x, (failP no t s).err = some x := by
  cases h : s.err with
  | none => exact ⟨_, by rw [fail_none h]⟩
  | some x => exact ⟨x, by rw [fail_some h, h]⟩
theorem errM_some (x : Nat × Nat) : errM (some x) = .iface 136 (.agg #[.int .i64 (x.1 : Int), .int .i64 (x.2 : Int)]) := rfl
set_option maxHeartbeats 4000000 in
theorem fail_any (no : Nat) (t : Tk) (s : PS) (g gt : Nat) (w : World) (hP : Par w g gt s) :
    Calls Tryz.prog 65 #[.pointer (some ⟨g, 0, none⟩), .int .i64 (no : Int), tkV t] w fun e w' => e = .returned (.tuple #[]) ∧ Par w' g gt (failP no t s) ∧ OneG g w w' := by
  obtain ⟨OFF, m, c, h⟩ := hP
  have HW := keepHid (wrap_any (no : Int) (t.pos : Int))
  obtain ⟨w1, hw1⟩ : ∃ w1, w.alloc (.cells #[.int .i64 (t.kind : Int), .string (strB t.text), .int .i64 (t.val : Int), .int .i64 (t.pos : Int)] 87) = w1 := ⟨_, rfl⟩
  have hK1 : Blk w1 w.heap.size 87 #[.int .i64 (t.kind : Int), .string (strB t.text), .int .i64 (t.val : Int), .int .i64 (t.pos : Int)] := by rw [← hw1]; exact Blk.new w _ _
  have hB1 : Below w.heap.size w w1 := by rw [← hw1]; exact (Below.refl _ _).alloc (Nat.le_refl _) _
  have h1 := h.below hB1
  have HO : Hid (OneG g w w1) := keepHid (Turn.of_below hB1)
  have a3 : w1.cell? ⟨w.heap.size, 3, none⟩ = some (.int .i64 (t.pos : Int)) := hK1.cell 3
  have c1 : w1.cell? ⟨g, 1, none⟩ = some (errM s.err) := h1.blk.cell 1
  have f1 : w1.frozen? ⟨g, 1, none⟩ = false := h1.blk.frozen 1
  have H1 := keepHid h1
  unfold tkV tkA
  clear h hK1 hB1 h1
  cases he : s.err with
  | some x =>
    rw [he, errM_some] at c1
    have HE := keepHid he
    clear he
    generalize strB t.text = X at *
    go_enter Tryz.func65, Tryz.ntmps65
    go_wp2_with fail
    try rw [hw1]
    refine bodyPost_end (results_none rfl _ _ _) rfl ?_
    exact ⟨rfl, by rw [fail_some HE.out]; exact ⟨OFF, m, c, H1.out⟩, HO.out⟩
  | none =>
    rw [he] at c1
    have c1' : w1.cell? ⟨g, 1, none⟩ = some .nilIface := c1
    have HE := keepHid he
    have HF : Hid (faultV (no : Int) (t.pos : Int) = errM (some (no, t.pos))) := keepHid rfl
    clear he c1
    generalize strB t.text = X at *
    generalize (t.pos : Int) = P at *
    generalize (no : Int) = NO at *
    go_enter Tryz.func65, Tryz.ntmps65
    go_wp2_with fail
    try rw [hw1]
    refine (HW.out _).mono ?_
    rintro e w2 ⟨rfl, rfl⟩
    have hf : faultV NO P = .iface 136 (.agg #[.int .i64 NO, .int .i64 P]) := rfl
    rw [hf]
    rw [hf] at HF
    clear hf
    go_wp2
    refine bodyPost_end (results_none rfl _ _ _) rfl ?_
    exact ⟨rfl, by rw [fail_none HE.out, HF.out]; exact ⟨OFF, m, c, H1.out.err _⟩, HO.out.setCell (.inl rfl) _⟩
set_option maxHeartbeats 4000000 in
theorem is_any (t : Tk) (k : Nat) (x : List UInt8) (w : World) :
    Calls Tryz.prog 63 #[tkV t, .int .i64 (k : Int), .string (strB x)] w fun e w' => e = .returned (.bool (isT t k x)) ∧ Below w.heap.size w w' := by
  obtain ⟨w1, hw1⟩ : ∃ w1, w.alloc (.cells #[.int .i64 (t.kind : Int), .string (strB t.text), .int .i64 (t.val : Int), .int .i64 (t.pos : Int)] 87) = w1 := ⟨_, rfl⟩
  have hK1 : Blk w1 w.heap.size 87 #[.int .i64 (t.kind : Int), .string (strB t.text), .int .i64 (t.val : Int), .int .i64 (t.pos : Int)] := by rw [← hw1]; exact Blk.new w _ _
  have hB1 : Below w.heap.size w w1 := by rw [← hw1]; exact (Below.refl _ _).alloc (Nat.le_refl _) _
  have a0 : w1.cell? ⟨w.heap.size, 0, none⟩ = some (.int .i64 (t.kind : Int)) := hK1.cell 0
  have a1 : w1.cell? ⟨w.heap.size, 1, none⟩ = some (.string (strB t.text)) := hK1.cell 1
  have HB1 := keepHid hB1
  have hbeq := strB_beq t.text x
  have HI : Hid (isT t k x = (decide (t.kind = k) && decide (t.text = x))) := keepHid rfl
  unfold tkV tkA
  clear hK1 hB1
  generalize isT t k x = R at *
  generalize strB t.text = X at *
  generalize strB x = Y at *
  by_cases h1 : t.kind = k
  · have e1 : ((t.kind : Int) == (k : Int)) = true := by simp [h1]
    by_cases h2 : t.text = x
    · rw [decide_eq_true h1, decide_eq_true h2] at HI
      rw [decide_eq_true h2] at hbeq
      clear h1 h2
      go_enter Tryz.func63, Tryz.ntmps63
      go_wp2
      try rw [hw1]
      go_ret
      exact ⟨by rw [HI.out]; rfl, HB1.out⟩
    · rw [decide_eq_true h1, decide_eq_false h2] at HI
      rw [decide_eq_false h2] at hbeq
      clear h1 h2
      go_enter Tryz.func63, Tryz.ntmps63
      go_wp2
      try rw [hw1]
      go_ret
      exact ⟨by rw [HI.out]; rfl, HB1.out⟩
  · have e1 : ((t.kind : Int) == (k : Int)) = false := by simp; omega
    rw [decide_eq_false h1] at HI
    clear h1 hbeq
    go_enter Tryz.func63, Tryz.ntmps63
    go_wp2
    try rw [hw1]
    go_ret
    exact ⟨by rw [HI.out]; rfl, HB1.out⟩
theorem turn_put4 {S : Nat → Prop} {w0 w : World} {g : Nat} (h : Turn S w0 w) (hg : w0.heap.size ≤ g) (p q r s : Value) : Turn S w0 ((((w.setCell ⟨g, 0, none⟩ p).setCell ⟨g, 1, none⟩ q).setCell ⟨g, 2, none⟩ r).setCell ⟨g, 3, none⟩ s) :=
  (((h.setCell (p := ⟨g, 0, none⟩) (.inr hg) p).setCell (p := ⟨g, 1, none⟩) (.inr hg) q).setCell (p := ⟨g, 2, none⟩) (.inr hg) r).setCell (p := ⟨g, 3, none⟩) (.inr hg) s
theorem ParIn.far {w w' : World} {g gt OFF m c : Nat} {s : PS} (h : ParIn w g gt OFF m c s) (hs : w.heap.size ≤ w'.heap.size) (h1 : w'.heap[g]? = w.heap[g]?) (h2 : w'.heap[gt]? = w.heap[gt]?) : ParIn w' g gt OFF m c s :=
  ⟨h1.trans h.blk, h.ne, h.tks.keep hs h2, h.len, h.cap, h.max, h.ended, h.few⟩
theorem ParIn.put4 {w : World} {g gt OFF m c b : Nat} {s : PS} (h : ParIn w g gt OFF m c s) (h1 : g ≠ b) (h2 : gt ≠ b) (p q r u : Value) : ParIn ((((w.setCell ⟨b, 0, none⟩ p).setCell ⟨b, 1, none⟩ q).setCell ⟨b, 2, none⟩ r).setCell ⟨b, 3, none⟩ u) g gt OFF m c s :=
  h.far (by simp [World.setCell]) ((Below.heap_setCell _ _ _ _ h1).trans ((Below.heap_setCell _ _ _ _ h1).trans ((Below.heap_setCell _ _ _ _ h1).trans (Below.heap_setCell _ _ _ _ h1)))) ((Below.heap_setCell _ _ _ _ h2).trans ((Below.heap_setCell _ _ _ _ h2).trans ((Below.heap_setCell _ _ _ _ h2).trans (Below.heap_setCell _ _ _ _ h2))))
theorem sizeT : (Tryz.prog.info? 87).map (·.size) = some 4 := by kernel_rfl
theorem run_tail4 (gt OFF m c : Nat) (hm : m ≤ c) (hz : 0 < c) (hc : c + 1 ≤ 9223372036854775807) (W : World) :
    (Instr.slice 79 (.slice (some ⟨gt, OFF, none⟩) (m + 1) (c + 1)) (some (.int .i64 1)) none none).run Tryz.prog W = .ok (.slice (some ⟨gt, OFF + 4, none⟩) m c) W := by
  rw [run_slice_l W 79 _ _ _ (by kernel_rfl) .i64 1 (by omega) (by omega)]
  have hs : ∀ W, (sizeOf (Tryz.prog.elem 79)).run Tryz.prog W = .ok 4 W := fun W => by kernel_rfl
  rw [hs]
  have e : (⟨gt, OFF, none⟩ : Addr).add (1 * 4) = ⟨gt, OFF + 4, none⟩ := by unfold Addr.add; split <;> simp_all
  simp [sliced]
  rw [if_neg (by omega)]
  rfl
theorem tak_kind {k : Nat} {s : PS} (h : (hdP s).kind ≠ k) : takP k s = (zT, failP 2 (hdP s) s) := by unfold takP; rw [if_pos h]
theorem tak_err {k : Nat} {s : PS} {x : Nat × Nat} (h : (hdP s).kind = k) (he : s.err = some x) : takP k s = (zT, s) := by unfold takP; rw [if_neg (by simp [h]), if_pos (by rw [he]; simp)]
theorem tak_ok {k : Nat} {s : PS} (h : (hdP s).kind = k) (he : s.err = none) : takP k s = (hdP s, ⟨s.ts.tail, none⟩) := by unfold takP; rw [if_neg (by simp [h]), if_neg (by simp [he]), he]
theorem hd_cons {t : Tk} {r : List Tk} {e : Option (Nat × Nat)} : hdP ⟨t :: r, e⟩ = t := rfl
def zTV : Array Value := #[.int .i64 0, .string ⟨#[]⟩, .int .i64 0, .int .i64 0]
theorem zT_v : tkV zT = .agg #[.int .i64 0, .string ⟨#[]⟩, .int .i64 0, .int .i64 0] := rfl
set_option maxRecDepth 100000 in
set_option maxHeartbeats 4000000 in
theorem dtake_any (k : Nat) (hk0 : k ≠ 0) (s : PS) (g gt : Nat) (w : World) (hP : Par w g gt s) :
    Calls Tryz.prog 41 #[.pointer (some ⟨g, 0, none⟩), .int .i64 (k : Int)] w fun e w' => e = .returned (tkV (takP k s).1) ∧ Par w' g gt (takP k s).2 ∧ OneG g w w' := by
  obtain ⟨OFF, m, c, h⟩ := hP
  obtain ⟨t, r, hts⟩ : ∃ t r, s.ts = t :: r := by
    cases hs : s.ts with
    | nil => have := h.ended.pos; rw [hs] at this; simp at this
    | cons t r => exact ⟨t, r, rfl⟩
  have hhd : hdP s = t := by unfold hdP; rw [hts]; rfl
  obtain ⟨hgl, a0, a1, a2, a3⟩ := h.tks 0 t (by rw [hts]; rfl)
  obtain ⟨w1, hw1⟩ : ∃ w1, w.alloc (.cells #[.int .i64 0, .string ⟨#[]⟩, .int .i64 0, .int .i64 0] 87) = w1 := ⟨_, rfl⟩
  have hK1 : Blk w1 w.heap.size 87 #[.int .i64 0, .string ⟨#[]⟩, .int .i64 0, .int .i64 0] := by rw [← hw1]; exact Blk.new w _ _
  have hB1 : Below w.heap.size w w1 := by rw [← hw1]; exact (Below.refl _ _).alloc (Nat.le_refl _) _
  have hz1 : w1.heap.size = w.heap.size + 1 := by rw [← hw1]; simp
  have h1 := h.below hB1
  obtain ⟨_, b0, b1, b2, b3⟩ := h1.tks 0 t (by rw [hts]; rfl)
  have c0 : w1.cell? ⟨g, 0, none⟩ = some (.slice (some ⟨gt, OFF, none⟩) m c) := h1.blk.cell 0
  obtain ⟨w2, hw2⟩ : ∃ w2, w1.alloc (.cells #[.int .i64 (t.kind : Int), .string (strB t.text), .int .i64 (t.val : Int), .int .i64 (t.pos : Int)] 87) = w2 := ⟨_, rfl⟩
  have hK2 : Blk w2 w1.heap.size 87 #[.int .i64 (t.kind : Int), .string (strB t.text), .int .i64 (t.val : Int), .int .i64 (t.pos : Int)] := by rw [← hw2]; exact Blk.new w1 _ _
  have hB2 : Below w1.heap.size w1 w2 := by rw [← hw2]; exact (Below.refl _ _).alloc (Nat.le_refl _) _
  have h2 := h1.below hB2
  have hZ2 := hK1.below hB2 hK1.lt
  have HO2 : Hid (OneG g w w2) := keepHid (Turn.of_below (hB1.trans (hB2.mono hB1.size)))
  have e0 : w2.cell? ⟨w1.heap.size, 0, none⟩ = some (.int .i64 (t.kind : Int)) := hK2.cell 0
  have e1 : w2.cell? ⟨w1.heap.size, 1, none⟩ = some (.string (strB t.text)) := hK2.cell 1
  have e2 : w2.cell? ⟨w1.heap.size, 2, none⟩ = some (.int .i64 (t.val : Int)) := hK2.cell 2
  have e3 : w2.cell? ⟨w1.heap.size, 3, none⟩ = some (.int .i64 (t.pos : Int)) := hK2.cell 3
  have hlt := h.lt
  have htl := h.tlt
  have hlen := h.len
  rw [hts] at hlen
  have hm0 : 0 < (m : Int) := by simp at hlen; omega
  have HZ2 := keepHid hZ2
  have HK2 := keepHid hK2
  have H2 := keepHid h2
  have HTS := keepHid hts
  have HLT := keepHid hlt
  have HTL := keepHid htl
  have HZ1 := keepHid hz1
  have HHD := keepHid hhd
  have hadd : (⟨gt, OFF, none⟩ : Addr).add 0 = ⟨gt, OFF, none⟩ := rfl
  simp only [Nat.zero_mul, hadd] at b0 b1 b2 b3
  by_cases hk : t.kind = k
  · have k1 : ((t.kind : Int) != (k : Int)) = false := by simp [hk]
    cases he : s.err with
    | some x =>
      have q1 : w2.cell? ⟨g, 1, none⟩ = some (.iface 136 (.agg #[.int .i64 (x.1 : Int), .int .i64 (x.2 : Int)])) := by
        have := h2.blk.cell 1
        rw [he] at this
        exact this
      have HR := keepHid (tak_err (k := k) (by rw [hhd]; exact hk) he)
      have z0 := hZ2.cell 0; have z1 := hZ2.cell 1; have z2 := hZ2.cell 2; have z3 := hZ2.cell 3
      have f0 := hZ2.frozen 0; have f1 := hZ2.frozen 1; have f2 := hZ2.frozen 2; have f3 := hZ2.frozen 3
      simp at z0 z1 z2 z3
      clear h h1 h2 hK1 hB1 hz1 hK2 hB2 hZ2 a0 a1 a2 a3 hgl hlt htl hlen hk he hts hhd hadd
      generalize strB t.text = X at *
      generalize (t.kind : Int) = T0 at *
      generalize (t.val : Int) = T2 at *
      generalize (t.pos : Int) = T3 at *
      generalize hG : w.heap.size = G at *
      go_enter Tryz.func41, Tryz.ntmps41
      go_wp2
      try rw [hw1]
      try rw [hw2]
      refine bodyPost_ret (results_cell_row (p := 4) (ty := 87) rfl _ _ G 87 #[.int .i64 0, .string ⟨#[]⟩, .int .i64 0, .int .i64 0] (0, 0) _ rfl (put4 HZ2.out) Tryz.underlying87 rfl sizeT) rfl ?_
      exact ⟨by rw [HR.out, zT_v], by rw [HR.out]; exact ⟨OFF, m, c, H2.out.put4 (by have := HLT.out; omega) (by have := HTL.out; omega) _ _ _ _⟩, turn_put4 HO2.out (by omega) _ _ _ _⟩
    | none =>
      have q1 : w2.cell? ⟨g, 1, none⟩ = some .nilIface := by
        have := h2.blk.cell 1
        rw [he] at this
        exact this
      have p0 : w2.cell? ⟨g, 0, none⟩ = some (.slice (some ⟨gt, OFF, none⟩) m c) := h2.blk.cell 0
      have pf := h2.blk.frozen 0
      have hcap := h.cap
      have hmax := h.max
      have hmm : m = r.length + 1 := by simpa using hlen.symm
      obtain ⟨m', rfl⟩ : ∃ m', m = m' + 1 := ⟨m - 1, by omega⟩
      obtain ⟨c', rfl⟩ : ∃ c', c = c' + 1 := ⟨c - 1, by omega⟩
      have HR := keepHid (tak_ok (k := k) (by rw [hhd]; exact hk) he)
      have hpos : 0 < r.length := by
        have := h.ended
        rw [hts] at this
        exact (this.cons (by rw [hk]; exact hk0)).pos
      have hsl := run_tail4 gt OFF m' c' (by omega) (by omega) hmax
      have h3 := h2.tail (by rw [hhd, hk]; exact hk0) he
      obtain ⟨w3, hw3⟩ : ∃ w3, w2.setCell ⟨g, 0, none⟩ (.slice (some ⟨gt, OFF + 4, none⟩) m' c') = w3 := ⟨_, rfl⟩
      rw [hw3] at h3
      have hgne1 : w1.heap.size ≠ g := by omega
      have hgne : w.heap.size ≠ g := by omega
      have hK3 : Blk w3 w1.heap.size 87 #[.int .i64 (t.kind : Int), .string (strB t.text), .int .i64 (t.val : Int), .int .i64 (t.pos : Int)] := by rw [← hw3]; exact (Below.heap_setCell _ _ _ _ hgne1).trans hK2
      have hZ3 : Blk w3 w.heap.size 87 #[.int .i64 0, .string ⟨#[]⟩, .int .i64 0, .int .i64 0] := by rw [← hw3]; exact (Below.heap_setCell _ _ _ _ hgne).trans hZ2
      have HO3 : Hid (OneG g w w3) := keepHid (by rw [← hw3]; exact HO2.out.setCell (.inl rfl) _)
      have g0 := hK3.cell 0; have g1 := hK3.cell 1; have g2 := hK3.cell 2; have g3 := hK3.cell 3
      have z0 := hZ3.cell 0; have z1 := hZ3.cell 1; have z2 := hZ3.cell 2; have z3 := hZ3.cell 3
      have f0 := hZ3.frozen 0; have f1 := hZ3.frozen 1; have f2 := hZ3.frozen 2; have f3 := hZ3.frozen 3
      simp at z0 z1 z2 z3 g0 g1 g2 g3
      have HZ3 := keepHid hZ3
      have H3 := keepHid h3
      have HV : Hid (tkV t = .agg #[.int .i64 (t.kind : Int), .string (strB t.text), .int .i64 (t.val : Int), .int .i64 (t.pos : Int)]) := keepHid rfl
      clear h h1 h2 h3 hK1 hB1 hz1 hK2 hB2 hZ2 hK3 hZ3 a0 a1 a2 a3 hgl hlt htl hlen hk he hts hhd hadd hcap hmax hmm hgne hgne1 hpos
      generalize strB t.text = X at *
      generalize (t.kind : Int) = T0 at *
      generalize (t.val : Int) = T2 at *
      generalize (t.pos : Int) = T3 at *
      generalize hG : w.heap.size = G at *
      go_enter Tryz.func41, Tryz.ntmps41
      go_wp2
      try rw [hw1]
      try rw [hw2]
      try rw [hw3]
      refine bodyPost_ret (results_cell_row (p := 4) (ty := 87) rfl _ _ G 87 #[.int .i64 T0, .string X, .int .i64 T2, .int .i64 T3] (0, 0) _ rfl (put4 HZ3.out) Tryz.underlying87 rfl sizeT) rfl ?_
      exact ⟨by rw [HR.out, HHD.out, HV.out], by rw [HR.out]; exact ⟨OFF + 4, m', c', H3.out.put4 (by have := HLT.out; omega) (by have := HTL.out; omega) _ _ _ _⟩, turn_put4 HO3.out (by omega) _ _ _ _⟩
  · have k1 : ((t.kind : Int) != (k : Int)) = true := by simp; omega
    have HF := keepHid (fail_any 2 t s g gt w2 ⟨OFF, m, c, h2⟩)
    have HR := keepHid (tak_kind (k := k) (s := s) (by rw [hhd]; exact hk))
    unfold tkV tkA at HF
    have hgne : ¬ w.heap.size = g := by omega
    clear h h1 h2 hK1 hB1 hz1 hK2 hB2 hZ2 a0 a1 a2 a3 hgl hlt htl hlen hk hts hadd
    generalize strB t.text = X at *
    generalize (t.kind : Int) = T0 at *
    generalize (t.val : Int) = T2 at *
    generalize (t.pos : Int) = T3 at *
    generalize hG : w.heap.size = G at *
    go_enter Tryz.func41, Tryz.ntmps41
    go_wp2_with fail
    try rw [hw1]
    try rw [hw2]
    refine HF.out.mono ?_
    rintro e w3 ⟨rfl, ⟨OFF3, m3, c3, h3⟩, ht3⟩
    obtain ⟨x, hx⟩ := fail_err 2 t s
    have q1 : w3.cell? ⟨g, 1, none⟩ = some (.iface 136 (.agg #[.int .i64 (x.1 : Int), .int .i64 (x.2 : Int)])) := by
      have := h3.blk.cell 1
      rw [hx] at this
      exact this
    have hZ3 := ht3.blk HZ2.out hgne
    have z0 := hZ3.cell 0; have z1 := hZ3.cell 1; have z2 := hZ3.cell 2; have z3 := hZ3.cell 3
    have f0 := hZ3.frozen 0; have f1 := hZ3.frozen 1; have f2 := hZ3.frozen 2; have f3 := hZ3.frozen 3
    simp at z0 z1 z2 z3
    have HZ3 := keepHid hZ3
    have H3 := keepHid h3
    have HO3 := keepHid (HO2.out.trans ht3)
    clear h3 ht3 hZ3 hx HF
    go_wp2
    refine bodyPost_ret (results_cell_row (p := 4) (ty := 87) rfl _ _ G 87 #[.int .i64 0, .string ⟨#[]⟩, .int .i64 0, .int .i64 0] (0, 0) _ rfl (put4 HZ3.out) Tryz.underlying87 rfl sizeT) rfl ?_
    exact ⟨by rw [HR.out, zT_v], by rw [HR.out, HHD.out]; exact ⟨OFF3, m3, c3, H3.out.put4 (by have := HLT.out; omega) (by have := HTL.out; omega) _ _ _ _⟩, turn_put4 HO3.out (by omega) _ _ _ _⟩


theorem tkV_is (t : Tk) : tkV t = .agg #[.int .i64 (t.kind : Int), .string (strB t.text), .int .i64 (t.val : Int), .int .i64 (t.pos : Int)] := rfl
/-- The first of what is left: its cells, as the walk spells them. -/
theorem ParIn.first {w : World} {g gt OFF m c : Nat} {s : PS} (h : ParIn w g gt OFF m c s) : w.cell? ⟨gt, OFF, none⟩ = some (.int .i64 ((hdP s).kind : Int)) ∧ w.cell? ⟨gt, OFF + 1, none⟩ = some (.string (strB (hdP s).text)) ∧
    w.cell? ⟨gt, OFF + 2, none⟩ = some (.int .i64 ((hdP s).val : Int)) ∧ w.cell? ⟨gt, OFF + 3, none⟩ = some (.int .i64 ((hdP s).pos : Int)) ∧ 0 < (m : Int) := by
  obtain ⟨ts, e⟩ := s
  have h0 := h.ended.pos
  have hl := h.len
  have hm : 0 < (m : Int) := by omega
  cases ts with
  | nil => simp at h0
  | cons t r =>
    obtain ⟨_, h1, h2, h3, h4⟩ := h.tks 0 t rfl
    exact ⟨h1, h2, h3, h4, hm⟩
theorem ParIn.second {w : World} {g gt OFF m c : Nat} {s : PS} (h : ParIn w g gt OFF m c s) (h2 : 1 < s.ts.length) : w.cell? ⟨gt, OFF + 4, none⟩ = some (.int .i64 ((sndP s).kind : Int)) ∧ w.cell? ⟨gt, OFF + 4 + 1, none⟩ = some (.string (strB (sndP s).text)) ∧
    w.cell? ⟨gt, OFF + 4 + 2, none⟩ = some (.int .i64 ((sndP s).val : Int)) ∧ w.cell? ⟨gt, OFF + 4 + 3, none⟩ = some (.int .i64 ((sndP s).pos : Int)) ∧ 1 < (m : Int) := by
  have hl := h.len
  have hm : 1 < (m : Int) := by omega
  have he : s.ts[1]? = some (sndP s) := by
    unfold sndP
    rw [List.getD_eq_getElem?_getD, List.getElem?_eq_getElem h2]; rfl
  obtain ⟨_, h1, h2, h3, h4⟩ := h.tks 1 _ he
  exact ⟨h1, h2, h3, h4, hm⟩
theorem run_fld (T0 T2 T3 : Int) (X : ByteArray) (W : World) : (Instr.field 87 (.agg #[.int .i64 T0, .string X, .int .i64 T2, .int .i64 T3]) 1).run Tryz.prog W = .ok (.string X) W := by kernel_rfl
theorem isT_kind {t : Tk} {k : Nat} {x : List UInt8} (h : isT t k x = true) : t.kind = k := (is_kind h).1
set_option maxRecDepth 100000 in
set_option maxHeartbeats 4000000 in
theorem must_any (k : Nat) (hk0 : k ≠ 0) (x : List UInt8) (s : PS) (g gt : Nat) (w : World) (hP : Par w g gt s) :
    Calls Tryz.prog 43 #[.pointer (some ⟨g, 0, none⟩), .int .i64 (k : Int), .string (strB x)] w fun e w' => e = .returned (.tuple #[]) ∧ Par w' g gt (mustP k x s) ∧ OneG g w w' := by
  have HP := keepHid hP
  obtain ⟨OFF, m, c, h⟩ := hP
  have c0 : w.cell? ⟨g, 0, none⟩ = some (.slice (some ⟨gt, OFF, none⟩) m c) := h.blk.cell 0
  obtain ⟨a0, a1, a2, a3, hm⟩ := h.first
  have HIS := keepHid (is_any (hdP s) k x w)
  rw [tkV_is] at HIS
  have HM : Hid (mustP k x s = (takP k (if isT (hdP s) k x = true then s else failP 2 (hdP s) s)).2) := keepHid rfl
  cases hb : isT (hdP s) k x with
  | true =>
    rw [hb, if_pos rfl] at HM
    rw [hb] at HIS
    have HT := keepHid (fun w' h => dtake_any k hk0 s g gt w' h)
    clear h hb
    generalize strB x = X at *
    generalize strB (hdP s).text = T1 at *
    generalize ((hdP s).kind : Int) = T0 at *
    generalize ((hdP s).val : Int) = T2 at *
    generalize ((hdP s).pos : Int) = T3 at *
    go_enter Tryz.func43, Tryz.ntmps43
    go_wp2_with fail
    refine HIS.out.mono ?_
    rintro e w1 ⟨rfl, hb1⟩
    have HP1 := keepHid (HP.out.below hb1)
    have HO1 := keepHid (Turn.of_below (S := fun b => b = g) hb1)
    clear hb1 c0 a0 a1 a2 a3
    go_wp2_with fail
    refine (HT.out _ HP1.out).mono ?_
    rintro e w2 ⟨rfl, hp2, ho2⟩
    have HP2 := keepHid hp2
    have HO2 := keepHid (HO1.out.trans ho2)
    clear hp2 ho2
    go_wp2
    refine bodyPost_end (results_none rfl _ _ _) rfl ?_
    exact ⟨rfl, by rw [HM.out]; exact HP2.out, HO2.out⟩
  | false =>
    rw [hb, if_neg (by decide)] at HM
    rw [hb] at HIS
    have HF := keepHid (fun w' h => fail_any 2 (hdP s) s g gt w' h)
    have HT := keepHid (fun w' h => dtake_any k hk0 (failP 2 (hdP s) s) g gt w' h)
    rw [tkV_is] at HF
    have H0 := keepHid h
    clear h hb
    generalize strB x = X at *
    generalize hT1 : strB (hdP s).text = T1 at *
    generalize hT0 : ((hdP s).kind : Int) = T0 at *
    generalize hT2 : ((hdP s).val : Int) = T2 at *
    generalize hT3 : ((hdP s).pos : Int) = T3 at *
    go_enter Tryz.func43, Tryz.ntmps43
    go_wp2_with fail
    refine HIS.out.mono ?_
    rintro e w1 ⟨rfl, hb1⟩
    have HP1 := keepHid (HP.out.below hb1)
    have HO1 := keepHid (Turn.of_below (S := fun b => b = g) hb1)
    have h1 := H0.out.below hb1
    have d0 : w1.cell? ⟨g, 0, none⟩ = some (.slice (some ⟨gt, OFF, none⟩) m c) := h1.blk.cell 0
    obtain ⟨b0, b1, b2, b3, _⟩ := h1.first
    rw [hT0] at b0
    rw [hT1] at b1
    rw [hT2] at b2
    rw [hT3] at b3
    clear hb1 c0 a0 a1 a2 a3 h1 hT0 hT1 hT2 hT3
    go_wp2_with fail
    refine (HF.out _ HP1.out).mono ?_
    rintro e w2 ⟨rfl, hp2, ho2⟩
    have HP2 := keepHid hp2
    have HO2 := keepHid (HO1.out.trans ho2)
    clear hp2 ho2 b0 b1 b2 b3 d0
    go_wp2_with fail
    refine (HT.out _ HP2.out).mono ?_
    rintro e w3 ⟨rfl, hp3, ho3⟩
    have HP3 := keepHid hp3
    have HO3 := keepHid (HO2.out.trans ho3)
    clear hp3 ho3
    go_wp2
    refine bodyPost_end (results_none rfl _ _ _) rfl ?_
    exact ⟨rfl, by rw [HM.out]; exact HP3.out, HO3.out⟩
set_option maxRecDepth 100000 in
set_option maxHeartbeats 4000000 in
theorem tgt_any (s : PS) (g gt : Nat) (w : World) (hP : Par w g gt s) :
    Calls Tryz.prog 45 #[.pointer (some ⟨g, 0, none⟩)] w fun e w' => e = .returned (.string (strB (tgtP s).1)) ∧ Par w' g gt (tgtP s).2 ∧ OneG g w w' := by
  have HM := keepHid (show Calls Tryz.prog 43 #[.pointer (some ⟨g, 0, none⟩), .int .i64 1, .string ⟨#[103, 111]⟩] w _ from must_any 1 (by decide) dGo s g gt w hP)
  have HT := keepHid (fun w' h => (show Calls Tryz.prog 41 #[.pointer (some ⟨g, 0, none⟩), .int .i64 1] w' _ from dtake_any 1 (by decide) (mustP 1 dGo s) g gt w' h))
  have HR : Hid (tgtP s = ((takP 1 (mustP 1 dGo s)).1.text, (takP 1 (mustP 1 dGo s)).2)) := keepHid rfl
  clear hP
  generalize tgtP s = R at *
  generalize mustP 1 dGo s = s1 at *
  generalize takP 1 s1 = t1 at *
  go_enter Tryz.func45, Tryz.ntmps45
  go_wp2_with fail
  refine HM.out.mono ?_
  rintro e w1 ⟨rfl, hp1, ho1⟩
  have HP1 := keepHid hp1
  have HO1 := keepHid ho1
  clear hp1 ho1
  go_wp2_with fail
  refine (HT.out _ HP1.out).mono ?_
  rintro e w2 ⟨rfl, hp2, ho2⟩
  have HP2 := keepHid hp2
  have HO2 := keepHid (HO1.out.trans ho2)
  clear hp2 ho2
  rw [tkV_is]
  have hfl := run_fld
  go_wp2
  go_ret
  exact ⟨by rw [HR.out]; rfl, by rw [HR.out]; exact HP2.out, HO2.out⟩
theorem num_is (most : Nat) (s : PS) : numP most s = ((takP 2 s).1.val, if (takP 2 s).1.val < 1 ∨ most < (takP 2 s).1.val then failP 5 (takP 2 s).1 (takP 2 s).2 else (takP 2 s).2) := rfl
set_option maxRecDepth 100000 in
set_option maxHeartbeats 4000000 in
theorem num_any (most : Nat) (s : PS) (g gt : Nat) (w : World) (hP : Par w g gt s) :
    Calls Tryz.prog 44 #[.pointer (some ⟨g, 0, none⟩), .int .i64 (most : Int)] w fun e w' => e = .returned (.int .i64 ((numP most s).1 : Int)) ∧ Par w' g gt (numP most s).2 ∧ OneG g w w' := by
  have HT := keepHid (show Calls Tryz.prog 41 #[.pointer (some ⟨g, 0, none⟩), .int .i64 2] w _ from dtake_any 2 (by decide) s g gt w hP)
  have HR := keepHid (num_is most s)
  generalize numP most s = R at *
  generalize takP 2 s = ts1 at *
  obtain ⟨t, s1⟩ := ts1
  dsimp only at *
  have HF := keepHid (fun w' h => fail_any 5 t s1 g gt w' h)
  clear hP
  rw [tkV_is] at HF HT
  generalize strB t.text = X at *
  generalize (t.kind : Int) = T0 at *
  generalize (t.pos : Int) = T3 at *
  go_enter Tryz.func44, Tryz.ntmps44
  go_wp2_with fail
  refine HT.out.mono ?_
  rintro e w1 ⟨rfl, hp1, ho1⟩
  obtain ⟨w2, hw2⟩ : ∃ w2, w1.alloc (.cells #[.int .i64 T0, .string X, .int .i64 (t.val : Int), .int .i64 T3] 87) = w2 := ⟨_, rfl⟩
  have hK2 : Blk w2 w1.heap.size 87 #[.int .i64 T0, .string X, .int .i64 (t.val : Int), .int .i64 T3] := by rw [← hw2]; exact Blk.new w1 _ _
  have hB2 : Below w1.heap.size w1 w2 := by rw [← hw2]; exact (Below.refl _ _).alloc (Nat.le_refl _) _
  have HP2 := keepHid (hp1.below hB2)
  have HO2 := keepHid (ho1.trans (Turn.of_below hB2))
  have b0 : w2.cell? ⟨w1.heap.size, 0, none⟩ = some (.int .i64 T0) := hK2.cell 0
  have b1 : w2.cell? ⟨w1.heap.size, 1, none⟩ = some (.string X) := hK2.cell 1
  have b2 : w2.cell? ⟨w1.heap.size, 2, none⟩ = some (.int .i64 (t.val : Int)) := hK2.cell 2
  have b3 : w2.cell? ⟨w1.heap.size, 3, none⟩ = some (.int .i64 T3) := hK2.cell 3
  have HK2 := keepHid hK2
  have hgl := hp1.lt
  have hlt := hK2.lt
  have hne : ¬ w1.heap.size = g := by omega
  have HNE := keepHid hne
  clear hp1 ho1 hB2 hK2 HT hgl hlt hne
  by_cases q1 : t.val < 1
  · have q1I : (t.val : Int) < 1 := by omega
    rw [if_pos (.inl q1)] at HR
    have HZ : Hid ((R.1 : Int) = (t.val : Int)) := keepHid (by rw [HR.out])
    generalize (t.val : Int) = V at *
    clear q1
    go_wp2_with fail
    try rw [hw2]
    refine (HF.out _ HP2.out).mono ?_
    rintro e w3 ⟨rfl, hp3, ho3⟩
    have hK3 := ho3.blk HK2.out HNE.out
    have e2 : w3.cell? ⟨w1.heap.size, 2, none⟩ = some (.int .i64 V) := hK3.cell 2
    have HP3 := keepHid hp3
    have HO3 := keepHid (HO2.out.trans ho3)
    clear hp3 ho3 hK3 b0 b1 b2 b3 hw2
    go_wp2
    go_ret
    exact ⟨by rw [HZ.out]; rfl, by rw [HR.out]; exact HP3.out, HO3.out⟩
  · have q1I : ¬ (t.val : Int) < 1 := by omega
    by_cases q2 : most < t.val
    · have q2I : (most : Int) < (t.val : Int) := by omega
      rw [if_pos (.inr q2)] at HR
      have HZ : Hid ((R.1 : Int) = (t.val : Int)) := keepHid (by rw [HR.out])
      generalize (t.val : Int) = V at *
      clear q1 q2
      go_wp2_with fail
      try rw [hw2]
      refine (HF.out _ HP2.out).mono ?_
      rintro e w3 ⟨rfl, hp3, ho3⟩
      have hK3 := ho3.blk HK2.out HNE.out
      have e2 : w3.cell? ⟨w1.heap.size, 2, none⟩ = some (.int .i64 V) := hK3.cell 2
      have HP3 := keepHid hp3
      have HO3 := keepHid (HO2.out.trans ho3)
      clear hp3 ho3 hK3 b0 b1 b2 b3 hw2
      go_wp2
      go_ret
      exact ⟨by rw [HZ.out]; rfl, by rw [HR.out]; exact HP3.out, HO3.out⟩
    · have q2I : ¬ (most : Int) < (t.val : Int) := by omega
      rw [if_neg (by omega)] at HR
      have HZ : Hid ((R.1 : Int) = (t.val : Int)) := keepHid (by rw [HR.out])
      generalize (t.val : Int) = V at *
      clear q1 q2
      go_wp2
      try rw [hw2]
      go_ret
      exact ⟨by rw [HZ.out]; rfl, by rw [HR.out]; exact HP2.out, HO2.out⟩
theorem lab_no {s : PS} (h : isT (sndP s) 4 [58] = false) : labP s = ([], s) := by unfold labP; rw [if_neg (by rw [h]; decide)]
theorem lab_yes {s : PS} (h : isT (sndP s) 4 [58] = true) : labP s = ((takP 1 s).1.text, mustP 4 [58] (takP 1 s).2) := by unfold labP; rw [if_pos h]
set_option maxRecDepth 100000 in
set_option maxHeartbeats 4000000 in
theorem lab_any (s : PS) (g gt : Nat) (h2 : 1 < s.ts.length) (w : World) (hP : Par w g gt s) :
    Calls Tryz.prog 39 #[.pointer (some ⟨g, 0, none⟩)] w fun e w' => e = .returned (.string (strB (labP s).1)) ∧ Par w' g gt (labP s).2 ∧ OneG g w w' := by
  have HP := keepHid hP
  obtain ⟨OFF, m, c, h⟩ := hP
  have c0 : w.cell? ⟨g, 0, none⟩ = some (.slice (some ⟨gt, OFF, none⟩) m c) := h.blk.cell 0
  obtain ⟨a0, a1, a2, a3, hm⟩ := h.second h2
  have HIS := keepHid (show Calls Tryz.prog 63 #[tkV (sndP s), .int .i64 4, .string ⟨#[58]⟩] w _ from is_any (sndP s) 4 [58] w)
  rw [tkV_is] at HIS
  have HT := keepHid (fun w' h => (show Calls Tryz.prog 41 #[.pointer (some ⟨g, 0, none⟩), .int .i64 1] w' _ from dtake_any 1 (by decide) s g gt w' h))
  have HM := keepHid (fun w' h => (show Calls Tryz.prog 43 #[.pointer (some ⟨g, 0, none⟩), .int .i64 4, .string ⟨#[58]⟩] w' _ from must_any 4 (by decide) [58] (takP 1 s).2 g gt w' h))
  cases hb : isT (sndP s) 4 [58] with
  | true =>
    have HR := keepHid (lab_yes hb)
    rw [hb] at HIS
    clear h hb h2
    generalize labP s = R at *
    generalize mustP 4 [58] (takP 1 s).2 = s2 at *
    generalize takP 1 s = t1 at *
    generalize strB (sndP s).text = T1 at *
    generalize ((sndP s).kind : Int) = T0 at *
    generalize ((sndP s).val : Int) = T2 at *
    generalize ((sndP s).pos : Int) = T3 at *
    go_enter Tryz.func39, Tryz.ntmps39
    go_wp2_with fail
    refine HIS.out.mono ?_
    rintro e w1 ⟨rfl, hb1⟩
    have HP1 := keepHid (HP.out.below hb1)
    have HO1 := keepHid (Turn.of_below (S := fun b => b = g) hb1)
    clear hb1 c0 a0 a1 a2 a3
    go_wp2_with fail
    refine (HT.out _ HP1.out).mono ?_
    rintro e w2 ⟨rfl, hp2, ho2⟩
    have HP2 := keepHid hp2
    have HO2 := keepHid (HO1.out.trans ho2)
    clear hp2 ho2
    rw [tkV_is]
    have hfl := run_fld
    go_wp2_with fail
    refine (HM.out _ HP2.out).mono ?_
    rintro e w3 ⟨rfl, hp3, ho3⟩
    have HP3 := keepHid hp3
    have HO3 := keepHid (HO2.out.trans ho3)
    clear hp3 ho3
    go_wp2
    go_ret
    exact ⟨by rw [HR.out]; rfl, by rw [HR.out]; exact HP3.out, HO3.out⟩
  | false =>
    have HR := keepHid (lab_no hb)
    rw [hb] at HIS
    clear h hb h2 HT HM
    generalize labP s = R at *
    generalize strB (sndP s).text = T1 at *
    generalize ((sndP s).kind : Int) = T0 at *
    generalize ((sndP s).val : Int) = T2 at *
    generalize ((sndP s).pos : Int) = T3 at *
    go_enter Tryz.func39, Tryz.ntmps39
    go_wp2_with fail
    refine HIS.out.mono ?_
    rintro e w1 ⟨rfl, hb1⟩
    have HP1 := keepHid (HP.out.below hb1)
    have HO1 := keepHid (Turn.of_below (S := fun b => b = g) hb1)
    clear hb1 c0 a0 a1 a2 a3
    go_wp2
    go_ret
    exact ⟨by rw [HR.out]; rfl, by rw [HR.out]; exact HP1.out, HO1.out⟩
theorem put2 {w : World} {g : Nat} {t : TypeId} {a b p q : Value} (hb : Blk w g t #[a, b]) : Blk ((w.setCell ⟨g, 0, none⟩ p).setCell ⟨g, 1, none⟩ q) g t #[p, q] := (hb.put 0 p).put 1 q
theorem turn_put2 {S : Nat → Prop} {w0 w : World} {g : Nat} (h : Turn S w0 w) (hg : w0.heap.size ≤ g) (p q : Value) : Turn S w0 ((w.setCell ⟨g, 0, none⟩ p).setCell ⟨g, 1, none⟩ q) :=
  (h.setCell (p := ⟨g, 0, none⟩) (.inr hg) p).setCell (p := ⟨g, 1, none⟩) (.inr hg) q
theorem Par.put2 {w : World} {g gt b : Nat} {s : PS} (h : Par w g gt s) (h1 : g ≠ b) (h2 : gt ≠ b) (p q : Value) : Par ((w.setCell ⟨b, 0, none⟩ p).setCell ⟨b, 1, none⟩ q) g gt s := by
  obtain ⟨OFF, m, c, h⟩ := h
  exact ⟨OFF, m, c, h.far (by simp [World.setCell]) ((Below.heap_setCell _ _ _ _ h1).trans (Below.heap_setCell _ _ _ _ h1)) ((Below.heap_setCell _ _ _ _ h2).trans (Below.heap_setCell _ _ _ _ h2))⟩
theorem sizeA : (Tryz.prog.info? 28).map (·.size) = some 2 := by kernel_rfl
theorem arm_is (s : PS) : armP s = (⟨(takP 3 s).1.text, (tgtP (takP 3 s).2).1⟩, (tgtP (takP 3 s).2).2) := rfl
set_option maxRecDepth 100000 in
set_option maxHeartbeats 4000000 in
theorem arm_any (s : PS) (g gt : Nat) (w : World) (hP : Par w g gt s) :
    Calls Tryz.prog 66 #[.pointer (some ⟨g, 0, none⟩)] w fun e w' => e = .returned (arV (armP s).1) ∧ Par w' g gt (armP s).2 ∧ OneG g w w' := by
  obtain ⟨w1, hw1⟩ : ∃ w1, w.alloc (.cells #[.string ⟨#[]⟩, .string ⟨#[]⟩] 28) = w1 := ⟨_, rfl⟩
  have hK1 : Blk w1 w.heap.size 28 #[.string ⟨#[]⟩, .string ⟨#[]⟩] := by rw [← hw1]; exact Blk.new w _ _
  have hB1 : Below w.heap.size w w1 := by rw [← hw1]; exact (Below.refl _ _).alloc (Nat.le_refl _) _
  have hgl := hP.lt
  have htl := hP.tlt
  have HNE : Hid (¬ w.heap.size = g) := keepHid (by omega)
  have HNT : Hid (gt ≠ w.heap.size) := keepHid (by omega)
  have HK1 := keepHid hK1
  have HP1 := keepHid (hP.below hB1)
  have HO1 : Hid (OneG g w w1) := keepHid (Turn.of_below hB1)
  have HT := keepHid (fun w' h => (show Calls Tryz.prog 41 #[.pointer (some ⟨g, 0, none⟩), .int .i64 3] w' _ from dtake_any 3 (by decide) s g gt w' h))
  have HG := keepHid (fun w' h => tgt_any (takP 3 s).2 g gt w' h)
  have HR := keepHid (arm_is s)
  clear hP hK1 hB1 hgl htl
  generalize armP s = R at *
  generalize tgtP (takP 3 s).2 = t2 at *
  generalize takP 3 s = t1 at *
  generalize hG : w.heap.size = G at *
  have HGG := keepHid hG
  go_enter Tryz.func66, Tryz.ntmps66
  go_wp2_with fail
  try rw [hw1]
  refine (HT.out _ HP1.out).mono ?_
  rintro e w2 ⟨rfl, hp2, ho2⟩
  have HP2 := keepHid hp2
  have HO2 := keepHid (HO1.out.trans ho2)
  have HK2 := keepHid (ho2.blk HK1.out HNE.out)
  clear hp2 ho2 hw1
  rw [tkV_is]
  have hfl := run_fld
  go_wp2_with fail
  refine (HG.out _ HP2.out).mono ?_
  rintro e w3 ⟨rfl, hp3, ho3⟩
  have HP3 := keepHid hp3
  have HO3 := keepHid (HO2.out.trans ho3)
  have hK3 := ho3.blk HK2.out HNE.out
  have z0 := hK3.cell 0; have z1 := hK3.cell 1
  have f0 := hK3.frozen 0; have f1 := hK3.frozen 1
  simp at z0 z1
  have HK3 := keepHid hK3
  clear hp3 ho3 hK3
  obtain ⟨P, hPat⟩ : ∃ P, strB t1.1.text = P := ⟨_, rfl⟩
  obtain ⟨D, hDst⟩ : ∃ D, strB t2.1 = D := ⟨_, rfl⟩
  rw [hPat, hDst]
  have HV : Hid (arV R.1 = .agg #[.string P, .string D]) := keepHid (by rw [HR.out, ← hPat, ← hDst]; rfl)
  clear hPat hDst
  go_wp2
  refine bodyPost_ret (results_cell_row (p := 2) (ty := 28) rfl _ _ G 28 #[.string P, .string D] (0, 0) _ rfl (put2 HK3.out) Tryz.underlying28 rfl sizeA) rfl ?_
  exact ⟨by rw [HV.out], by rw [HR.out]; exact HP3.out.put2 (Ne.symm HNE.out) HNT.out _ _, turn_put2 HO3.out (by rw [HGG.out]; exact Nat.le_refl _) _ _⟩


def wordVals : Array Value := (wordsL.map fun x => Value.string (strB x)).toArray
def WdS (w : World) (g : Nat) : Prop := g < w.heap.size ∧ ∀ j x, wordsL[j]? = some x → w.cell? ⟨g, j, none⟩ = some (.string (strB x))
theorem WdS.below {w w' : World} {B g : Nat} (h : WdS w g) (hb : Below B w w') (hB : g < B) : WdS w' g :=
  ⟨Nat.lt_of_lt_of_le h.1 hb.size, fun j x hx => (hb.cell hB).trans (h.2 j x hx)⟩
theorem WdS.blk {w : World} {g : Nat} {t : TypeId} (h : Blk w g t wordVals) : WdS w g := ⟨h.lt, fun j x hx => by rw [h.cell]; simp [wordVals, hx]⟩
theorem words_any (w : World) : Calls Tryz.prog 64 #[] w fun e w' => e = .returned (.slice (some ⟨w.heap.size, 0, none⟩) 6 6) ∧ Below w.heap.size w w' ∧ WdS w' w.heap.size := by
  obtain ⟨w1, hw1⟩ : ∃ w1, w.alloc (.cells wordVals 9) = w1 := ⟨_, rfl⟩
  have hB : Below w.heap.size w w1 := by rw [← hw1]; exact (Below.refl _ _).alloc (Nat.le_refl _) _
  have hW : WdS w1 w.heap.size := by rw [← hw1]; exact WdS.blk (Blk.new w _ _)
  rw [← hw1] at hB hW
  have HB := keepHid hB
  have HW := keepHid hW
  clear hB hW hw1
  go_enter Tryz.func64, Tryz.ntmps64
  go_wp2
  go_ret
  exact ⟨rfl, HB.out, HW.out⟩
theorem kind_hit {k : Nat} {x : List UInt8} (h : wordsL[k]? = some x) : kindOf x = some k := by
  have hk : k < 6 := (List.getElem?_eq_some_iff.1 h).1
  rcases (by omega : k = 0 ∨ k = 1 ∨ k = 2 ∨ k = 3 ∨ k = 4 ∨ k = 5) with rfl | rfl | rfl | rfl | rfl | rfl <;>
    (obtain rfl := Option.some.inj h; decide)
theorem kind_not {t : List UInt8} (h : ∀ j, j < 6 → ∀ x, wordsL[j]? = some x → t ≠ x) : kindOf t = none := by
  unfold kindOf
  rw [if_neg (h 0 (by decide) _ rfl), if_neg (h 1 (by decide) _ rfl), if_neg (h 2 (by decide) _ rfl), if_neg (h 3 (by decide) _ rfl), if_neg (h 4 (by decide) _ rfl), if_neg (h 5 (by decide) _ rfl)]
theorem kin_some {s : PS} {k : Nat} (h : kindOf (takP 1 s).1.text = some k) : kinP s = (k, (takP 1 s).2) := by unfold kinP; rw [h]
theorem kin_none {s : PS} (h : kindOf (takP 1 s).1.text = none) : kinP s = (0, failP 3 (takP 1 s).1 (takP 1 s).2) := by unfold kinP; rw [h]
set_option maxRecDepth 100000 in
set_option maxHeartbeats 4000000 in
theorem kin_any (s : PS) (g gt : Nat) (w : World) (hP : Par w g gt s) :
    Calls Tryz.prog 40 #[.pointer (some ⟨g, 0, none⟩)] w fun e w' => e = .returned (.int .i64 ((kinP s).1 : Int)) ∧ Par w' g gt (kinP s).2 ∧ OneG g w w' := by
  have HT := keepHid (show Calls Tryz.prog 41 #[.pointer (some ⟨g, 0, none⟩), .int .i64 1] w _ from dtake_any 1 (by decide) s g gt w hP)
  have HY := keepHid (fun k h => kin_some (s := s) (k := k) h)
  have HN := keepHid (fun h => kin_none (s := s) h)
  generalize kinP s = R at *
  generalize takP 1 s = ts1 at *
  obtain ⟨t, s1⟩ := ts1
  dsimp only at *
  have HF := keepHid (fun w' h => fail_any 3 t s1 g gt w' h)
  clear hP
  rw [tkV_is] at HF HT
  have hbeq := fun x => strB_beq t.text x
  generalize strB t.text = X at *
  generalize (t.kind : Int) = T0 at *
  generalize (t.pos : Int) = T3 at *
  generalize (t.val : Int) = T2 at *
  go_enter Tryz.func40, Tryz.ntmps40
  go_wp2_with fail
  refine HT.out.mono ?_
  rintro e w1 ⟨rfl, hp1, ho1⟩
  obtain ⟨w2, hw2⟩ : ∃ w2, w1.alloc (.cells #[.int .i64 T0, .string X, .int .i64 T2, .int .i64 T3] 87) = w2 := ⟨_, rfl⟩
  have hK2 : Blk w2 w1.heap.size 87 #[.int .i64 T0, .string X, .int .i64 T2, .int .i64 T3] := by rw [← hw2]; exact Blk.new w1 _ _
  have hB2 : Below w1.heap.size w1 w2 := by rw [← hw2]; exact (Below.refl _ _).alloc (Nat.le_refl _) _
  have HP2 := keepHid (hp1.below hB2)
  have HO2 := keepHid (ho1.trans (Turn.of_below hB2))
  have HK2 := keepHid hK2
  clear hp1 ho1 hB2 hK2 HT
  go_wp2_with fail
  try rw [hw2]
  refine (words_any _).mono ?_
  rintro e w3 ⟨rfl, hb3, hw3⟩
  have hK3 := HK2.out.below hb3 HK2.out.lt
  have b0 : w3.cell? ⟨w1.heap.size, 0, none⟩ = some (.int .i64 T0) := hK3.cell 0
  have b1 : w3.cell? ⟨w1.heap.size, 1, none⟩ = some (.string X) := hK3.cell 1
  have b2 : w3.cell? ⟨w1.heap.size, 2, none⟩ = some (.int .i64 T2) := hK3.cell 2
  have b3 : w3.cell? ⟨w1.heap.size, 3, none⟩ = some (.int .i64 T3) := hK3.cell 3
  have HW3 := keepHid hw3
  have HP3 := keepHid (HP2.out.below hb3)
  have HO3 := keepHid (HO2.out.trans (Turn.of_below hb3))
  clear hb3 hw3 hK3 hw2
  go_wp2_with fail
  go_loopw [10] (fun i wr => ∃ k : Nat, k ≤ 6 ∧ i = .int .i64 (k : Int) ∧ wr = w3 ∧ Hid (∀ j, j < k → ∀ x, wordsL[j]? = some x → t.text ≠ x)) (fun i _ => 6 - (intOf i).toNat)
  case atStart => exact ⟨0, Nat.zero_le _, rfl, rfl, keepHid (fun j h => absurd h (Nat.not_lt_zero _))⟩
  case round =>
    obtain ⟨k, hk, rfl, rfl, HK⟩ := hrel
    by_cases hlt : k < 6
    · have hltI : (k : Int) < 6 := by omega
      obtain ⟨x, hx⟩ : ∃ x, wordsL[k]? = some x := ⟨_, List.getElem?_eq_getElem (by show k < 6; exact hlt)⟩
      have d0 := HW3.out.2 k x hx
      have hq := hbeq x
      have HX := keepHid hx
      by_cases hxx : t.text = x
      · rw [decide_eq_true hxx] at hq
        have HR := keepHid (HY.out k (by rw [hxx]; exact kind_hit hx))
        clear hxx hx hbeq
        go_wp2
        go_ret
        exact ⟨by rw [HR.out]; rfl, by rw [HR.out]; exact HP3.out, HO3.out⟩
      · rw [decide_eq_false hxx] at hq
        have HK' : Hid (∀ j, j < k + 1 → ∀ x, wordsL[j]? = some x → t.text ≠ x) := keepHid (fun j hj y hy => by
          rcases Nat.lt_succ_iff_lt_or_eq.1 hj with h | rfl
          · exact HK.out j h y hy
          · rw [HX.out] at hy; obtain rfl := Option.some.inj hy; exact hxx)
        clear hxx hx hbeq HK
        go_wp2
        go_roundw
        case rel => exact ⟨k + 1, by omega, by go_num, by first | rfl | trivial, HK'⟩
        case measure => simp [intOf]; omega
    · obtain rfl : k = 6 := by omega
      have HR := keepHid (HN.out (kind_not HK.out))
      clear hbeq HK
      go_wp2_with fail
      refine (HF.out _ HP3.out).mono ?_
      rintro e w4 ⟨rfl, hp4, ho4⟩
      have HP4 := keepHid hp4
      have HO4 := keepHid (HO3.out.trans ho4)
      clear hp4 ho4
      go_wp2
      go_ret
      exact ⟨by rw [HR.out]; rfl, by rw [HR.out]; exact HP4.out, HO4.out⟩
/-! ### arms -/
def parLen (w : World) (g : Nat) : Nat := match w.cell? ⟨g, 0, none⟩ with
  | some (.slice _ m _) => m
  | _ => 0
theorem Par.n {w : World} {g gt : Nat} {s : PS} (h : Par w g gt s) : parLen w g = s.ts.length := by
  obtain ⟨OFF, m, c, h⟩ := h
  unfold parLen
  rw [show w.cell? ⟨g, 0, none⟩ = some (.slice (some ⟨gt, OFF, none⟩) m c) from h.blk.cell 0]
  exact h.len.symm
theorem Turn.andBelow {S : Nat → Prop} {a b c : World} (h : Turn S a b) (k : Below a.heap.size b c) : Turn S a c :=
  ⟨k.os.trans h.os, k.tape.trans h.tape, k.output.trans h.output, Nat.le_trans h.size k.size, fun i hi hne => (k.block i hi).trans (h.block i hi hne)⟩
theorem Par.low {w w' : World} {B g gt : Nat} {s : PS} (h : Par w g gt s) (hb : Below B w w') (h1 : g < B) (h2 : gt < B) : Par w' g gt s := by
  obtain ⟨OFF, m, c, h⟩ := h
  exact ⟨OFF, m, c, h.far hb.size (hb.block g h1) (hb.block gt h2)⟩
theorem lop_stop {f : Nat} {rs : List Ar} {s : PS} (h : s.err = none → isT (hdP s) 4 [44] = false) : lopP f rs s = (rs, s) := by
  cases f with
  | zero => rfl
  | succ f => unfold lopP; rw [if_neg (fun k => by rw [h k.1] at k; cases k.2)]
theorem lop_go {f : Nat} {rs : List Ar} {s : PS} (he : s.err = none) (hi : isT (hdP s) 4 [44] = true) : lopP (f + 1) rs s = lopP f (rs ++ [(armP (mustP 4 [44] s)).1]) (armP (mustP 4 [44] s)).2 := by
  rw [lopP, if_pos ⟨he, hi⟩]
set_option maxRecDepth 100000 in
set_option maxHeartbeats 8000000 in
theorem arms_any (s : PS) (g gt : Nat) (w : World) (hP : Par w g gt s) :
    Calls Tryz.prog 42 #[.pointer (some ⟨g, 0, none⟩)] w fun e w' => (∃ v n, e = .returned v ∧ OwnA w' w.heap.size v n (armsP s).1) ∧ Par w' g gt (armsP s).2 ∧ OneG g w w' := by
  have HA := keepHid (arm_any s g gt w hP)
  have HGL := keepHid hP.lt
  have HTL := keepHid hP.tlt
  have HEA := keepHid (adv_arm hP.ended)
  have HFW := keepHid hP.few
  have HR : Hid (armsP s = lopP (armP s).2.ts.length [(armP s).1] (armP s).2) := keepHid rfl
  clear hP
  generalize armsP s = R at *
  go_enter Tryz.func42, Tryz.ntmps42
  go_wp2_with fail
  refine HA.out.mono ?_
  rintro e w1 ⟨rfl, hp1, ho1⟩
  have hl1 := HEA.out.len
  generalize armP s = as1 at *
  obtain ⟨a1, s1⟩ := as1
  dsimp only at *
  obtain ⟨w2, hw2⟩ : ∃ w2, w1.alloc (.cells #[.string (strB a1.pat), .string (strB a1.dst)] 28) = w2 := ⟨_, rfl⟩
  have hB2 : Below w1.heap.size w1 w2 := by rw [← hw2]; exact (Below.refl _ _).alloc (Nat.le_refl _) _
  have HOA : Hid (OwnA w2 w.heap.size (.slice (some ⟨w1.heap.size, 0, none⟩) 1 1) 1 [a1]) := keepHid (by rw [← hw2]; exact OwnA.new w1 w.heap.size a1 ho1.size)
  have HP2 := keepHid (hp1.below hB2)
  have HO2 := keepHid (ho1.trans (Turn.of_below hB2))
  have HS1 : Hid (s1.ts.length ≤ 4097) := keepHid (by have := HFW.out; omega)
  have hv : arV a1 = .agg #[.string (strB a1.pat), .string (strB a1.dst)] := rfl
  rw [hv]
  clear hp1 ho1 hB2 HA HEA hl1 hv
  generalize strB a1.pat = PA at *
  generalize strB a1.dst = DA at *
  go_wp2_with fail
  try rw [hw2]
  clear hw2
  go_loopw [3] (fun v wr => ∃ (f n c : Nat) (A : Option Addr) (rs : List Ar) (sx : PS), v = .slice A n c ∧ Hid (OwnA wr w.heap.size (.slice A n c) n rs) ∧ Hid (Par wr g gt sx) ∧ Hid (OneG g w wr) ∧ Hid (sx.ts.length ≤ f) ∧ Hid (lopP f rs sx = R) ∧ n + sx.ts.length ≤ 4098) (fun _ wr => parLen wr g)
  case atStart => exact ⟨s1.ts.length, 1, 1, some ⟨w1.heap.size, 0, none⟩, [a1], s1, rfl, HOA, HP2, HO2, keepHid (Nat.le_refl _), keepHid HR.out.symm, by have := HS1.out; omega⟩
  case round =>
    obtain ⟨f, n, c, A, rs, sx, rfl, HOW, HPX, HOX, HFX, HLX, hcount⟩ := hrel
    generalize wr = wq at *
    clear HOA HP2 HO2 HS1 HR
    obtain ⟨OFF, m, cp, hin⟩ := HPX.out
    have HIN := keepHid hin
    cases he : sx.err with
    | some x =>
      have q1 : wq.cell? ⟨g, 1, none⟩ = some (.iface 136 (.agg #[.int .i64 (x.1 : Int), .int .i64 (x.2 : Int)])) := by
        have := hin.blk.cell 1
        rw [he] at this
        exact this
      have HRR : Hid (R = (rs, sx)) := keepHid (by rw [← HLX.out]; exact lop_stop (fun k => by rw [he] at k; cases k))
      clear hin he
      go_wp2
      go_ret
      exact ⟨⟨_, n, rfl, by rw [HRR.out]; exact HOW.out⟩, by rw [HRR.out]; exact HPX.out, HOX.out⟩
    | none =>
      have q1 : wq.cell? ⟨g, 1, none⟩ = some .nilIface := by
        have := hin.blk.cell 1
        rw [he] at this
        exact this
      have c0 : wq.cell? ⟨g, 0, none⟩ = some (.slice (some ⟨gt, OFF, none⟩) m cp) := hin.blk.cell 0
      obtain ⟨a0, b1, b2, b3, hm⟩ := hin.first
      have HIS := keepHid (show Calls Tryz.prog 63 #[tkV (hdP sx), .int .i64 4, .string ⟨#[44]⟩] wq _ from is_any (hdP sx) 4 [44] wq)
      rw [tkV_is] at HIS
      cases hi : isT (hdP sx) 4 [44] with
      | false =>
        rw [hi] at HIS
        have HRR : Hid (R = (rs, sx)) := keepHid (by rw [← HLX.out]; exact lop_stop (fun _ => hi))
        clear hin he hi
        generalize strB (hdP sx).text = T1 at *
        generalize ((hdP sx).kind : Int) = T0 at *
        generalize ((hdP sx).val : Int) = T2 at *
        generalize ((hdP sx).pos : Int) = T3 at *
        go_wp2_with fail
        refine HIS.out.mono ?_
        rintro e w5 ⟨rfl, hb5⟩
        have HP5 := keepHid (HPX.out.below hb5)
        have HO5 := keepHid (HOX.out.trans (Turn.of_below hb5))
        have HW5 := keepHid (HOW.out.below hb5)
        clear hb5 c0 a0 b1 b2 b3 q1
        go_wp2
        go_ret
        exact ⟨⟨_, n, rfl, by rw [HRR.out]; exact HW5.out⟩, by rw [HRR.out]; exact HP5.out, HO5.out⟩
      | true =>
        rw [hi] at HIS
        have hpos := HPX.out.ended.pos
        obtain ⟨f', rfl⟩ : ∃ f', f = f' + 1 := ⟨f - 1, by have := HFX.out; omega⟩
        obtain ⟨hE1, hE2, hlen⟩ := lop_len HPX.out.ended he hi
        have HGO := keepHid (lop_go (f := f') (rs := rs) he hi)
        have HM := keepHid (fun w' h => (show Calls Tryz.prog 43 #[.pointer (some ⟨g, 0, none⟩), .int .i64 4, .string ⟨#[44]⟩] w' _ from must_any 4 (by decide) [44] sx g gt w' h))
        have HA2 := keepHid (fun w' h => arm_any (mustP 4 [44] sx) g gt w' h)
        have HNX := keepHid HPX.out.n
        clear hin he hi hE1 hE2 hpos
        generalize strB (hdP sx).text = T1 at *
        generalize ((hdP sx).kind : Int) = T0 at *
        generalize ((hdP sx).val : Int) = T2 at *
        generalize ((hdP sx).pos : Int) = T3 at *
        generalize armP (mustP 4 [44] sx) = as2 at *
        obtain ⟨a2, s2⟩ := as2
        dsimp only at *
        go_wp2_with fail
        refine HIS.out.mono ?_
        rintro e w5 ⟨rfl, hb5⟩
        have HP5 := keepHid (HPX.out.below hb5)
        have HO5 := keepHid (HOX.out.trans (Turn.of_below hb5))
        have HW5 := keepHid (HOW.out.below hb5)
        clear hb5 c0 a0 b1 b2 b3 q1
        go_wp2_with fail
        refine (HM.out _ HP5.out).mono ?_
        rintro e w6 ⟨rfl, hp6, ho6⟩
        have HP6 := keepHid hp6
        have HO6 := keepHid (HO5.out.trans ho6)
        have HW6 := keepHid (HW5.out.turn ho6 (fun i hi => by have := HGL.out; omega))
        clear hp6 ho6
        go_wp2_with fail
        refine (HA2.out _ HP6.out).mono ?_
        rintro e w7 ⟨rfl, hp7, ho7⟩
        have hv : arV a2 = .agg #[.string (strB a2.pat), .string (strB a2.dst)] := rfl
        rw [hv]
        obtain ⟨w8, hw8⟩ : ∃ w8, w7.alloc (.cells #[.string (strB a2.pat), .string (strB a2.dst)] 28) = w8 := ⟨_, rfl⟩
        have hB8 : Below w7.heap.size w7 w8 := by rw [← hw8]; exact (Below.refl _ _).alloc (Nat.le_refl _) _
        have HK8 : Hid (Blk w8 w7.heap.size 28 #[.string (strB a2.pat), .string (strB a2.dst)]) := keepHid (by rw [← hw8]; exact Blk.new w7 _ _)
        have HP8 := keepHid (hp7.below hB8)
        have HO8 := keepHid ((HO6.out.trans ho7).trans (Turn.of_below hB8))
        have HW8 := keepHid ((HW6.out.turn ho7 (fun i hi => by have := HGL.out; omega)).below hB8)
        have HC8 : Hid (n + 1 + s2.ts.length ≤ 4098) := keepHid (by omega)
        have HM8 : Hid (s2.ts.length < sx.ts.length) := keepHid hlen
        have HF8 : Hid (s2.ts.length ≤ f') := keepHid (by have := HFX.out; omega)
        clear hp7 ho7 hB8 hv hlen
        generalize hPA : strB a2.pat = PB at *
        generalize hDA : strB a2.dst = DB at *
        go_wp2_with (at_builtin; refine wpList_append_ar rfl _ _ rfl w.heap.size (.slice A n c) n rs (by rfl) HW8.out w7.heap.size (by rfl) a2 (by rw [hPA, hDA]; exact HK8.out) (by have := HC8.out; omega) HO8.out.size ?_)
        intro G9 cap9 w9 h9 h9g h9b
        have HW9 := keepHid h9
        have HP9 := keepHid (HP8.out.low h9b HGL.out HTL.out)
        have HO9 := keepHid (HO8.out.andBelow h9b)
        have HN9 := keepHid HP9.out.n
        clear h9 h9g h9b hw8
        go_wp2
        go_roundw
        case rel => exact ⟨f', n + 1, cap9, some ⟨G9, 0, none⟩, rs ++ [a2], s2, by go_num, HW9, HP9, HO9, HF8, keepHid (by rw [← HGO.out]; exact HLX.out), HC8.out⟩
        case measure => rw [HN9.out, HNX.out]; exact HM8.out
end Go.Proofs.YtgndcgknedmalaaGreatDoor
