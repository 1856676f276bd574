/-
  match's of: a row of parts grows by one, whatever comes first: what the next kid's part is, or a place for it.
-/
import Derived.Test.YtgidoieppplhpaaDoorMatchTree
import Derived.Test.YtgidoieppplhpaaDoorRegexClone
import Derived.Test.YtgidoieppplhpaaDoorOwnInts
import Derived.Test.YtgidoieppplhpaaDoorRegexParse
import Derived.LoopTactic
import Derived.Deep.DeepCutAuto
import Derived.Deep.AppendLies
import Derived.Deep.RegionLaw
import GoSem.Machine.Early
namespace Go.Proofs.YtgidoieppplhpaaDoor
open Go.RowKit
set_option linter.unusedVariables false

def ph0 : Ph := ⟨0, st0, none, 0, 0, false, false, false⟩
/-- A row of n parts (xs, the value v) of the call's own is on its way to hold one more: c: what the part is, is known; a: there is a place; k: the field tells of it; p: it is filled. -/
structure Mid (B P n : Nat) (kd : Int) (s : St) (A0 : Option Addr) (c0 : Nat) (xs : List Value) (w0 : World) (G cap : Nat) (y : Ph) (t : Pt) (la ha : Nat) (c a k p : Bool) (w : World) : Prop where
  turn : Turn (fun i => i = P ∨ (Value.slice A0 n c0).ownBlock = some i) w0 w
  blk : Blk w P 76 (phL (if k then ⟨kd, s, some ⟨G, 0, none⟩, n + 1, cap, false, false, false⟩ else ⟨kd, s, A0, n, c0, false, false, false⟩)).toArray
  ltP : P < w0.heap.size
  base : P < B ∧ B ≤ w0.heap.size
  own : if a then w.ownsRow B 76 9 (.slice (some ⟨G, 0, none⟩) (n + 1) cap) (n + 1) (xs ++ phL (if p then y else ph0)) else w.ownsRow B 76 9 (.slice A0 n c0) n xs
  old : ∀ i, (Value.slice A0 n c0).ownBlock = some i → B ≤ i ∧ i < w0.heap.size
  tree : c = true → PtK w la ha y t ∧ w0.heap.size ≤ la ∧ la ≤ ha ∧ ha ≤ w.heap.size
  row : a = true → (Value.slice A0 n c0).ownBlock = some G ∨ w0.heap.size ≤ G
  both : a = true → c = true → G < la ∨ ha ≤ G
namespace Mid
variable {B P n : Nat} {kd : Int} {s : St} {A0 : Option Addr} {c0 : Nat} {xs : List Value} {w0 w w' : World} {G cap : Nat} {y : Ph} {t : Pt} {la ha : Nat} {c a k p : Bool}
theorem start (hb : Blk w0 P 76 (phL ⟨kd, s, A0, n, c0, false, false, false⟩).toArray) (ho : w0.ownsRow B 76 9 (.slice A0 n c0) n xs) (hB : P < B ∧ B ≤ w0.heap.size) :
    Mid B P n kd s A0 c0 xs w0 G cap y t la ha false false false false w0 :=
  ⟨Turn.refl _ _, hb, hb.lt, hB, ho, ho.lt, fun h => by simp at h, fun h => by simp at h, fun h => by simp at h⟩
theorem below (h : Mid B P n kd s A0 c0 xs w0 G cap y t la ha c a k p w) (hb : Below w.heap.size w w') : Mid B P n kd s A0 c0 xs w0 G cap y t la ha c a k p w' := by
  have hg : w.grownBy w' none := ⟨hb.os, hb.tape, hb.output, hb.size, fun i hi _ => hb.block i hi⟩
  refine ⟨h.turn.trans (Turn.of_below hb), h.blk.below hb h.blk.lt, h.ltP, h.base, ?_, h.old, fun e => ?_, h.row, h.both⟩
  · have ho := h.own
    cases a
    · exact World.ownsRow.kept ho hg (by cases (Value.slice A0 n c0).ownBlock <;> simp)
    · exact World.ownsRow.kept ho hg (by simp [Value.ownBlock])
  · obtain ⟨h1, h2, h3, h4⟩ := h.tree e
    exact ⟨h1.keep fun g _ _ q => hb.block g q, h2, h3, Nat.le_trans h4 hb.size⟩
theorem drew (h : Mid B P n kd s A0 c0 xs w0 G cap y t la ha c a k p w) : Mid B P n kd s A0 c0 xs w0 G cap y t la ha c a k p w.drew := h.below (Below.drew (Below.refl _ _))
theorem alloc (h : Mid B P n kd s A0 c0 xs w0 G cap y t la ha c a k p w) (o : Obj) : Mid B P n kd s A0 c0 xs w0 G cap y t la ha c a k p (w.alloc o) := h.below ((Below.refl _ _).alloc (Nat.le_refl _) _)
/-- The kid's part is made. -/
theorem call (hb : Below w.heap.size w w') (hk : PtK w' w.heap.size w'.heap.size y t) (hl : la = w.heap.size) (hh : ha = w'.heap.size) (h : Mid B P n kd s A0 c0 xs w0 G cap y t la ha false a k false w) : Mid B P n kd s A0 c0 xs w0 G cap y t la ha true a k false w' := by
  have h' := h.below hb
  refine ⟨h'.turn, h'.blk, h'.ltP, h'.base, h'.own, h'.old, fun _ => ⟨by rw [hl, hh]; exact hk, by rw [hl]; exact h.turn.size, by rw [hl, hh]; exact hb.size, by omega⟩, h'.row, fun ea _ => ?_⟩
  have ho := h.own
  rw [ea] at ho
  have := ho.lt G rfl
  omega
/-- There is a place. -/
theorem app (ho : w'.ownsRow B 76 9 (.slice (some ⟨G, 0, none⟩) (n + 1) cap) (n + 1) (xs ++ phL ph0)) (hg : w.grownBy w' (Value.slice A0 n c0).ownBlock) (hG : (Value.slice A0 n c0).ownBlock = some G ∨ G = w.heap.size)
    (h : Mid B P n kd s A0 c0 xs w0 G cap y t la ha c false false false w) : Mid B P n kd s A0 c0 xs w0 G cap y t la ha c true false false w' := by
  have hlt := h.old
  have ht : Turn (fun i => (Value.slice A0 n c0).ownBlock = some i) w w' := turn_grown hg
  refine ⟨h.turn.trans (ht.mono fun i hi => .inr hi), ?_, h.ltP, h.base, ho, h.old, fun e => ?_, fun _ => ?_, fun _ e => ?_⟩
  · exact ht.blk h.blk (fun e => by have := (hlt P e).1; have := h.base; omega)
  · obtain ⟨h1, h2, h3, h4⟩ := h.tree e
    exact ⟨h1.keep fun g q1 q2 q => ht.block g q (fun e => by have := (hlt g e).2; omega), h2, h3, Nat.le_trans h4 ht.size⟩
  · rcases hG with hG | hG
    · exact .inl hG
    · exact .inr (by rw [hG]; exact h.turn.size)
  · obtain ⟨h1, h2, h3, h4⟩ := h.tree e
    rcases hG with hG | hG
    · left; have := (hlt G hG).2; omega
    · right; omega
/-- The field tells of it. -/
theorem field (h : Mid B P n kd s A0 c0 xs w0 G cap y t la ha c true false p w) : Mid B P n kd s A0 c0 xs w0 G cap y t la ha c true true p (w.setCell ⟨P, 5, none⟩ (.slice (some ⟨G, 0, none⟩) (n + 1) cap)) := by
  have ho := h.own
  simp only [if_true] at ho
  have hGB := (ho.lt G rfl).1
  have hlP := h.blk.lt
  refine ⟨h.turn.setCell (.inl (.inl rfl)) _, ?_, h.ltP, h.base, ?_, h.old, fun e => ?_, h.row, h.both⟩
  · have := h.blk.put 5 (.slice (some ⟨G, 0, none⟩) (n + 1) cap)
    simpa [phL] using this
  · simp only [if_true]
    refine own_keep ho fun i hi _ => Below.heap_setCell w ⟨P, 5, none⟩ _ i (fun e => ?_)
    have e2 : G = i := by simpa [Value.ownBlock] using hi
    have e3 : i = P := e
    have := h.base
    omega
  · obtain ⟨h1, h2, h3, h4⟩ := h.tree e
    have := h.ltP
    exact ⟨h1.keep fun g q1 q2 q => Below.heap_setCell w ⟨P, 5, none⟩ _ g (fun e => by have : g = P := e; omega), h2, h3, by simpa [World.setCell] using h4⟩
theorem fill_row {cur : Array Value} {xs : List Value} (o : Nat) (ho : o = xs.length) (z0 z1 z2 z3 z4 z5 z6 z7 z8 u0 u1 u2 u3 u4 u5 u6 u7 u8 : Value) (m : Nat) (hm : m = xs.length + 9) (h : cur.toList.take m = xs ++ [z0, z1, z2, z3, z4, z5, z6, z7, z8]) :
    (((((((((cur.setIfInBounds o u0).setIfInBounds (o + 1) u1).setIfInBounds (o + 2) u2).setIfInBounds (o + 3) u3).setIfInBounds (o + 4) u4).setIfInBounds (o + 5) u5).setIfInBounds (o + 6) u6).setIfInBounds (o + 7) u7).setIfInBounds (o + 8) u8).toList.take m = xs ++ [u0, u1, u2, u3, u4, u5, u6, u7, u8] := by
  subst ho hm
  simp only [Array.toList_setIfInBounds, List.take_set, h]
  simp
set_option maxHeartbeats 1000000 in
/-- It is filled. -/
theorem fill (o : Nat) (ho : o = n * 9) (h : Mid B P n kd s A0 c0 xs w0 G cap y t la ha true true k false w) :
    Mid B P n kd s A0 c0 xs w0 G cap y t la ha true true k true (((((((((w.setCell ⟨G, o, none⟩ (.int .i64 y.k)).setCell ⟨G, o + 1, none⟩ (.int .u64 (y.s.a.toNat : Int))).setCell ⟨G, o + 2, none⟩ (.int .u64 (y.s.b.toNat : Int))).setCell ⟨G, o + 3, none⟩ (.int .u64 (y.s.c.toNat : Int))).setCell ⟨G, o + 4, none⟩ (.int .u64 (y.s.d.toNat : Int))).setCell ⟨G, o + 5, none⟩ (.slice y.A y.n y.c)).setCell ⟨G, o + 6, none⟩ (.bool y.m)).setCell ⟨G, o + 7, none⟩ (.bool y.l)).setCell ⟨G, o + 8, none⟩ (.bool y.e)) := by
  have hown := h.own
  simp only [if_true, Bool.false_eq_true, if_false] at hown
  have hGB := (hown.lt G rfl).1
  have hb := h.base
  have hrow := h.row rfl
  have hTG : (fun i => i = P ∨ (Value.slice A0 n c0).ownBlock = some i) G ∨ w0.heap.size ≤ G := by
    rcases hrow with hr | hr
    · exact .inl (.inr hr)
    · exact .inr hr
  have hboth := h.both rfl rfl
  obtain ⟨hl, hr⟩ := hown
  rcases hr with ⟨hv, _⟩ | ⟨g, cap', cur, hv, h1, h2, h3, h4, h5, h6⟩
  · cases hv
  · obtain ⟨rfl, rfl⟩ : G = g ∧ cap = cap' := by injection hv with e1 _ e2; injection e1 with e1; injection e1 with e1; exact ⟨e1, e2⟩
    have hk : Blk w G 76 cur := h2
    have hxl : xs.length = n * 9 := by
      have := hl
      rw [List.length_append] at this
      simp [phL] at this
      omega
    obtain ⟨wf, hwf⟩ : ∃ wf, (((((((((w.setCell ⟨G, o, none⟩ (.int .i64 y.k)).setCell ⟨G, o + 1, none⟩ (.int .u64 (y.s.a.toNat : Int))).setCell ⟨G, o + 2, none⟩ (.int .u64 (y.s.b.toNat : Int))).setCell ⟨G, o + 3, none⟩ (.int .u64 (y.s.c.toNat : Int))).setCell ⟨G, o + 4, none⟩ (.int .u64 (y.s.d.toNat : Int))).setCell ⟨G, o + 5, none⟩ (.slice y.A y.n y.c)).setCell ⟨G, o + 6, none⟩ (.bool y.m)).setCell ⟨G, o + 7, none⟩ (.bool y.l)).setCell ⟨G, o + 8, none⟩ (.bool y.e)) = wf := ⟨_, rfl⟩
    have hfar : ∀ i, i ≠ G → wf.heap[i]? = w.heap[i]? := fun i hi => by
      rw [← hwf]
      rw [heap_setCell_other _ _ _ _ hi, heap_setCell_other _ _ _ _ hi, heap_setCell_other _ _ _ _ hi, heap_setCell_other _ _ _ _ hi, heap_setCell_other _ _ _ _ hi, heap_setCell_other _ _ _ _ hi, heap_setCell_other _ _ _ _ hi, heap_setCell_other _ _ _ _ hi, heap_setCell_other _ _ _ _ hi]
    have hsz : wf.heap.size = w.heap.size := by rw [← hwf]; simp [World.setCell]
    have hkf : Blk wf G 76 (((((((((cur.setIfInBounds o (.int .i64 y.k)).setIfInBounds (o + 1) (.int .u64 (y.s.a.toNat : Int))).setIfInBounds (o + 2) (.int .u64 (y.s.b.toNat : Int))).setIfInBounds (o + 3) (.int .u64 (y.s.c.toNat : Int))).setIfInBounds (o + 4) (.int .u64 (y.s.d.toNat : Int))).setIfInBounds (o + 5) (.slice y.A y.n y.c)).setIfInBounds (o + 6) (.bool y.m)).setIfInBounds (o + 7) (.bool y.l)).setIfInBounds (o + 8) (.bool y.e)) := by
      rw [← hwf]
      exact ((((((((hk.put _ _).put _ _).put _ _).put _ _).put _ _).put _ _).put _ _).put _ _).put _ _
    have htf : Turn (fun i => i = P ∨ (Value.slice A0 n c0).ownBlock = some i) w0 wf := by
      rw [← hwf]
      exact ((((((((h.turn.setCell hTG _).setCell hTG _).setCell hTG _).setCell hTG _).setCell hTG _).setCell hTG _).setCell hTG _).setCell hTG _).setCell hTG _
    rw [hwf]
    refine ⟨htf, ?_, h.ltP, h.base, ?_, h.old, fun e => ?_, h.row, h.both⟩
    · exact (hfar P (by omega)).trans h.blk
    · simp only [if_true]
      refine ⟨by rw [List.length_append]; simp [phL]; omega, .inr ⟨G, cap, _, rfl, h1, hkf, h3, h4, by simp [h5], ?_⟩⟩
      have := fill_row (cur := cur) (xs := xs) o (by omega) _ _ _ _ _ _ _ _ _ (.int .i64 y.k) (.int .u64 (y.s.a.toNat : Int)) (.int .u64 (y.s.b.toNat : Int)) (.int .u64 (y.s.c.toNat : Int)) (.int .u64 (y.s.d.toNat : Int)) (.slice y.A y.n y.c) (.bool y.m) (.bool y.l) (.bool y.e) ((n + 1) * 9) (by omega) h6
      exact this
    · obtain ⟨q1, q2, q3, q4⟩ := h.tree e
      exact ⟨q1.keep fun g p1 p2 p3 => hfar g (by omega), q2, q3, by rw [hsz]; exact q4⟩
end Mid


def MofPost (r : Re) (w : World) (e : Ending) (w' : World) : Prop := ∃ p, e = .returned (phV p) ∧ PtK w' w.heap.size w'.heap.size p (ini r) ∧ Below w.heap.size w w'
def MofSpec (r : Re) : Prop := ∀ (S : Nat → Prop) (h : Hd) (w : World), IsS w S h r → Calls Tryd.prog 22 #[hdV h] w (MofPost r w)
theorem infoP : (Tryd.prog.info? 76).map (fun i => (i.zero, i.size, i.bytes)) = some (some (phV ph0), 9, 72) := by kernel_rfl
/-- 'append(p.kids, part{})', as one step of a region that draws. -/
theorem step_append_part {ops : Array Oper} {o : Oper} {a : Act} {w : World} {K : Act → World → Prop} {Q : Exit → Act → World → Prop} {E : Prop} (hg : o.guard = none) (s x : Operand)
    (ho : o.op = .call { callee := .builtin .append, args := #[s, x], argTypes := #[74, 74] })
    (base : Nat) (A0 : Option Addr) (n c0 : Nat) (xs : List Value) (hs : a.eval s = .slice A0 n c0) (hown : w.ownsRow base 76 9 (.slice A0 n c0) n xs)
    (g : Nat) (hx : a.eval x = .slice (some ⟨g, 0, none⟩) 1 1) (hk : Blk w g 76 (phL ph0).toArray) (hn : n < 1000000) (hbase : base ≤ w.heap.size)
    (hK : ∀ G cap w', w'.ownsRow base 76 9 (.slice (some ⟨G, 0, none⟩) (n + 1) cap) (n + 1) (xs ++ phL ph0) → w.grownBy w' (Value.slice A0 n c0).ownBlock → ((Value.slice A0 n c0).ownBlock = some G ∨ G = w.heap.size) → K (a.put o.dst (.slice (some ⟨G, 0, none⟩) (n + 1) cap)) w') :
    if Region.wanted o (yielded ops a.tmps) = true then Oper.wp Tryd.prog o a w K Q else E := by
  obtain ⟨i, hi⟩ := Option.isSome_iff_exists.1 (show (Tryd.prog.info? 76).isSome = true by kernel_rfl)
  have h0 := infoP
  rw [hi] at h0
  simp only [Option.map_some, Option.some.injEq, Prod.mk.injEq] at h0
  obtain ⟨hz, hsz, hby⟩ := h0
  have hcells : ∀ j u, (phL ph0)[j]? = some u → w.cell? ((⟨g, 0, none⟩ : Addr).add j) = some u := by
    intro j u hu
    rw [zero_add_ad, hk.cell]
    simpa using hu
  have h1 : ∀ u ∈ phL ph0, u.oneCell' = true := by
    intro u hu
    simp [phL] at hu
    rcases hu with rfl | rfl | rfl | rfl | rfl | rfl | rfl | rfl | rfl <;> rfl
  exact step_append_lies w hg s x 74 ho base 76 i _ 9 72 Tryd.underlying74 hi hz hsz hby rfl (by omega) (.slice A0 n c0) n xs hs hown ⟨g, 0, none⟩ 1 1 (phL ph0) hx rfl hcells h1 (by omega) (by unfold maxLen; omega) (by omega) hbase _ rfl
    fun G cap w' h2 h3 h4 _ => hK G cap w' h2 h3 h4
theorem own_part {w : World} {base G n cap : Nat} {xs : List Value} {y : Ph} (h : w.ownsRow base 76 9 (.slice (some ⟨G, 0, none⟩) (n + 1) cap) (n + 1) (xs ++ phL y)) : AtPh w G (n * 9) y := by
  have hl := h.1
  rw [List.length_append] at hl
  have hl2 : xs.length = n * 9 := by simp [phL] at hl; omega
  have hc : ∀ j u, (phL y)[j]? = some u → w.cell? ⟨G, n * 9 + j, none⟩ = some u := fun j u hu => by
    have := h.cells rfl (n * 9 + j) u (by rw [List.getElem?_append_right (by omega), hl2, Nat.add_sub_cancel_left]; exact hu)
    rwa [zero_add_ad] at this
  have hf : ∀ i, w.frozen? ⟨G, i, none⟩ = false := fun i => by
    rcases h.2 with ⟨hv, _⟩ | ⟨g, cap', cur, hv, _, hg, _⟩
    · cases hv
    · have e : G = g := by injection hv with e1; injection e1 with e1; injection e1
      subst e
      simp [World.frozen?, hg]
  exact ⟨hc 0 _ rfl, hc 1 _ rfl, hc 2 _ rfl, hc 3 _ rfl, hc 4 _ rfl, hc 5 _ rfl, hc 6 _ rfl, hc 7 _ rfl, hc 8 _ rfl, hf⟩

/-- What is known before the row grows: which operations have come. -/
structure Ph1 (w0 : World) (n : Nat) (A0 : Option Addr) (c0 : Nat) (x : Hd) (t : Pt) (b1 b2 b3 b5 : Bool) (t19 t20 t21 t22 t23 : Value) (w : World) : Prop where
  below : Below w0.heap.size w0 w
  h1 : b1 = true → t19 = .slice A0 n c0 ∧ t22 = .int .i64 (n : Int)
  h2 : b2 = true → t20 = hdV x
  h3 : b3 = true → ∃ y la ha, t21 = phV y ∧ PtK w la ha y t ∧ w0.heap.size ≤ la ∧ la ≤ ha ∧ ha ≤ w.heap.size
  h5 : b5 = true → ∃ g, t23 = .slice (some ⟨g, 0, none⟩) 1 1 ∧ Blk w g 76 (phL ph0).toArray
section
variable {w0 : World} {n : Nat} {A0 : Option Addr} {c0 : Nat} {x : Hd} {t : Pt} {b1 b2 b3 b5 : Bool} {t19 t20 t21 t22 t23 : Value} {w w' : World}
theorem Ph1.grow (h : Ph1 w0 n A0 c0 x t b1 b2 b3 b5 t19 t20 t21 t22 t23 w) (hb : Below w.heap.size w w') : Ph1 w0 n A0 c0 x t b1 b2 b3 b5 t19 t20 t21 t22 t23 w' :=
  ⟨h.below.trans (hb.mono h.below.size), h.h1, h.h2, fun e => by
    obtain ⟨y, la, ha, q1, q2, q3, q4, q5⟩ := h.h3 e
    exact ⟨y, la, ha, q1, q2.keep fun g _ _ q => hb.block g q, q3, q4, Nat.le_trans q5 hb.size⟩, fun e => by
    obtain ⟨g, q1, q2⟩ := h.h5 e
    exact ⟨g, q1, q2.below hb q2.lt⟩⟩
end
def lst1 (b1 b2 b3 b5 : Bool) : Array Bool := #[true, b1, b2, b3, b1, b5, false, false, false, false, false]
/-- Where all but the append and the stores have come. -/
def TailK (ops : Array Oper) (Q : Exit → Act → World → Prop) (P K n : Nat) (A0 : Option Addr) (c0 : Nat) (w0 : World) (x : Hd) (t : Pt) (T0 T1 T2 T4 T6 T7 T8 T9 T10 T11 T12 T13 T14 T15 T16 T17 T27 T28 T29 T30 : Value) : Prop :=
  ∀ (t19 t20 t21 t22 t23 t24 t25 t26 : Value) (w : World), Ph1 w0 n A0 c0 x t true true true true t19 t20 t21 t22 t23 w → wpAny Tryd.prog .any ops Q 5 (lst1 true true true true) { tmps := #[T0, T1, T2, .pointer (some ⟨P, 0, none⟩), T4, .pointer (some ⟨K, 0, none⟩), T6, T7, T8, T9, T10, T11, T12, T13, T14, T15, T16, T17, .pointer (some ⟨P, 5, none⟩), t19, t20, t21, t22, t23, t24, t25, t26, T27, T28, T29, T30], defers := [] } w

theorem ops_get {l : List Oper} {i : Nat} {o : Oper} (h : l[i]? = some o) : l.toArray[i]? = some o := by simpa using h
theorem Mid.known {B P n : Nat} {kd : Int} {s : St} {A0 : Option Addr} {c0 : Nat} {xs : List Value} {w0 w : World} {G cap : Nat} {y : Ph} {t : Pt} {la ha : Nat} (h1 : PtK w la ha y t) (h2 : w0.heap.size ≤ la) (h3 : la ≤ ha) (h4 : ha ≤ w.heap.size)
    (h : Mid B P n kd s A0 c0 xs w0 G cap y t la ha false false false false w) : Mid B P n kd s A0 c0 xs w0 G cap y t la ha true false false false w :=
  ⟨h.turn, h.blk, h.ltP, h.base, h.own, h.old, fun _ => ⟨h1, h2, h3, h4⟩, h.row, fun e => by simp at e⟩
set_option maxHeartbeats 4000000 in
set_option maxRecDepth 100000 in
theorem kid_tail {Q : Exit → Act → World → Prop} {P K B n : Nat} {kd : Int} {A0 : Option Addr} {c0 : Nat} {xs : List Value} {w0 : World} {x : Hd} {t : Pt} {T0 T1 T2 T4 T6 T7 T8 T9 T10 T11 T12 T13 T14 T15 T16 T17 T27 T28 T29 T30 : Value} (hn : n = 0 ∨ n = 1) (hP : ∀ c (a : Act) (d : Option Tmp) (v : Value) (w : World), Q (.panic c) (a.put d v) w → Q (.panic c) a w)
    (HM : ∀ G cap y la ha, Mid B P n kd st0 A0 c0 xs w0 G cap y t la ha false false false false w0)
    (hQ : ∀ (t19 t20 t21 t22 t23 t24 t25 t26 : Value) (w' : World) G cap y la ha, Mid B P n kd st0 A0 c0 xs w0 G cap y t la ha true true true true w' → Q .normal { tmps := #[T0, T1, T2, .pointer (some ⟨P, 0, none⟩), T4, .pointer (some ⟨K, 0, none⟩), T6, T7, T8, T9, T10, T11, T12, T13, T14, T15, T16, T17, .pointer (some ⟨P, 5, none⟩), t19, t20, t21, t22, t23, t24, t25, t26, T27, T28, T29, T30], defers := [] } w') :
    TailK (((Tryd.f22.body.map Code.opers).getD []).drop 18 |>.take 11).toArray Q P K n A0 c0 w0 x t T0 T1 T2 T4 T6 T7 T8 T9 T10 T11 T12 T13 T14 T15 T16 T17 T27 T28 T29 T30 := by
  intro t19 t20 t21 t22 t23 t24 t25 t26 w h
  obtain ⟨rfl, rfl⟩ := h.h1 rfl
  obtain rfl := h.h2 rfl
  obtain ⟨y, la, ha, rfl, k1, k2, k3, k4⟩ := h.h3 rfl
  obtain ⟨g, rfl, hz⟩ := h.h5 rfl
  have M1 : ∀ G cap, Mid B P n kd st0 A0 c0 xs w0 G cap y t la ha true false false false w := fun G cap => ((HM G cap y la ha).below h.below).known k1 k2 k3 k4
  have hown := (M1 0 0).own
  simp only [Bool.false_eq_true, if_false] at hown
  have hbase : B ≤ w.heap.size := Nat.le_trans (M1 0 0).base.2 h.below.size
  refine wpAny_ready (rs := [6]) (by kernel_rfl) (by simp) (AllReady.cons (ops_get rfl) (fun K hK => ?_) AllReady.nil)
  refine step_append_part rfl (.tmp 19) (.tmp 23) rfl B A0 n c0 xs (by rfl) hown g (by rfl) hz (by omega) hbase ?_
  intro G cap wd ho hg hG
  have M2 := Mid.app ho hg hG (M1 G cap)
  refine hK _ _ ?_
  clear hK K
  have hown2 := own_part ho
  rcases hn with rfl | rfl
  · have hi1 : (0 : Int) < 1 := by omega
    refine wpAny_take (i := 7) (v := .pointer (some ⟨G, 0, none⟩)) (ops_get rfl) (by kernel_rfl) (by kernel_rfl) (by kernel_rfl) (fun _ _ _ h => hP _ _ _ _ _ h) (Or.inl ⟨by rfl, ?_⟩) ?_
    · intro w
      go_simp
    refine wpAny_take (i := 9) (v := .pointer (some ⟨P, 5, none⟩)) (ops_get rfl) (by kernel_rfl) (by kernel_rfl) (by kernel_rfl) (fun _ _ _ h => hP _ _ _ _ _ h) (Or.inl ⟨by rfl, ?_⟩) ?_
    · intro w
      go_simp
    simp only [Act.put, lst1, List.setIfInBounds_toArray, List.set_cons_zero, List.set_cons_succ]
    obtain ⟨g0, g1, g2, g3, g4, g5, g6, g7, g8⟩ := all9_0 (own_part ho)
    have gf := (own_part ho).fz
    have p5 : wd.cell? ⟨P, 5, none⟩ = some (.slice A0 0 c0) := M2.blk.cell 5
    have pf := M2.blk.frozen
    have hPG : ¬ P = G := by have := (ho.lt G rfl).1; have := M2.base; omega
    have hGP : ¬ G = P := fun e => hPG e.symm
    refine wpAny_ready (rs := [8, 10]) (by kernel_rfl) (by simp) (AllReady.cons (ops_get rfl) (fun K hK => ?_) (AllReady.cons (ops_get rfl) (fun K hK => ?_) AllReady.nil))
    · have M3 := Mid.fill 0 rfl M2
      simp only [Nat.reduceAdd] at M3
      unfold phV
      go_simp
      refine hK _ _ ?_
      clear hK K
      have p5' := M3.blk.cell 5
      have pf' := M3.blk.frozen
      simp only [Bool.false_eq_true, if_false] at p5'
      have M4 := Mid.field M3
      refine wpAny_ready (rs := [10]) (by kernel_rfl) (by simp) (AllReady.cons (ops_get rfl) (fun K hK => ?_) AllReady.nil)
      go_simp
      refine hK _ _ ?_
      exact wpAny_done (by kernel_rfl) (hQ _ _ _ _ _ _ _ _ _ _ _ _ _ _ M4) _
    · have M3 := Mid.field M2
      go_simp
      refine hK _ _ ?_
      clear hK K
      obtain ⟨g0', g1', g2', g3', g4', g5', g6', g7', g8'⟩ := all9_0 (own_part M3.own)
      have gf' := (own_part M3.own).fz
      have M4 := Mid.fill 0 rfl M3
      simp only [Nat.reduceAdd] at M4
      refine wpAny_ready (rs := [8]) (by kernel_rfl) (by simp) (AllReady.cons (ops_get rfl) (fun K hK => ?_) AllReady.nil)
      unfold phV
      go_simp
      refine hK _ _ ?_
      exact wpAny_done (by kernel_rfl) (hQ _ _ _ _ _ _ _ _ _ _ _ _ _ _ M4) _
  · have hi1 : (0 : Int) < 1 := by omega
    refine wpAny_take (i := 7) (v := .pointer (some ⟨G, 9, none⟩)) (ops_get rfl) (by kernel_rfl) (by kernel_rfl) (by kernel_rfl) (fun _ _ _ h => hP _ _ _ _ _ h) (Or.inl ⟨by rfl, ?_⟩) ?_
    · intro w
      go_simp
    refine wpAny_take (i := 9) (v := .pointer (some ⟨P, 5, none⟩)) (ops_get rfl) (by kernel_rfl) (by kernel_rfl) (by kernel_rfl) (fun _ _ _ h => hP _ _ _ _ _ h) (Or.inl ⟨by rfl, ?_⟩) ?_
    · intro w
      go_simp
    simp only [Act.put, lst1, List.setIfInBounds_toArray, List.set_cons_zero, List.set_cons_succ]
    obtain ⟨g0, g1, g2, g3, g4, g5, g6, g7, g8⟩ := all9_9 (own_part ho)
    have gf := (own_part ho).fz
    have p5 : wd.cell? ⟨P, 5, none⟩ = some (.slice A0 1 c0) := M2.blk.cell 5
    have pf := M2.blk.frozen
    have hPG : ¬ P = G := by have := (ho.lt G rfl).1; have := M2.base; omega
    have hGP : ¬ G = P := fun e => hPG e.symm
    refine wpAny_ready (rs := [8, 10]) (by kernel_rfl) (by simp) (AllReady.cons (ops_get rfl) (fun K hK => ?_) (AllReady.cons (ops_get rfl) (fun K hK => ?_) AllReady.nil))
    · have M3 := Mid.fill 9 rfl M2
      simp only [Nat.reduceAdd] at M3
      unfold phV
      go_simp
      refine hK _ _ ?_
      clear hK K
      have p5' := M3.blk.cell 5
      have pf' := M3.blk.frozen
      simp only [Bool.false_eq_true, if_false] at p5'
      have M4 := Mid.field M3
      refine wpAny_ready (rs := [10]) (by kernel_rfl) (by simp) (AllReady.cons (ops_get rfl) (fun K hK => ?_) AllReady.nil)
      go_simp
      refine hK _ _ ?_
      exact wpAny_done (by kernel_rfl) (hQ _ _ _ _ _ _ _ _ _ _ _ _ _ _ M4) _
    · have M3 := Mid.field M2
      go_simp
      refine hK _ _ ?_
      clear hK K
      obtain ⟨g0', g1', g2', g3', g4', g5', g6', g7', g8'⟩ := all9_9 (own_part M3.own)
      have gf' := (own_part M3.own).fz
      have M4 := Mid.fill 9 rfl M3
      simp only [Nat.reduceAdd] at M4
      refine wpAny_ready (rs := [8]) (by kernel_rfl) (by simp) (AllReady.cons (ops_get rfl) (fun K hK => ?_) AllReady.nil)
      unfold phV
      go_simp
      refine hK _ _ ?_
      exact wpAny_done (by kernel_rfl) (hQ _ _ _ _ _ _ _ _ _ _ _ _ _ _ M4) _
theorem Ph1.know1 {w0 : World} {n : Nat} {A0 : Option Addr} {c0 : Nat} {x : Hd} {t : Pt} {b1 b2 b3 b5 : Bool} {t19 t20 t21 t22 t23 : Value} {w : World} (h : Ph1 w0 n A0 c0 x t b1 b2 b3 b5 t19 t20 t21 t22 t23 w) :
    Ph1 w0 n A0 c0 x t true b2 b3 b5 (.slice A0 n c0) t20 t21 (.int .i64 (n : Int)) t23 w := ⟨h.below, fun _ => ⟨rfl, rfl⟩, h.h2, h.h3, h.h5⟩
theorem Ph1.know2 {w0 : World} {n : Nat} {A0 : Option Addr} {c0 : Nat} {x : Hd} {t : Pt} {b1 b2 b3 b5 : Bool} {t19 t20 t21 t22 t23 : Value} {w : World} (h : Ph1 w0 n A0 c0 x t b1 b2 b3 b5 t19 t20 t21 t22 t23 w) :
    Ph1 w0 n A0 c0 x t b1 true b3 b5 t19 (hdV x) t21 t22 t23 w := ⟨h.below, h.h1, fun _ => rfl, h.h3, h.h5⟩
theorem Ph1.know3 {w0 : World} {n : Nat} {A0 : Option Addr} {c0 : Nat} {x : Hd} {t : Pt} {b1 b2 b3 b5 : Bool} {t19 t20 t21 t22 t23 : Value} {w w' : World} {y : Ph} (h : Ph1 w0 n A0 c0 x t b1 b2 b3 b5 t19 t20 t21 t22 t23 w) (hb : Below w.heap.size w w') (hk : PtK w' w.heap.size w'.heap.size y t) :
    Ph1 w0 n A0 c0 x t b1 b2 true b5 t19 t20 (phV y) t22 t23 w' := ⟨(h.grow hb).below, h.h1, h.h2, fun _ => ⟨y, _, _, rfl, hk, h.below.size, hb.size, Nat.le_refl _⟩, (h.grow hb).h5⟩
theorem Ph1.know5 {w0 : World} {n : Nat} {A0 : Option Addr} {c0 : Nat} {x : Hd} {t : Pt} {b1 b2 b3 b5 : Bool} {t19 t20 t21 t22 t23 : Value} {w : World} (h : Ph1 w0 n A0 c0 x t b1 b2 b3 b5 t19 t20 t21 t22 t23 w) (o : Obj) (ho : o = .cells (phL ph0).toArray 76) :
    Ph1 w0 n A0 c0 x t b1 b2 b3 true t19 t20 t21 t22 (.slice (some ⟨w.heap.size, 0, none⟩) 1 1) (w.alloc o) := by
  have hb : Below w.heap.size w (w.alloc o) := (Below.refl _ _).alloc (Nat.le_refl _) _
  exact ⟨(h.grow hb).below, h.h1, h.h2, (h.grow hb).h3, fun _ => ⟨_, rfl, by rw [ho]; exact Blk.new _ _ _⟩⟩
set_option maxHeartbeats 4000000 in
set_option maxRecDepth 100000 in
/-- The whole statement. -/
theorem kid_any {r : Re} {Q : Exit → Act → World → Prop} {P K B n : Nat} {kd : Int} {A0 : Option Addr} {c0 : Nat} {xs : List Value} {w0 : World} {x : Hd} {T0 T1 T2 T4 T6 T7 T8 T9 T10 T11 T12 T13 T14 T15 T16 T17 T27 T28 T29 T30 : Value} (hn : n = 0 ∨ n = 1) (hP : ∀ c (a : Act) (d : Option Tmp) (v : Value) (w : World), Q (.panic c) (a.put d v) w → Q (.panic c) a w)
    (HM : ∀ G cap y la ha, Mid B P n kd st0 A0 c0 xs w0 G cap y (ini r) la ha false false false false w0)
    (HC : ∀ w', Below w0.heap.size w0 w' → Calls Tryd.prog 22 #[hdV x] w' (MofPost r w')) (HX : AtHd w0 K 0 x) (hPc : w0.cell? ⟨P, 5, none⟩ = some (.slice A0 n c0))
    (hQ : ∀ (t19 t20 t21 t22 t23 t24 t25 t26 : Value) (w' : World) G cap y la ha, Mid B P n kd st0 A0 c0 xs w0 G cap y (ini r) la ha true true true true w' → Q .normal { tmps := #[T0, T1, T2, .pointer (some ⟨P, 0, none⟩), T4, .pointer (some ⟨K, 0, none⟩), T6, T7, T8, T9, T10, T11, T12, T13, T14, T15, T16, T17, .pointer (some ⟨P, 5, none⟩), t19, t20, t21, t22, t23, t24, t25, t26, T27, T28, T29, T30], defers := [] } w')
    (t18 t19 t20 t21 t22 t23 t24 t25 t26 : Value) (w : World) (hw : Below w0.heap.size w0 w) :
    wpAny Tryd.prog .any (((Tryd.f22.body.map Code.opers).getD []).drop 18 |>.take 11).toArray Q 11 #[false, false, false, false, false, false, false, false, false, false, false] { tmps := #[T0, T1, T2, .pointer (some ⟨P, 0, none⟩), T4, .pointer (some ⟨K, 0, none⟩), T6, T7, T8, T9, T10, T11, T12, T13, T14, T15, T16, T17, t18, t19, t20, t21, t22, t23, t24, t25, t26, T27, T28, T29, T30], defers := [] } w := by
  have hPl : P < w0.heap.size := World.block_lt_of_cell? _ _ hPc
  have s1111 := kid_tail (x := x) hn hP HM hQ
  unfold TailK at s1111
  have s1110 : ∀ (t19 t20 t21 t22 t23 t24 t25 t26 : Value) (w : World), Ph1 w0 n A0 c0 x (ini r) true true true false t19 t20 t21 t22 t23 w → wpAny Tryd.prog .any (((Tryd.f22.body.map Code.opers).getD []).drop 18 |>.take 11).toArray Q 6 (lst1 true true true false) { tmps := #[T0, T1, T2, .pointer (some ⟨P, 0, none⟩), T4, .pointer (some ⟨K, 0, none⟩), T6, T7, T8, T9, T10, T11, T12, T13, T14, T15, T16, T17, .pointer (some ⟨P, 5, none⟩), t19, t20, t21, t22, t23, t24, t25, t26, T27, T28, T29, T30], defers := [] } w := by
    intro t19 t20 t21 t22 t23 t24 t25 t26 w h
    obtain ⟨rfl, rfl⟩ := h.h1 rfl
    obtain rfl := h.h2 rfl
    refine wpAny_ready (rs := [5]) (by kernel_rfl) (by simp) (AllReady.cons (ops_get rfl) (fun K' hK => ?_) AllReady.nil)
    · go_simp
      refine hK _ _ ?_
      exact s1111 _ _ _ _ _ _ _ _ _ (h.know5 _ rfl)
  have s1101 : ∀ (t19 t20 t21 t22 t23 t24 t25 t26 : Value) (w : World), Ph1 w0 n A0 c0 x (ini r) true true false true t19 t20 t21 t22 t23 w → wpAny Tryd.prog .any (((Tryd.f22.body.map Code.opers).getD []).drop 18 |>.take 11).toArray Q 6 (lst1 true true false true) { tmps := #[T0, T1, T2, .pointer (some ⟨P, 0, none⟩), T4, .pointer (some ⟨K, 0, none⟩), T6, T7, T8, T9, T10, T11, T12, T13, T14, T15, T16, T17, .pointer (some ⟨P, 5, none⟩), t19, t20, t21, t22, t23, t24, t25, t26, T27, T28, T29, T30], defers := [] } w := by
    intro t19 t20 t21 t22 t23 t24 t25 t26 w h
    obtain ⟨rfl, rfl⟩ := h.h1 rfl
    obtain rfl := h.h2 rfl
    refine wpAny_ready (rs := [3]) (by kernel_rfl) (by simp) (AllReady.cons (ops_get rfl) (fun K' hK => ?_) AllReady.nil)
    · have HCw := HC w h.below
      unfold hdV at HCw ⊢
      go_simp
      refine HCw.mono ?_
      rintro e w' ⟨y, rfl, hpt, hbl⟩
      refine hK _ _ ?_
      exact s1111 _ _ _ _ _ _ _ _ w' (h.know3 hbl hpt)
  have s0111 : ∀ (t19 t20 t21 t22 t23 t24 t25 t26 : Value) (w : World), Ph1 w0 n A0 c0 x (ini r) false true true true t19 t20 t21 t22 t23 w → wpAny Tryd.prog .any (((Tryd.f22.body.map Code.opers).getD []).drop 18 |>.take 11).toArray Q 7 (lst1 false true true true) { tmps := #[T0, T1, T2, .pointer (some ⟨P, 0, none⟩), T4, .pointer (some ⟨K, 0, none⟩), T6, T7, T8, T9, T10, T11, T12, T13, T14, T15, T16, T17, .pointer (some ⟨P, 5, none⟩), t19, t20, t21, t22, t23, t24, t25, t26, T27, T28, T29, T30], defers := [] } w := by
    intro t19 t20 t21 t22 t23 t24 t25 t26 w h
    obtain rfl := h.h2 rfl
    refine wpAny_ready (rs := [1]) (by kernel_rfl) (by simp) (AllReady.cons (ops_get rfl) (fun K' hK => ?_) AllReady.nil)
    · have p5 : w.cell? ⟨P, 5, none⟩ = some (.slice A0 n c0) := (h.below.cell (p := ⟨P, 5, none⟩) hPl).trans hPc
      go_simp
      refine hK _ _ ?_
      refine wpAny_take (i := 4) (v := .int .i64 (n : Int)) (ops_get rfl) (by kernel_rfl) (by kernel_rfl) (by kernel_rfl) (fun _ _ _ h => hP _ _ _ _ _ h) (Or.inl ⟨by rfl, ?_⟩) ?_
      · intro w
        go_simp
      · simp only [Act.put, lst1, List.setIfInBounds_toArray, List.set_cons_zero, List.set_cons_succ]
        exact s1111 _ _ _ _ _ _ _ _ w h.know1
  have s1100 : ∀ (t19 t20 t21 t22 t23 t24 t25 t26 : Value) (w : World), Ph1 w0 n A0 c0 x (ini r) true true false false t19 t20 t21 t22 t23 w → wpAny Tryd.prog .any (((Tryd.f22.body.map Code.opers).getD []).drop 18 |>.take 11).toArray Q 7 (lst1 true true false false) { tmps := #[T0, T1, T2, .pointer (some ⟨P, 0, none⟩), T4, .pointer (some ⟨K, 0, none⟩), T6, T7, T8, T9, T10, T11, T12, T13, T14, T15, T16, T17, .pointer (some ⟨P, 5, none⟩), t19, t20, t21, t22, t23, t24, t25, t26, T27, T28, T29, T30], defers := [] } w := by
    intro t19 t20 t21 t22 t23 t24 t25 t26 w h
    obtain ⟨rfl, rfl⟩ := h.h1 rfl
    obtain rfl := h.h2 rfl
    refine wpAny_ready (rs := [3, 5]) (by kernel_rfl) (by simp) (AllReady.cons (ops_get rfl) (fun K' hK => ?_) (AllReady.cons (ops_get rfl) (fun K' hK => ?_) AllReady.nil))
    · have HCw := HC w h.below
      unfold hdV at HCw ⊢
      go_simp
      refine HCw.mono ?_
      rintro e w' ⟨y, rfl, hpt, hbl⟩
      refine hK _ _ ?_
      exact s1110 _ _ _ _ _ _ _ _ w' (h.know3 hbl hpt)
    · go_simp
      refine hK _ _ ?_
      exact s1101 _ _ _ _ _ _ _ _ _ (h.know5 _ rfl)
  have s1001 : ∀ (t19 t20 t21 t22 t23 t24 t25 t26 : Value) (w : World), Ph1 w0 n A0 c0 x (ini r) true false false true t19 t20 t21 t22 t23 w → wpAny Tryd.prog .any (((Tryd.f22.body.map Code.opers).getD []).drop 18 |>.take 11).toArray Q 7 (lst1 true false false true) { tmps := #[T0, T1, T2, .pointer (some ⟨P, 0, none⟩), T4, .pointer (some ⟨K, 0, none⟩), T6, T7, T8, T9, T10, T11, T12, T13, T14, T15, T16, T17, .pointer (some ⟨P, 5, none⟩), t19, t20, t21, t22, t23, t24, t25, t26, T27, T28, T29, T30], defers := [] } w := by
    intro t19 t20 t21 t22 t23 t24 t25 t26 w h
    obtain ⟨rfl, rfl⟩ := h.h1 rfl
    refine wpAny_ready (rs := [2]) (by kernel_rfl) (by simp) (AllReady.cons (ops_get rfl) (fun K' hK => ?_) AllReady.nil)
    · obtain ⟨x0, x1, x2, x3, x4, x5⟩ := at0 (HX.keep (h.below.block K HX.lt))
      go_simp
      refine hK _ _ ?_
      exact s1101 _ _ _ _ _ _ _ _ w h.know2
  have s0110 : ∀ (t19 t20 t21 t22 t23 t24 t25 t26 : Value) (w : World), Ph1 w0 n A0 c0 x (ini r) false true true false t19 t20 t21 t22 t23 w → wpAny Tryd.prog .any (((Tryd.f22.body.map Code.opers).getD []).drop 18 |>.take 11).toArray Q 8 (lst1 false true true false) { tmps := #[T0, T1, T2, .pointer (some ⟨P, 0, none⟩), T4, .pointer (some ⟨K, 0, none⟩), T6, T7, T8, T9, T10, T11, T12, T13, T14, T15, T16, T17, .pointer (some ⟨P, 5, none⟩), t19, t20, t21, t22, t23, t24, t25, t26, T27, T28, T29, T30], defers := [] } w := by
    intro t19 t20 t21 t22 t23 t24 t25 t26 w h
    obtain rfl := h.h2 rfl
    refine wpAny_ready (rs := [1, 5]) (by kernel_rfl) (by simp) (AllReady.cons (ops_get rfl) (fun K' hK => ?_) (AllReady.cons (ops_get rfl) (fun K' hK => ?_) AllReady.nil))
    · have p5 : w.cell? ⟨P, 5, none⟩ = some (.slice A0 n c0) := (h.below.cell (p := ⟨P, 5, none⟩) hPl).trans hPc
      go_simp
      refine hK _ _ ?_
      refine wpAny_take (i := 4) (v := .int .i64 (n : Int)) (ops_get rfl) (by kernel_rfl) (by kernel_rfl) (by kernel_rfl) (fun _ _ _ h => hP _ _ _ _ _ h) (Or.inl ⟨by rfl, ?_⟩) ?_
      · intro w
        go_simp
      · simp only [Act.put, lst1, List.setIfInBounds_toArray, List.set_cons_zero, List.set_cons_succ]
        exact s1110 _ _ _ _ _ _ _ _ w h.know1
    · go_simp
      refine hK _ _ ?_
      exact s0111 _ _ _ _ _ _ _ _ _ (h.know5 _ rfl)
  have s0101 : ∀ (t19 t20 t21 t22 t23 t24 t25 t26 : Value) (w : World), Ph1 w0 n A0 c0 x (ini r) false true false true t19 t20 t21 t22 t23 w → wpAny Tryd.prog .any (((Tryd.f22.body.map Code.opers).getD []).drop 18 |>.take 11).toArray Q 8 (lst1 false true false true) { tmps := #[T0, T1, T2, .pointer (some ⟨P, 0, none⟩), T4, .pointer (some ⟨K, 0, none⟩), T6, T7, T8, T9, T10, T11, T12, T13, T14, T15, T16, T17, .pointer (some ⟨P, 5, none⟩), t19, t20, t21, t22, t23, t24, t25, t26, T27, T28, T29, T30], defers := [] } w := by
    intro t19 t20 t21 t22 t23 t24 t25 t26 w h
    obtain rfl := h.h2 rfl
    refine wpAny_ready (rs := [1, 3]) (by kernel_rfl) (by simp) (AllReady.cons (ops_get rfl) (fun K' hK => ?_) (AllReady.cons (ops_get rfl) (fun K' hK => ?_) AllReady.nil))
    · have p5 : w.cell? ⟨P, 5, none⟩ = some (.slice A0 n c0) := (h.below.cell (p := ⟨P, 5, none⟩) hPl).trans hPc
      go_simp
      refine hK _ _ ?_
      refine wpAny_take (i := 4) (v := .int .i64 (n : Int)) (ops_get rfl) (by kernel_rfl) (by kernel_rfl) (by kernel_rfl) (fun _ _ _ h => hP _ _ _ _ _ h) (Or.inl ⟨by rfl, ?_⟩) ?_
      · intro w
        go_simp
      · simp only [Act.put, lst1, List.setIfInBounds_toArray, List.set_cons_zero, List.set_cons_succ]
        exact s1101 _ _ _ _ _ _ _ _ w h.know1
    · have HCw := HC w h.below
      unfold hdV at HCw ⊢
      go_simp
      refine HCw.mono ?_
      rintro e w' ⟨y, rfl, hpt, hbl⟩
      refine hK _ _ ?_
      exact s0111 _ _ _ _ _ _ _ _ w' (h.know3 hbl hpt)
  have s1000 : ∀ (t19 t20 t21 t22 t23 t24 t25 t26 : Value) (w : World), Ph1 w0 n A0 c0 x (ini r) true false false false t19 t20 t21 t22 t23 w → wpAny Tryd.prog .any (((Tryd.f22.body.map Code.opers).getD []).drop 18 |>.take 11).toArray Q 8 (lst1 true false false false) { tmps := #[T0, T1, T2, .pointer (some ⟨P, 0, none⟩), T4, .pointer (some ⟨K, 0, none⟩), T6, T7, T8, T9, T10, T11, T12, T13, T14, T15, T16, T17, .pointer (some ⟨P, 5, none⟩), t19, t20, t21, t22, t23, t24, t25, t26, T27, T28, T29, T30], defers := [] } w := by
    intro t19 t20 t21 t22 t23 t24 t25 t26 w h
    obtain ⟨rfl, rfl⟩ := h.h1 rfl
    refine wpAny_ready (rs := [2, 5]) (by kernel_rfl) (by simp) (AllReady.cons (ops_get rfl) (fun K' hK => ?_) (AllReady.cons (ops_get rfl) (fun K' hK => ?_) AllReady.nil))
    · obtain ⟨x0, x1, x2, x3, x4, x5⟩ := at0 (HX.keep (h.below.block K HX.lt))
      go_simp
      refine hK _ _ ?_
      exact s1100 _ _ _ _ _ _ _ _ w h.know2
    · go_simp
      refine hK _ _ ?_
      exact s1001 _ _ _ _ _ _ _ _ _ (h.know5 _ rfl)
  have s0100 : ∀ (t19 t20 t21 t22 t23 t24 t25 t26 : Value) (w : World), Ph1 w0 n A0 c0 x (ini r) false true false false t19 t20 t21 t22 t23 w → wpAny Tryd.prog .any (((Tryd.f22.body.map Code.opers).getD []).drop 18 |>.take 11).toArray Q 9 (lst1 false true false false) { tmps := #[T0, T1, T2, .pointer (some ⟨P, 0, none⟩), T4, .pointer (some ⟨K, 0, none⟩), T6, T7, T8, T9, T10, T11, T12, T13, T14, T15, T16, T17, .pointer (some ⟨P, 5, none⟩), t19, t20, t21, t22, t23, t24, t25, t26, T27, T28, T29, T30], defers := [] } w := by
    intro t19 t20 t21 t22 t23 t24 t25 t26 w h
    obtain rfl := h.h2 rfl
    refine wpAny_ready (rs := [1, 3, 5]) (by kernel_rfl) (by simp) (AllReady.cons (ops_get rfl) (fun K' hK => ?_) (AllReady.cons (ops_get rfl) (fun K' hK => ?_) (AllReady.cons (ops_get rfl) (fun K' hK => ?_) AllReady.nil)))
    · have p5 : w.cell? ⟨P, 5, none⟩ = some (.slice A0 n c0) := (h.below.cell (p := ⟨P, 5, none⟩) hPl).trans hPc
      go_simp
      refine hK _ _ ?_
      refine wpAny_take (i := 4) (v := .int .i64 (n : Int)) (ops_get rfl) (by kernel_rfl) (by kernel_rfl) (by kernel_rfl) (fun _ _ _ h => hP _ _ _ _ _ h) (Or.inl ⟨by rfl, ?_⟩) ?_
      · intro w
        go_simp
      · simp only [Act.put, lst1, List.setIfInBounds_toArray, List.set_cons_zero, List.set_cons_succ]
        exact s1100 _ _ _ _ _ _ _ _ w h.know1
    · have HCw := HC w h.below
      unfold hdV at HCw ⊢
      go_simp
      refine HCw.mono ?_
      rintro e w' ⟨y, rfl, hpt, hbl⟩
      refine hK _ _ ?_
      exact s0110 _ _ _ _ _ _ _ _ w' (h.know3 hbl hpt)
    · go_simp
      refine hK _ _ ?_
      exact s0101 _ _ _ _ _ _ _ _ _ (h.know5 _ rfl)
  have s0001 : ∀ (t19 t20 t21 t22 t23 t24 t25 t26 : Value) (w : World), Ph1 w0 n A0 c0 x (ini r) false false false true t19 t20 t21 t22 t23 w → wpAny Tryd.prog .any (((Tryd.f22.body.map Code.opers).getD []).drop 18 |>.take 11).toArray Q 9 (lst1 false false false true) { tmps := #[T0, T1, T2, .pointer (some ⟨P, 0, none⟩), T4, .pointer (some ⟨K, 0, none⟩), T6, T7, T8, T9, T10, T11, T12, T13, T14, T15, T16, T17, .pointer (some ⟨P, 5, none⟩), t19, t20, t21, t22, t23, t24, t25, t26, T27, T28, T29, T30], defers := [] } w := by
    intro t19 t20 t21 t22 t23 t24 t25 t26 w h
    refine wpAny_ready (rs := [1, 2]) (by kernel_rfl) (by simp) (AllReady.cons (ops_get rfl) (fun K' hK => ?_) (AllReady.cons (ops_get rfl) (fun K' hK => ?_) AllReady.nil))
    · have p5 : w.cell? ⟨P, 5, none⟩ = some (.slice A0 n c0) := (h.below.cell (p := ⟨P, 5, none⟩) hPl).trans hPc
      go_simp
      refine hK _ _ ?_
      refine wpAny_take (i := 4) (v := .int .i64 (n : Int)) (ops_get rfl) (by kernel_rfl) (by kernel_rfl) (by kernel_rfl) (fun _ _ _ h => hP _ _ _ _ _ h) (Or.inl ⟨by rfl, ?_⟩) ?_
      · intro w
        go_simp
      · simp only [Act.put, lst1, List.setIfInBounds_toArray, List.set_cons_zero, List.set_cons_succ]
        exact s1001 _ _ _ _ _ _ _ _ w h.know1
    · obtain ⟨x0, x1, x2, x3, x4, x5⟩ := at0 (HX.keep (h.below.block K HX.lt))
      go_simp
      refine hK _ _ ?_
      exact s0101 _ _ _ _ _ _ _ _ w h.know2
  have s0000 : ∀ (t19 t20 t21 t22 t23 t24 t25 t26 : Value) (w : World), Ph1 w0 n A0 c0 x (ini r) false false false false t19 t20 t21 t22 t23 w → wpAny Tryd.prog .any (((Tryd.f22.body.map Code.opers).getD []).drop 18 |>.take 11).toArray Q 10 (lst1 false false false false) { tmps := #[T0, T1, T2, .pointer (some ⟨P, 0, none⟩), T4, .pointer (some ⟨K, 0, none⟩), T6, T7, T8, T9, T10, T11, T12, T13, T14, T15, T16, T17, .pointer (some ⟨P, 5, none⟩), t19, t20, t21, t22, t23, t24, t25, t26, T27, T28, T29, T30], defers := [] } w := by
    intro t19 t20 t21 t22 t23 t24 t25 t26 w h
    refine wpAny_ready (rs := [1, 2, 5]) (by kernel_rfl) (by simp) (AllReady.cons (ops_get rfl) (fun K' hK => ?_) (AllReady.cons (ops_get rfl) (fun K' hK => ?_) (AllReady.cons (ops_get rfl) (fun K' hK => ?_) AllReady.nil)))
    · have p5 : w.cell? ⟨P, 5, none⟩ = some (.slice A0 n c0) := (h.below.cell (p := ⟨P, 5, none⟩) hPl).trans hPc
      go_simp
      refine hK _ _ ?_
      refine wpAny_take (i := 4) (v := .int .i64 (n : Int)) (ops_get rfl) (by kernel_rfl) (by kernel_rfl) (by kernel_rfl) (fun _ _ _ h => hP _ _ _ _ _ h) (Or.inl ⟨by rfl, ?_⟩) ?_
      · intro w
        go_simp
      · simp only [Act.put, lst1, List.setIfInBounds_toArray, List.set_cons_zero, List.set_cons_succ]
        exact s1000 _ _ _ _ _ _ _ _ w h.know1
    · obtain ⟨x0, x1, x2, x3, x4, x5⟩ := at0 (HX.keep (h.below.block K HX.lt))
      go_simp
      refine hK _ _ ?_
      exact s0100 _ _ _ _ _ _ _ _ w h.know2
    · go_simp
      refine hK _ _ ?_
      exact s0001 _ _ _ _ _ _ _ _ _ (h.know5 _ rfl)
  refine wpAny_take (i := 0) (v := .pointer (some ⟨P, 5, none⟩)) (ops_get rfl) (by kernel_rfl) (by kernel_rfl) (by kernel_rfl) (fun _ _ _ h => hP _ _ _ _ _ h) (Or.inl ⟨by rfl, ?_⟩) ?_
  · intro w
    go_simp
  · simp only [Act.put, List.setIfInBounds_toArray, List.set_cons_zero, List.set_cons_succ]
    exact s0000 _ _ _ _ _ _ _ _ w ⟨hw, fun e => by simp at e, fun e => by simp at e, fun e => by simp at e, fun e => by simp at e⟩


theorem at_blk9 {w : World} {g : Nat} {h : Ph} (hk : Blk w g 76 (phL h).toArray) : AtPh w g 0 h := ⟨hk.cell 0, hk.cell 1, hk.cell 2, hk.cell 3, hk.cell 4, hk.cell 5, hk.cell 6, hk.cell 7, hk.cell 8, hk.frozen⟩
theorem end_far {w4 wf : World} {P R : Nat} {u v0 v1 v2 v3 v4 v5 v6 v7 v8 : Value} {j0 : Nat}
    (h : ((((((((((w4.setCell ⟨P, j0, none⟩ u).setCell ⟨R, 0, none⟩ v0).setCell ⟨R, 1, none⟩ v1).setCell ⟨R, 2, none⟩ v2).setCell ⟨R, 3, none⟩ v3).setCell ⟨R, 4, none⟩ v4).setCell ⟨R, 5, none⟩ v5).setCell ⟨R, 6, none⟩ v6).setCell ⟨R, 7, none⟩ v7).setCell ⟨R, 8, none⟩ v8) = wf) :
    (∀ i, i ≠ P → i ≠ R → wf.heap[i]? = w4.heap[i]?) ∧ wf.heap.size = w4.heap.size ∧ ∀ B, B ≤ P → B ≤ R → Below B w4 wf := by
  refine ⟨fun i h1 h2 => ?_, ?_, fun B h1 h2 => ?_⟩
  · rw [← h]
    rw [heap_setCell_other _ _ _ _ h2, heap_setCell_other _ _ _ _ h2, heap_setCell_other _ _ _ _ h2, heap_setCell_other _ _ _ _ h2, heap_setCell_other _ _ _ _ h2, heap_setCell_other _ _ _ _ h2, heap_setCell_other _ _ _ _ h2, heap_setCell_other _ _ _ _ h2, heap_setCell_other _ _ _ _ h2, heap_setCell_other _ _ _ _ h1]
  · rw [← h]; simp [World.setCell]
  · rw [← h]
    exact ((((((((((Below.refl _ _).setCell h1 _).setCell h2 _).setCell h2 _).setCell h2 _).setCell h2 _).setCell h2 _).setCell h2 _).setCell h2 _).setCell h2 _).setCell h2 _
set_option maxHeartbeats 4000000 in
set_option maxRecDepth 100000 in
theorem of1 {a : Re} (HA : MofSpec a) (S : Nat → Prop) (G0 c : Nat) (x : Hd) (w : World) (hc1 : 1 ≤ c) (hcm : c ≤ maxLen) (hx : AtHd w G0 0 x) (hix : IsS w S x a) :
    Calls Tryd.prog 22 #[hdV ⟨4, st0, some ⟨G0, 0, none⟩, 1, c⟩] w (MofPost (.star a) w) := by
  obtain ⟨w1, hw1⟩ : ∃ w1, ((w.alloc (.cells #[.int .i64 4, .int .u64 0, .int .u64 0, .int .u64 0, .int .u64 0, .slice (some ⟨G0, 0, none⟩) 1 c] 32)).alloc (.cells #[.int .i64 0, .int .u64 0, .int .u64 0, .int .u64 0, .int .u64 0, .slice none 0 0, .bool false, .bool false, .bool false] 76)).alloc (.cells #[.int .i64 4, .int .u64 0, .int .u64 0, .int .u64 0, .int .u64 0, .slice none 0 0, .bool false, .bool false, .bool false] 76) = w1 := ⟨_, rfl⟩
  have hb1 : Below w.heap.size w w1 := by rw [← hw1]; exact (((Below.refl _ _).alloc (Nat.le_refl _) _).alloc (by simp) _).alloc (by simp; omega) _
  have hs1 : w1.heap.size = w.heap.size + 3 := by rw [← hw1]; simp
  have hp1 : Blk w1 (w.heap.size + 2) 76 (phL ⟨4, st0, none, 0, 0, false, false, false⟩).toArray := by rw [← hw1]; exact Blk.new_at _ _ _ _ (by simp)
  have hk1 : Blk w1 w.heap.size 32 #[.int .i64 4, .int .u64 0, .int .u64 0, .int .u64 0, .int .u64 0, .slice (some ⟨G0, 0, none⟩) 1 c] := by rw [← hw1]; exact ((Blk.new _ _ _).alloc _).alloc _
  have hr1 : Blk w1 (w.heap.size + 1) 76 (phL ph0).toArray := by rw [← hw1]; exact (Blk.new_at _ _ _ _ (by simp)).alloc _
  obtain ⟨k0, k1, k2, k3, k4, k5, kf⟩ := blk6 hk1
  obtain ⟨x0, x1, x2, x3, x4, x5⟩ := at0 (hx.keep (hb1.block G0 hx.lt))
  have HW1 := keepHid hw1
  have hci : (1 : Int) ≤ (c : Int) := by omega
  rw [hdV_st0]
  obtain ⟨P, hP⟩ : ∃ P, w.heap.size + 1 + 1 = P := ⟨_, rfl⟩
  rw [show w.heap.size + 2 = w.heap.size + 1 + 1 from rfl, hP] at hp1
  obtain ⟨w2, hw2⟩ : ∃ w2, w1.alloc (.cells #[.int .i64 x.k, .int .u64 (x.s.a.toNat : Int), .int .u64 (x.s.b.toNat : Int), .int .u64 (x.s.c.toNat : Int), .int .u64 (x.s.d.toNat : Int), .slice x.A x.n x.c] 32) = w2 := ⟨_, rfl⟩
  have hb12 : Below w1.heap.size w1 w2 := by rw [← hw2]; exact (Below.refl _ _).alloc (Nat.le_refl _) _
  have HW2 := keepHid hw2
  have HX2 : Hid (AtHd w2 w1.heap.size 0 x) := keepHid (by rw [← hw2]; exact blk_at (Blk.new _ _ _))
  have HP2 := keepHid (hp1.below hb12 hp1.lt)
  have HR2 := keepHid (hr1.below hb12 hr1.lt)
  have HI2 : Hid (IsS w2 S x a) := keepHid ((hix.below hb1).below hb12)
  have HB2 := keepHid (hb1.trans (hb12.mono hb1.size))
  have HPP := keepHid hP
  have HS1 := keepHid hs1
  clear hw1 hw2 hb1 hb12 hx hix hp1 hk1 hs1 hr1
  go_enter Tryd.func22, Tryd.ntmps22
  go_upto_region 2 with fail
  rw [HW1.out]
  clear hP
  go_wp2_with fail
  refine wp_loop_rounds 2 ?_
  rw [rounds_succ]
  go_upto_region 5 with fail
  rw [HW2.out]
  generalize w1.heap.size = K at *
  clear x0 x1 x2 x3 x4 x5 k0 k1 k2 k3 k4 k5 kf
  refine wp_region_any (by kernel_rfl) ?_
  refine kid_any (r := a) (P := P) (K := K) (B := P + 1) (n := 0) (kd := 4) (A0 := none) (c0 := 0) (xs := []) (w0 := w2) (x := x) (.inl rfl) (fun _ _ d _ _ h => by cases d <;> exact h)
    (fun G cap y la ha => Mid.start HP2.out (World.ownsRow_nil _ _ _ _) ⟨by omega, HP2.out.lt⟩) (fun w' hb => HA S x w' (HI2.out.below hb)) HX2.out (HP2.out.cell 5) ?_ _ _ _ _ _ _ _ _ _ _ (Below.drew (Below.refl _ _))
  intro t19 t20 t21 t22 t23 t24 t25 t26 w' G cap y la ha M
  have HM := keepHid M
  obtain ⟨ht1, ht2, ht3, ht4⟩ := M.tree rfl
  have hown := M.own
  simp only [if_true, Nat.zero_add] at hown
  have hbk := M.blk
  simp only [if_true, Nat.zero_add] at hbk
  have hR := M.turn.blk HR2.out (by have := HPP.out; simp [Value.ownBlock]; omega)
  have hy : AtPh w' G 0 y := own_part (n := 0) hown
  have hboth := M.both rfl rfl
  have hGP := (hown.lt G rfl).1
  have hGl := (hown.lt G rfl).2
  have hcap : 1 ≤ cap ∧ cap ≤ maxLen := by
    rcases hown.2 with ⟨hv, _⟩ | ⟨g, cap', cur, hv, h1, h2, h3, h4, h5, h6⟩
    · cases hv
    · have e2 : cap = cap' := by injection hv
      subst e2
      exact ⟨h3, h4⟩
  have hpa := at_blk9 hbk
  have HE := keepHid (emp1 hpa rfl rfl rfl rfl hcap.1 hy)
  obtain ⟨p0, p1, p2, p3, p4, p5, p6, p7, p8⟩ := all9_0 hpa
  have hBw : Below w.heap.size w w' := HB2.out.trans ((M.turn.below (B := w.heap.size) (fun i hi => by have := HPP.out; simp [Value.ownBlock] at hi; omega) HB2.out.size))
  have hPw := hbk.lt
  have HF : Hid (∀ w4 : World, Below w'.heap.size w' w4 → MofPost (.star a) w (.returned (phV ⟨4, st0, some ⟨G, 0, none⟩, 1, cap, true, false, false⟩))
      ((((((((((w4.setCell ⟨P, 6, none⟩ (.bool true)).setCell ⟨w.heap.size + 1, 0, none⟩ (.int .i64 4)).setCell ⟨w.heap.size + 1, 1, none⟩ (.int .u64 0)).setCell ⟨w.heap.size + 1, 2, none⟩ (.int .u64 0)).setCell ⟨w.heap.size + 1, 3, none⟩ (.int .u64 0)).setCell ⟨w.heap.size + 1, 4, none⟩ (.int .u64 0)).setCell ⟨w.heap.size + 1, 5, none⟩ (.slice (some ⟨G, 0, none⟩) 1 cap)).setCell ⟨w.heap.size + 1, 6, none⟩ (.bool true)).setCell ⟨w.heap.size + 1, 7, none⟩ (.bool false)).setCell ⟨w.heap.size + 1, 8, none⟩ (.bool false))) := keepHid (by
    intro w4 hb4
    obtain ⟨wf, hwf⟩ : ∃ wf, ((((((((((w4.setCell ⟨P, 6, none⟩ (.bool true)).setCell ⟨w.heap.size + 1, 0, none⟩ (.int .i64 4)).setCell ⟨w.heap.size + 1, 1, none⟩ (.int .u64 0)).setCell ⟨w.heap.size + 1, 2, none⟩ (.int .u64 0)).setCell ⟨w.heap.size + 1, 3, none⟩ (.int .u64 0)).setCell ⟨w.heap.size + 1, 4, none⟩ (.int .u64 0)).setCell ⟨w.heap.size + 1, 5, none⟩ (.slice (some ⟨G, 0, none⟩) 1 cap)).setCell ⟨w.heap.size + 1, 6, none⟩ (.bool true)).setCell ⟨w.heap.size + 1, 7, none⟩ (.bool false)).setCell ⟨w.heap.size + 1, 8, none⟩ (.bool false)) = wf := ⟨_, rfl⟩
    obtain ⟨h1, h2, h3⟩ := end_far hwf
    have hPn : w.heap.size ≤ P := by have := HPP.out; omega
    have hfar : ∀ i, i < w'.heap.size → i ≠ P → i ≠ w.heap.size + 1 → wf.heap[i]? = w'.heap[i]? := fun i q1 q2 q3 => (h1 i q2 q3).trans (hb4.block i q1)
    rw [hwf]
    refine ⟨_, rfl, ⟨G, cap, y, la, ha, by rw [lv_ini, en_ini], hcap.1, hcap.2, by omega, by rw [h2]; exact Nat.lt_of_lt_of_le hGl hb4.size, ?_, ?_, ht3, hboth, ?_, ?_⟩, ?_⟩
    · exact Nat.le_trans HB2.out.size ht2
    · rw [h2]; exact Nat.le_trans ht4 hb4.size
    · exact hy.keep (hfar G hGl (by omega) (by have := HPP.out; omega))
    · exact ht1.keep fun g q1 q2 q3 => hfar g q3 (by have := HP2.out.lt; omega) (by have := HPP.out; have := HP2.out.lt; omega)
    · exact (hBw.trans (hb4.mono hBw.size)).trans (h3 w.heap.size hPn (by omega)))
  have HPW := keepHid (show ∀ w4 : World, Below w'.heap.size w' w4 → Blk w4 P 76 _ ∧ Blk w4 (w.heap.size + 1) 76 _ from fun w4 hb => ⟨hbk.below hb hbk.lt, hR.below hb hR.lt⟩)
  have hPR : ¬ P = w.heap.size + 1 := by have := HPP.out; omega
  have hRP : ¬ w.heap.size + 1 = P := fun e => hPR e.symm
  clear M ht1 ht2 ht3 ht4 hown hR hy hboth hGP hGl hcap hpa hBw hPw hbk
  go_wp2_with fail
  rw [rounds_succ]
  go_wp2_with fail
  with_reducible refine HE.out.mono ?_
  rintro e w4 ⟨rfl, hb4⟩
  have HF4 := keepHid (HF.out w4 hb4)
  obtain ⟨q1, q2⟩ := HPW.out w4 hb4
  obtain ⟨p0', p1', p2', p3', p4', p5', p6', p7', p8'⟩ := all9_0 (at_blk9 q1)
  obtain ⟨r0, r1, r2, r3, r4, r5, r6, r7, r8⟩ := all9_0 (at_blk9 q2)
  have pf := q1.frozen
  have rf := q2.frozen
  clear p0 p1 p2 p3 p4 p5 p6 p7 p8 hb4 q1 q2
  go_wp2
  refine bodyPost_ret (v := phV ⟨4, st0, some ⟨G, 0, none⟩, 1, cap, true, false, false⟩) (by rw [results_cell_one rfl]; go_simp; rfl) rfl ?_
  exact HF4.out


theorem own_first {w : World} {base G n cap : Nat} {zs : List Value} {y : Ph} (h : w.ownsRow base 76 9 (.slice (some ⟨G, 0, none⟩) n cap) n (phL y ++ zs)) : AtPh w G 0 y := by
  have hc : ∀ j u, (phL y)[j]? = some u → w.cell? ⟨G, 0 + j, none⟩ = some u := fun j u hu => by
    have hj : j < (phL y).length := by
      rcases Nat.lt_or_ge j (phL y).length with h | h
      · exact h
      · rw [List.getElem?_eq_none h] at hu; cases hu
    have := h.cells rfl j u (by rw [List.getElem?_append_left hj]; exact hu)
    rw [zero_add_ad] at this
    rwa [Nat.zero_add]
  have hf : ∀ i, w.frozen? ⟨G, i, none⟩ = false := fun i => by
    rcases h.2 with ⟨hv, _⟩ | ⟨g, cap', cur, hv, _, hg, _⟩
    · cases hv
    · have e : G = g := by injection hv with e1; injection e1 with e1; injection e1
      subst e
      simp [World.frozen?, hg]
  exact ⟨hc 0 _ rfl, hc 1 _ rfl, hc 2 _ rfl, hc 3 _ rfl, hc 4 _ rfl, hc 5 _ rfl, hc 6 _ rfl, hc 7 _ rfl, hc 8 _ rfl, hf⟩
def Mof2Post (k : Int) (R : Bool) (a b : Re) (w : World) (e : Ending) (w' : World) : Prop :=
  ∃ G c x y la ha lb hb, e = .returned (phV ⟨k, st0, some ⟨G, 0, none⟩, 2, c, R, false, false⟩) ∧ 2 ≤ c ∧ c ≤ maxLen ∧ w.heap.size ≤ G ∧ G < w'.heap.size ∧ w.heap.size ≤ la ∧ ha ≤ lb ∧ hb ≤ w'.heap.size ∧ la ≤ ha ∧ lb ≤ hb ∧ (G < la ∨ ha ≤ G) ∧ (G < lb ∨ hb ≤ G) ∧
    AtPh w' G 0 x ∧ AtPh w' G 9 y ∧ PtK w' la ha x (ini a) ∧ PtK w' lb hb y (ini b) ∧ Below w.heap.size w w'
set_option maxHeartbeats 4000000 in
set_option maxRecDepth 100000 in
theorem of2 {a b : Re} (HA : MofSpec a) (HB : MofSpec b) (k : Int) (R : Bool) (hkR : (k = 2 ∧ R = (em (ini a) && em (ini b))) ∨ (k = 3 ∧ R = (em (ini a) || em (ini b)))) (S : Nat → Prop) (G0 c : Nat) (x z : Hd) (w : World) (hc1 : 2 ≤ c) (hcm : c ≤ maxLen) (hx : AtHd w G0 0 x) (hx2 : AtHd w G0 6 z) (hix : IsS w S x a) (hix2 : IsS w S z b) :
    Calls Tryd.prog 22 #[hdV ⟨k, st0, some ⟨G0, 0, none⟩, 2, c⟩] w (Mof2Post k R a b w) := by
  obtain ⟨w1, hw1⟩ : ∃ w1, ((w.alloc (.cells #[.int .i64 k, .int .u64 0, .int .u64 0, .int .u64 0, .int .u64 0, .slice (some ⟨G0, 0, none⟩) 2 c] 32)).alloc (.cells #[.int .i64 0, .int .u64 0, .int .u64 0, .int .u64 0, .int .u64 0, .slice none 0 0, .bool false, .bool false, .bool false] 76)).alloc (.cells #[.int .i64 k, .int .u64 0, .int .u64 0, .int .u64 0, .int .u64 0, .slice none 0 0, .bool false, .bool false, .bool false] 76) = w1 := ⟨_, rfl⟩
  have hb1 : Below w.heap.size w w1 := by rw [← hw1]; exact (((Below.refl _ _).alloc (Nat.le_refl _) _).alloc (by simp) _).alloc (by simp; omega) _
  have hs1 : w1.heap.size = w.heap.size + 3 := by rw [← hw1]; simp
  have hp1 : Blk w1 (w.heap.size + 2) 76 (phL ⟨k, st0, none, 0, 0, false, false, false⟩).toArray := by rw [← hw1]; exact Blk.new_at _ _ _ _ (by simp)
  have hk1 : Blk w1 w.heap.size 32 #[.int .i64 k, .int .u64 0, .int .u64 0, .int .u64 0, .int .u64 0, .slice (some ⟨G0, 0, none⟩) 2 c] := by rw [← hw1]; exact ((Blk.new _ _ _).alloc _).alloc _
  have hr1 : Blk w1 (w.heap.size + 1) 76 (phL ph0).toArray := by rw [← hw1]; exact (Blk.new_at _ _ _ _ (by simp)).alloc _
  obtain ⟨k0, k1, k2, k3, k4, k5, kf⟩ := blk6 hk1
  obtain ⟨x0, x1, x2, x3, x4, x5⟩ := at0 (hx.keep (hb1.block G0 hx.lt))
  have HW1 := keepHid hw1
  have hci : (2 : Int) ≤ (c : Int) := by omega
  rw [hdV_st0]
  obtain ⟨P, hP⟩ : ∃ P, w.heap.size + 1 + 1 = P := ⟨_, rfl⟩
  rw [show w.heap.size + 2 = w.heap.size + 1 + 1 from rfl, hP] at hp1
  obtain ⟨w2, hw2⟩ : ∃ w2, w1.alloc (.cells #[.int .i64 x.k, .int .u64 (x.s.a.toNat : Int), .int .u64 (x.s.b.toNat : Int), .int .u64 (x.s.c.toNat : Int), .int .u64 (x.s.d.toNat : Int), .slice x.A x.n x.c] 32) = w2 := ⟨_, rfl⟩
  have hb12 : Below w1.heap.size w1 w2 := by rw [← hw2]; exact (Below.refl _ _).alloc (Nat.le_refl _) _
  have HW2 := keepHid hw2
  have HX2 : Hid (AtHd w2 w1.heap.size 0 x) := keepHid (by rw [← hw2]; exact blk_at (Blk.new _ _ _))
  have HP2 := keepHid (hp1.below hb12 hp1.lt)
  have HR2 := keepHid (hr1.below hb12 hr1.lt)
  have HX2' : Hid (∀ w', Below w.heap.size w w' → AtHd w' G0 6 z ∧ IsS w' S z b) := keepHid (fun w' hb => ⟨hx2.keep (hb.block G0 hx2.lt), hix2.below hb⟩)
  have HI2 : Hid (IsS w2 S x a) := keepHid ((hix.below hb1).below hb12)
  have HB2 := keepHid (hb1.trans (hb12.mono hb1.size))
  have HPP := keepHid hP
  have HS1 := keepHid hs1
  have HB12 := keepHid hb12
  clear hw1 hw2 hb1 hb12 hx hix hx2 hix2 hp1 hk1 hs1 hr1
  go_enter Tryd.func22, Tryd.ntmps22
  go_upto_region 2 with fail
  rw [HW1.out]
  clear hP
  go_wp2_with fail
  refine wp_loop_rounds 3 ?_
  rw [rounds_succ]
  go_upto_region 5 with fail
  rw [HW2.out]
  obtain ⟨K, hK⟩ : ∃ K, w1.heap.size = K := ⟨_, rfl⟩
  have HKK := keepHid hK
  rw [hK] at HX2 HS1 HB12 ⊢
  clear hK
  clear x0 x1 x2 x3 x4 x5 k0 k1 k2 k3 k4 k5 kf
  refine wp_region_any (by kernel_rfl) ?_
  refine kid_any (r := a) (P := P) (K := K) (B := P + 1) (n := 0) (kd := k) (A0 := none) (c0 := 0) (xs := []) (w0 := w2) (x := x) (.inl rfl) (fun _ _ d _ _ h => by cases d <;> exact h)
    (fun G cap y la ha => Mid.start HP2.out (World.ownsRow_nil _ _ _ _) ⟨by omega, HP2.out.lt⟩) (fun w' hb => HA S x w' (HI2.out.below hb)) HX2.out (HP2.out.cell 5) ?_ _ _ _ _ _ _ _ _ _ _ (Below.drew (Below.refl _ _))
  intro t19 t20 t21 t22 t23 t24 t25 t26 w' G cap y la ha M
  obtain ⟨ht1, ht2, ht3, ht4⟩ := M.tree rfl
  have hown := M.own
  simp only [if_true, Nat.zero_add, List.nil_append] at hown
  have hbk := M.blk
  simp only [if_true, Nat.zero_add] at hbk
  have hR := M.turn.blk HR2.out (by have := HPP.out; simp [Value.ownBlock]; omega)
  have hboth := M.both rfl rfl
  have hGP := (hown.lt G rfl).1
  have hGl := (hown.lt G rfl).2
  have hBw : Below w.heap.size w w' := HB2.out.trans ((M.turn.below (B := w.heap.size) (fun i hi => by have := HPP.out; simp [Value.ownBlock] at hi; omega) HB2.out.size))
  have HM := keepHid M
  obtain ⟨z0, z1, z2, z3, z4, z5⟩ := at6 (HX2'.out w' hBw).1
  obtain ⟨w3, hw3⟩ : ∃ w3, w'.alloc (.cells #[.int .i64 z.k, .int .u64 (z.s.a.toNat : Int), .int .u64 (z.s.b.toNat : Int), .int .u64 (z.s.c.toNat : Int), .int .u64 (z.s.d.toNat : Int), .slice z.A z.n z.c] 32) = w3 := ⟨_, rfl⟩
  have hb3 : Below w'.heap.size w' w3 := by rw [← hw3]; exact (Below.refl _ _).alloc (Nat.le_refl _) _
  have HW3 := keepHid hw3
  have HZ3 : Hid (AtHd w3 w'.heap.size 0 z) := keepHid (by rw [← hw3]; exact blk_at (Blk.new _ _ _))
  have HP3 := keepHid (hbk.below hb3 hbk.lt)
  have HR3 := keepHid (hR.below hb3 hR.lt)
  have HB3 := keepHid (hBw.trans (hb3.mono hBw.size))
  have HI3 : Hid (∀ v, Below w3.heap.size w3 v → IsS v S z b) := keepHid (fun v hv => (HX2'.out v (HB3.out.trans (hv.mono HB3.out.size))).2)
  have HT3 := keepHid (ht1.keep (w' := w3) fun g _ _ q => hb3.block g q)
  have HO3 : Hid (w3.ownsRow (P + 1) 76 9 (.slice (some ⟨G, 0, none⟩) 1 cap) 1 (phL y)) := keepHid (own_keep hown fun i _ q => hb3.block i q)
  have HN3 : Hid (w2.heap.size ≤ la ∧ la ≤ ha ∧ ha ≤ w3.heap.size ∧ (G < la ∨ ha ≤ G) ∧ P + 1 ≤ G ∧ G < w3.heap.size ∧ P < w2.heap.size) := keepHid ⟨ht2, ht3, Nat.le_trans ht4 hb3.size, hboth, hGP, Nat.lt_of_lt_of_le hGl hb3.size, HP2.out.lt⟩
  clear M ht1 ht2 ht3 ht4 hown hR hboth hGP hGl hBw hbk hw3 hb3
  go_wp2_with fail
  rw [rounds_succ]
  go_upto_region 5 with fail
  rw [HW3.out]
  obtain ⟨K3, hK3⟩ : ∃ K3, w'.heap.size = K3 := ⟨_, rfl⟩
  rw [hK3] at HZ3 ⊢
  clear z0 z1 z2 z3 z4 z5 hK3
  refine wp_region_any (by kernel_rfl) ?_
  refine kid_any (r := b) (P := P) (K := K3) (B := P + 1) (n := 1) (kd := k) (A0 := some ⟨G, 0, none⟩) (c0 := cap) (xs := phL y) (w0 := w3) (x := z) (.inr rfl) (fun _ _ d _ _ h => by cases d <;> exact h)
    (fun G' cap' y' la' ha' => Mid.start HP3.out HO3.out ⟨by omega, by have := HN3.out; omega⟩) (fun w' hb => HB S z w' (HI3.out w' hb)) HZ3.out (HP3.out.cell 5) ?_ _ _ _ _ _ _ _ _ _ _ (Below.drew (Below.refl _ _))
  intro s19 s20 s21 s22 s23 s24 s25 s26 w5 G2 cap2 y2 lb hb N
  obtain ⟨hu1, hu2, hu3, hu4⟩ := N.tree rfl
  have hown := N.own
  simp only [if_true] at hown
  have hbk := N.blk
  simp only [if_true] at hbk
  have hn := HN3.out
  have hTi : ∀ i, (i = P ∨ (Value.slice (some ⟨G, 0, none⟩) 1 cap).ownBlock = some i) → i = P ∨ i = G := fun i hi => by
    rcases hi with h | h
    · exact .inl h
    · right; simpa [Value.ownBlock] using h.symm
  have hR := N.turn.blk HR3.out (fun hi => by have := HPP.out; rcases hTi _ hi with h | h <;> omega)
  have hx5 := own_first hown
  have hy5 : AtPh w5 G2 9 y2 := own_part (n := 1) hown
  have hu0 : PtK w5 la ha y (ini a) := HT3.out.keep fun g q1 q2 q3 => N.turn.block g q3 (fun hi => by rcases hTi _ hi with h | h <;> omega)
  have hboth := N.both rfl rfl
  have hrow : G2 = G ∨ w3.heap.size ≤ G2 := by
    rcases N.row rfl with h | h
    · left; simpa [Value.ownBlock] using h.symm
    · exact .inr h
  have hGl := (hown.lt G2 rfl).2
  have hGP := (hown.lt G2 rfl).1
  have hcap : 2 ≤ cap2 ∧ cap2 ≤ maxLen := by
    rcases hown.2 with ⟨hv, _⟩ | ⟨g, cap', cur, hv, h1, h2, h3, h4, h5, h6⟩
    · cases hv
    · have e2 : cap2 = cap' := by injection hv
      subst e2
      exact ⟨h3, h4⟩
  have hpa := at_blk9 hbk
  have hm1 := hu0.flags.1
  have hm2 := hu1.flags.1
  have HE := keepHid (emp2 (R := R) hpa rfl rfl rfl (by rw [hm1, hm2]; exact hkR) hcap.1 hx5 hy5)
  obtain ⟨p0, p1, p2, p3, p4, p5, p6, p7, p8⟩ := all9_0 hpa
  have hBw : Below w.heap.size w w5 := HB3.out.trans (N.turn.below (B := w.heap.size) (fun i hi => by have := HPP.out; rcases hTi _ hi with h | h <;> omega) HB3.out.size)
  have HF : Hid (∀ w4 : World, Below w5.heap.size w5 w4 → Mof2Post k R a b w (.returned (phV ⟨k, st0, some ⟨G2, 0, none⟩, 2, cap2, R, false, false⟩))
      ((((((((((w4.setCell ⟨P, 6, none⟩ (.bool R)).setCell ⟨w.heap.size + 1, 0, none⟩ (.int .i64 k)).setCell ⟨w.heap.size + 1, 1, none⟩ (.int .u64 0)).setCell ⟨w.heap.size + 1, 2, none⟩ (.int .u64 0)).setCell ⟨w.heap.size + 1, 3, none⟩ (.int .u64 0)).setCell ⟨w.heap.size + 1, 4, none⟩ (.int .u64 0)).setCell ⟨w.heap.size + 1, 5, none⟩ (.slice (some ⟨G2, 0, none⟩) 2 cap2)).setCell ⟨w.heap.size + 1, 6, none⟩ (.bool R)).setCell ⟨w.heap.size + 1, 7, none⟩ (.bool false)).setCell ⟨w.heap.size + 1, 8, none⟩ (.bool false))) := keepHid (by
    intro w4 hb4
    obtain ⟨wf, hwf⟩ : ∃ wf, ((((((((((w4.setCell ⟨P, 6, none⟩ (.bool R)).setCell ⟨w.heap.size + 1, 0, none⟩ (.int .i64 k)).setCell ⟨w.heap.size + 1, 1, none⟩ (.int .u64 0)).setCell ⟨w.heap.size + 1, 2, none⟩ (.int .u64 0)).setCell ⟨w.heap.size + 1, 3, none⟩ (.int .u64 0)).setCell ⟨w.heap.size + 1, 4, none⟩ (.int .u64 0)).setCell ⟨w.heap.size + 1, 5, none⟩ (.slice (some ⟨G2, 0, none⟩) 2 cap2)).setCell ⟨w.heap.size + 1, 6, none⟩ (.bool R)).setCell ⟨w.heap.size + 1, 7, none⟩ (.bool false)).setCell ⟨w.heap.size + 1, 8, none⟩ (.bool false)) = wf := ⟨_, rfl⟩
    obtain ⟨h1, h2, h3⟩ := end_far hwf
    have hPn := HPP.out
    have hB2s := HB2.out.size
    have hs4 := hb4.size
    have hfar : ∀ i, i < w5.heap.size → i ≠ P → i ≠ w.heap.size + 1 → wf.heap[i]? = w5.heap[i]? := fun i q1 q2 q3 => (h1 i q2 q3).trans (hb4.block i q1)
    rw [hwf]
    refine ⟨G2, cap2, y, y2, la, ha, lb, hb, rfl, hcap.1, hcap.2, by omega, by rw [h2]; omega, by omega, by omega, by rw [h2]; omega, by omega, by omega, by omega, by omega, ?_, ?_, ?_, ?_, ?_⟩
    · exact hx5.keep (hfar G2 hGl (by omega) (by omega))
    · exact hy5.keep (hfar G2 hGl (by omega) (by omega))
    · exact hu0.keep fun g q1 q2 q3 => hfar g q3 (by omega) (by omega)
    · exact hu1.keep fun g q1 q2 q3 => hfar g q3 (by omega) (by omega)
    · exact (hBw.trans (hb4.mono hBw.size)).trans (h3 w.heap.size (by omega) (by omega)))
  have HPW := keepHid (show ∀ w4 : World, Below w5.heap.size w5 w4 → Blk w4 P 76 _ ∧ Blk w4 (w.heap.size + 1) 76 _ from fun w4 hb => ⟨hbk.below hb hbk.lt, hR.below hb hR.lt⟩)
  have hPR : ¬ P = w.heap.size + 1 := by have := HPP.out; omega
  have hRP : ¬ w.heap.size + 1 = P := fun e => hPR e.symm
  clear N hu1 hu2 hu3 hu4 hu0 hown hR hx5 hy5 hboth hrow hGP hGl hcap hpa hBw hbk hn hm1 hm2 hTi
  go_wp2_with fail
  rw [rounds_succ]
  go_wp2_with fail
  with_reducible refine HE.out.mono ?_
  rintro e w4 ⟨rfl, hb4⟩
  have HF4 := keepHid (HF.out w4 hb4)
  obtain ⟨q1, q2⟩ := HPW.out w4 hb4
  obtain ⟨p0', p1', p2', p3', p4', p5', p6', p7', p8'⟩ := all9_0 (at_blk9 q1)
  obtain ⟨r0, r1, r2, r3, r4, r5, r6, r7, r8⟩ := all9_0 (at_blk9 q2)
  have pf := q1.frozen
  have rf := q2.frozen
  clear p0 p1 p2 p3 p4 p5 p6 p7 p8 hb4 q1 q2
  go_wp2
  refine bodyPost_ret (v := phV ⟨k, st0, some ⟨G2, 0, none⟩, 2, cap2, R, false, false⟩) (by rw [results_cell_one rfl]; go_simp; rfl) rfl ?_
  exact HF4.out


set_option maxHeartbeats 4000000 in
theorem of0 (k : Int) (hk : k = 0 ∨ k = 1) (s : St) (w : World) :
    Calls Tryd.prog 22 #[hdV ⟨k, s, none, 0, 0⟩] w fun e w' => e = .returned (phV ⟨k, s, none, 0, 0, k == 0, false, false⟩) ∧ Below w.heap.size w w' := by
  obtain ⟨w1, hw1⟩ : ∃ w1, ((w.alloc (.cells #[.int .i64 k, .int .u64 (s.a.toNat : Int), .int .u64 (s.b.toNat : Int), .int .u64 (s.c.toNat : Int), .int .u64 (s.d.toNat : Int), .slice none 0 0] 32)).alloc (.cells #[.int .i64 0, .int .u64 0, .int .u64 0, .int .u64 0, .int .u64 0, .slice none 0 0, .bool false, .bool false, .bool false] 76)).alloc (.cells (phL ⟨k, s, none, 0, 0, false, false, false⟩).toArray 76) = w1 := ⟨_, rfl⟩
  have hb1 : Below w.heap.size w w1 := by rw [← hw1]; exact (((Below.refl _ _).alloc (Nat.le_refl _) _).alloc (by simp) _).alloc (by simp; omega) _
  obtain ⟨P, hP⟩ : ∃ P, w.heap.size + 1 + 1 = P := ⟨_, rfl⟩
  have hp1 : Blk w1 P 76 (phL ⟨k, s, none, 0, 0, false, false, false⟩).toArray := by rw [← hw1]; exact Blk.new_at _ _ _ _ (by simp; omega)
  have hk1 : Blk w1 w.heap.size 32 #[.int .i64 k, .int .u64 (s.a.toNat : Int), .int .u64 (s.b.toNat : Int), .int .u64 (s.c.toNat : Int), .int .u64 (s.d.toNat : Int), .slice none 0 0] := by rw [← hw1]; exact ((Blk.new _ _ _).alloc _).alloc _
  have hr1 : Blk w1 (w.heap.size + 1) 76 (phL ph0).toArray := by rw [← hw1]; exact (Blk.new_at _ _ _ _ (by simp)).alloc _
  obtain ⟨k0, k1, k2, k3, k4, k5, kf⟩ := blk6 hk1
  have hpa := at_blk9 hp1
  have HE := keepHid (emp0 hpa rfl rfl rfl hk)
  obtain ⟨p0, p1, p2, p3, p4, p5, p6, p7, p8⟩ := all9_0 hpa
  have HW1 := keepHid hw1
  have HB1 := keepHid hb1
  have HPP := keepHid hP
  have HPW : Hid (∀ w4 : World, Below w1.heap.size w1 w4 → Blk w4 P 76 (phL ⟨k, s, none, 0, 0, false, false, false⟩).toArray ∧ Blk w4 (w.heap.size + 1) 76 (phL ph0).toArray) := keepHid (fun w4 hb => ⟨hp1.below hb hp1.lt, hr1.below hb hr1.lt⟩)
  unfold hdV
  unfold phL at HW1
  clear hw1 hb1 hp1 hk1 hr1 hpa hk
  simp only at HE
  generalize (k == 0) = Z at *
  go_enter Tryd.func22, Tryd.ntmps22
  go_upto_region 2 with fail
  rw [HW1.out]
  have hPR : ¬ P = w.heap.size + 1 := by have := HPP.out; omega
  have hRP : ¬ w.heap.size + 1 = P := fun e => hPR e.symm
  clear hP
  go_wp2_with fail
  refine wp_loop_rounds 1 ?_
  rw [rounds_succ]
  go_wp2_with fail
  with_reducible refine HE.out.mono ?_
  rintro e w4 ⟨rfl, hb4⟩
  obtain ⟨q1, q2⟩ := HPW.out w4 hb4
  obtain ⟨p0', p1', p2', p3', p4', p5', p6', p7', p8'⟩ := all9_0 (at_blk9 q1)
  obtain ⟨r0, r1, r2, r3, r4, r5, r6, r7, r8⟩ := all9_0 (at_blk9 q2)
  have pf := q1.frozen
  have rf := q2.frozen
  have HF : Hid (Below w.heap.size w ((((((((((w4.setCell ⟨P, 6, none⟩ (.bool Z)).setCell ⟨w.heap.size + 1, 0, none⟩ (.int .i64 k)).setCell ⟨w.heap.size + 1, 1, none⟩ (.int .u64 (s.a.toNat : Int))).setCell ⟨w.heap.size + 1, 2, none⟩ (.int .u64 (s.b.toNat : Int))).setCell ⟨w.heap.size + 1, 3, none⟩ (.int .u64 (s.c.toNat : Int))).setCell ⟨w.heap.size + 1, 4, none⟩ (.int .u64 (s.d.toNat : Int))).setCell ⟨w.heap.size + 1, 5, none⟩ (.slice none 0 0)).setCell ⟨w.heap.size + 1, 6, none⟩ (.bool Z)).setCell ⟨w.heap.size + 1, 7, none⟩ (.bool false)).setCell ⟨w.heap.size + 1, 8, none⟩ (.bool false))) := keepHid (by
    have h := (end_far (w4 := w4) (P := P) (R := w.heap.size + 1) (u := .bool Z) (v0 := .int .i64 k) (v1 := .int .u64 (s.a.toNat : Int)) (v2 := .int .u64 (s.b.toNat : Int)) (v3 := .int .u64 (s.c.toNat : Int)) (v4 := .int .u64 (s.d.toNat : Int)) (v5 := .slice none 0 0) (v6 := .bool Z) (v7 := .bool false) (v8 := .bool false) (j0 := 6) rfl).2.2
    exact (HB1.out.trans (hb4.mono HB1.out.size)).trans (h w.heap.size (by have := HPP.out; omega) (by omega)))
  clear p0 p1 p2 p3 p4 p5 p6 p7 p8 hb4 q1 q2
  go_wp2
  refine bodyPost_ret (v := phV ⟨k, s, none, 0, 0, Z, false, false⟩) (by rw [results_cell_one rfl]; go_simp; rfl) rfl ?_
  exact ⟨rfl, HF.out⟩
theorem of_all : ∀ r, MofSpec r
  | .nil => fun S h w hi => by
    obtain rfl : h = hd0 := hi
    exact (of0 0 (.inl rfl) st0 w).mono fun e w' ⟨he, hb⟩ => ⟨_, he, rfl, hb⟩
  | .one s => fun S h w hi => by
    obtain rfl : h = ⟨1, s, none, 0, 0⟩ := hi
    exact (of0 1 (.inr rfl) s w).mono fun e w' ⟨he, hb⟩ => ⟨_, he, rfl, hb⟩
  | .star a => fun S h w hi => by
    obtain ⟨G, c, x, rfl, h1, h2, _, hx, hix⟩ := hi
    exact of1 (of_all a) S G c x w h1 h2 hx hix
  | .thn a b => fun S h w hi => by
    obtain ⟨G, c, x, y, rfl, h1, h2, _, hx, hy, hix, hiy⟩ := hi
    exact (of2 (of_all a) (of_all b) 2 _ (.inl ⟨rfl, rfl⟩) S G c x y w h1 h2 hx hy hix hiy).mono fun e w' ⟨G', c', x', y', la, ha, lb, hb, he, q1, q2, q3, q4, q5, q6, q7, q8, q9, q10, q11, q12, q13, q14, q15, q16⟩ =>
      ⟨_, he, ⟨G', c', x', y', la, ha, lb, hb, by simp [lv_ini, en_ini], q1, q2, q3, q4, q5, q6, q7, q8, q9, q10, q11, q12, q13, q14, q15⟩, q16⟩
  | .alt a b => fun S h w hi => by
    obtain ⟨G, c, x, y, rfl, h1, h2, _, hx, hy, hix, hiy⟩ := hi
    exact (of2 (of_all a) (of_all b) 3 _ (.inr ⟨rfl, rfl⟩) S G c x y w h1 h2 hx hy hix hiy).mono fun e w' ⟨G', c', x', y', la, ha, lb, hb, he, q1, q2, q3, q4, q5, q6, q7, q8, q9, q10, q11, q12, q13, q14, q15, q16⟩ =>
      ⟨_, he, ⟨G', c', x', y', la, ha, lb, hb, by simp [lv_ini, en_ini], q1, q2, q3, q4, q5, q6, q7, q8, q9, q10, q11, q12, q13, q14, q15⟩, q16⟩
end Go.Proofs.YtgidoieppplhpaaDoor
