/-
  A dialogue that is executed, as a plain function: what is sent, and where it comes to.
-/
import Derived.Test.YtgndcgknedmalaaGreatDoorDialogFind
import Derived.Test.YtgndcgknedmalaaGreatDoorExpectOf
import Derived.Test.YtgndcgknedmalaaGreatDoorDialogCheck
namespace Go.Proofs.YtgndcgknedmalaaGreatDoor
open Go.RowKit
set_option linter.unusedVariables false

/-- What is needed of a step; labels are places. -/
structure Pst where
  kind : Int
  text : List UInt8
  pats : List (List UInt8)
  arms : List Nat
  n : Int
  dst : Int
def pstO (ss : List Sp) (x : Sp) : Pst :=
  ⟨x.kind, if x.kind = 0 then x.text else [], if x.kind = 1 then x.arms.map Ar.pat else [], if x.kind = 1 then x.arms.map (fun a => (findS ss a.dst).toNat) else [], x.n, findS ss x.dst⟩
def pstsO (ss : List Sp) : List Pst := ss.map (pstO ss)
/-- What a run comes to: the place, how often each Try was reached, what was sent; 0: it waits, 1: well, 2: ill. -/
structure Rs where
  pos : Nat
  cnt : List Nat
  sent : List UInt8
  st : Nat
deriving DecidableEq
def runR (xs : List Pst) : Nat → Nat → List Nat → List UInt8 → Rs
  | 0, p, c, o => ⟨p, c, o, 2⟩
  | f + 1, p, c, o =>
    match xs[p]? with
    | none => ⟨p, c, o, 2⟩
    | some x =>
      if x.kind = 0 then runR xs f (p + 1) c (o ++ x.text)
      else if x.kind = 2 then runR xs f x.dst.toNat c o
      else if x.kind = 3 then
        (if ((c.getD p 0 : Nat) : Int) + 1 ≤ x.n then runR xs f x.dst.toNat (c.set p (c.getD p 0 + 1)) o else runR xs f (p + 1) (c.set p 0) o)
      else if x.kind = 1 then ⟨p, c, o, 0⟩
      else if x.kind = 4 then ⟨p, c, o, 1⟩
      else ⟨p, c, o, 2⟩
section
variable {xs : List Pst} {f p : Nat} {c : List Nat} {o : List UInt8} {x : Pst}
theorem run_end (h : xs[p]? = none) : runR xs f p c o = ⟨p, c, o, 2⟩ := by
  cases f with
  | zero => rfl
  | succ f => simp only [runR, h]
theorem run_send (h : xs[p]? = some x) (hk : x.kind = 0) : runR xs (f + 1) p c o = runR xs f (p + 1) c (o ++ x.text) := by simp only [runR, h, hk, if_true]
theorem run_goto (h : xs[p]? = some x) (hk : x.kind = 2) : runR xs (f + 1) p c o = runR xs f x.dst.toNat c o := by simp [runR, h, hk]
theorem run_again (h : xs[p]? = some x) (hk : x.kind = 3) (hn : ((c.getD p 0 : Nat) : Int) + 1 ≤ x.n) : runR xs (f + 1) p c o = runR xs f x.dst.toNat (c.set p (c.getD p 0 + 1)) o := by
  simp only [runR, h, hk]; rw [if_neg (by decide), if_neg (by decide), if_pos trivial, if_pos hn]
theorem run_left (h : xs[p]? = some x) (hk : x.kind = 3) (hn : ¬ ((c.getD p 0 : Nat) : Int) + 1 ≤ x.n) : runR xs (f + 1) p c o = runR xs f (p + 1) (c.set p 0) o := by
  simp only [runR, h, hk]; rw [if_neg (by decide), if_neg (by decide), if_pos trivial, if_neg hn]
theorem run_wait (h : xs[p]? = some x) (hk : x.kind = 1) : runR xs (f + 1) p c o = ⟨p, c, o, 0⟩ := by simp [runR, h, hk]
theorem run_done (h : xs[p]? = some x) (hk : x.kind = 4) : runR xs (f + 1) p c o = ⟨p, c, o, 1⟩ := by simp [runR, h, hk]
theorem run_fail (h : xs[p]? = some x) (h0 : x.kind ≠ 0) (h1 : x.kind ≠ 1) (h2 : x.kind ≠ 2) (h3 : x.kind ≠ 3) (h4 : x.kind ≠ 4) : runR xs (f + 1) p c o = ⟨p, c, o, 2⟩ := by simp [runR, h, h0, h1, h2, h3, h4]
end
/-- A step that is right, of so many. -/
structure PstOk (m : Nat) (x : Pst) : Prop where
  kind : -9223372036854775808 ≤ x.kind ∧ x.kind ≤ 9223372036854775807
  dst : -1 ≤ x.dst ∧ x.dst < (m : Int)
  goes : x.kind = 1 ∨ x.kind = 2 ∨ x.kind = 3 → 0 ≤ x.dst
  arms : ∀ a ∈ x.arms, a < m
  n : -9223372036854775808 ≤ x.n ∧ x.n ≤ 1000000
  len : x.arms.length = x.pats.length
  pats : x.kind = 1 → 1 ≤ x.pats.length ∧ x.pats.length ≤ 8 ∧ ∃ qs, of9 x.pats = .inl qs
  text : x.text.length ≤ 1048576
/-- Steps that are right. -/
structure PstsOk (xs : List Pst) : Prop where
  few : 1 ≤ xs.length ∧ xs.length ≤ 64
  all : ∀ x ∈ xs, PstOk xs.length x
/-- How often Trys were reached. -/
structure CntOk (xs : List Pst) (c : List Nat) : Prop where
  len : c.length = xs.length
  few : ∀ k, c.getD k 0 ≤ 1000000
theorem CntOk.zero (xs : List Pst) : CntOk xs (List.replicate xs.length 0) := ⟨List.length_replicate, fun k => by
  rw [List.getD_eq_getElem?_getD, List.getElem?_replicate]
  split <;> simp⟩
theorem CntOk.set {xs : List Pst} {c : List Nat} (h : CntOk xs c) (k v : Nat) (hv : v ≤ 1000000) : CntOk xs (c.set k v) := ⟨by rw [List.length_set]; exact h.len, fun j => by
  rw [List.getD_eq_getElem?_getD, List.getElem?_set]
  split
  · split
    · simpa using hv
    · simp
  · rw [← List.getD_eq_getElem?_getD]; exact h.few j⟩
theorem cnt_set {c : List Nat} {k v j : Nat} (hk : k < c.length) : (c.set k v).getD j 0 = if j = k then v else c.getD j 0 := by
  rw [List.getD_eq_getElem?_getD, List.getElem?_set]
  by_cases h : k = j
  · subst h; rw [if_pos rfl, if_pos hk, if_pos rfl]; rfl
  · rw [if_neg h, if_neg (fun e => h e.symm), List.getD_eq_getElem?_getD]
/-- Where a dialogue that is executed is: since it waits, what was heard. -/
structure Pd where
  pos : Nat
  cnt : List Nat
  ticks : Int
  st : Nat
  tr : List Nat
  heard : List UInt8
deriving DecidableEq
def nAt (xs : List Pst) (p : Nat) : Int := match xs[p]? with | some x => x.n | none => 0
def dstAt (xs : List Pst) (p : Nat) : Nat := match xs[p]? with | some x => x.dst.toNat | none => 0
def armAt (xs : List Pst) (p i : Nat) : Nat := match xs[p]? with | some x => x.arms.getD i 0 | none => 0
def goP (xs : List Pst) (p : Pd) (to_ : Nat) : Pd × List UInt8 :=
  (⟨(runR xs 256 to_ p.cnt []).pos, (runR xs 256 to_ p.cnt []).cnt, if (runR xs 256 to_ p.cnt []).st = 0 then max (nAt xs (runR xs 256 to_ p.cnt []).pos) 1 else 0, (runR xs 256 to_ p.cnt []).st, p.tr, []⟩, (runR xs 256 to_ p.cnt []).sent)
def asAt (xs : List Pst) (p : Nat) : List Au := match xs[p]? with | some x => (match of9 x.pats with | .inl rs => rs.map auOf | .inr _ => []) | none => []
def putP (xs : List Pst) (p : Pd) (c : UInt8) : Pd × List UInt8 :=
  if p.st = 0 then
    match armA (asAt xs p.pos) (p.heard ++ [c]) with
    | none => ({ p with heard := p.heard ++ [c] }, [])
    | some i => goP xs { p with tr := p.tr ++ [i] } (armAt xs p.pos i)
  else (p, [])
def tickP (xs : List Pst) (p : Pd) : Pd × List UInt8 :=
  if p.st = 0 then (if 0 < p.ticks - 1 then ({ p with ticks := p.ticks - 1 }, []) else goP xs p (dstAt xs p.pos)) else (p, [])
def pd0 (xs : List Pst) : Pd := ⟨0, List.replicate xs.length 0, 0, 0, [], []⟩
def ofP (xs : List Pst) : Pd × List UInt8 := goP xs (pd0 xs) 0
def illP : Pd := ⟨0, [], 0, 2, [], []⟩
/-! ### what holds of a run -/
theorem run_le {xs : List Pst} (hX : PstsOk xs) (M : Nat) (hM : ∀ x ∈ xs, x.text.length ≤ M) : ∀ (f p : Nat) (c : List Nat) (o : List UInt8), CntOk xs c → p ≤ xs.length → CntOk xs (runR xs f p c o).cnt ∧ (runR xs f p c o).pos ≤ xs.length ∧ ((runR xs f p c o).st = 0 → ∃ x, xs[(runR xs f p c o).pos]? = some x ∧ x.kind = 1) ∧ (runR xs f p c o).sent.length ≤ o.length + f * M ∧ (runR xs f p c o).st ≤ 2
  | 0, p, c, o, hc, hp => ⟨hc, hp, (fun h => by cases h), Nat.le_add_right _ _, by simp [runR]⟩
  | f + 1, p, c, o, hc, hp => by
    cases hx : xs[p]? with
    | none => rw [run_end hx]; exact ⟨hc, hp, (fun h => by cases h), Nat.le_add_right _ _, by simp⟩
    | some x =>
      have hpl : p < xs.length := (List.getElem?_eq_some_iff.1 hx).1
      have ho := hX.all x (List.mem_of_getElem? hx)
      have ht := hM x (List.mem_of_getElem? hx)
      have hm := hX.few
      have e9 : (f + 1) * M = f * M + M := Nat.succ_mul f M
      rw [e9]
      generalize hF9 : f * M = F9 at *
      by_cases h0 : x.kind = 0
      · rw [run_send hx h0]
        obtain ⟨a1, a2, a3, a4, a5⟩ := run_le hX M hM f (p + 1) c (o ++ x.text) hc (by omega)
        rw [hF9] at a4
        refine ⟨a1, a2, a3, ?_, a5⟩
        rw [List.length_append] at a4; omega
      by_cases h2 : x.kind = 2
      · rw [run_goto hx h2]
        have hd := ho.goes (.inr (.inl h2)); have hd2 := ho.dst
        obtain ⟨a1, a2, a3, a4, a5⟩ := run_le hX M hM f x.dst.toNat c o hc (by omega)
        rw [hF9] at a4
        exact ⟨a1, a2, a3, by omega, a5⟩
      by_cases h3 : x.kind = 3
      · have hd := ho.goes (.inr (.inr h3)); have hd2 := ho.dst; have hn := ho.n
        by_cases hle : ((c.getD p 0 : Nat) : Int) + 1 ≤ x.n
        · rw [run_again hx h3 hle]
          obtain ⟨a1, a2, a3, a4, a5⟩ := run_le hX M hM f x.dst.toNat (c.set p (c.getD p 0 + 1)) o (hc.set p _ (by omega)) (by omega)
          rw [hF9] at a4
          exact ⟨a1, a2, a3, by omega, a5⟩
        · rw [run_left hx h3 hle]
          obtain ⟨a1, a2, a3, a4, a5⟩ := run_le hX M hM f (p + 1) (c.set p 0) o (hc.set p _ (by omega)) (by omega)
          rw [hF9] at a4
          exact ⟨a1, a2, a3, by omega, a5⟩
      by_cases h1 : x.kind = 1
      · rw [run_wait hx h1]; exact ⟨hc, hp, fun _ => ⟨x, hx, h1⟩, Nat.le_add_right _ _, by simp⟩
      by_cases h4 : x.kind = 4
      · rw [run_done hx h4]; exact ⟨hc, hp, (fun h => by cases h), Nat.le_add_right _ _, by simp⟩
      · rw [run_fail hx h0 h1 h2 h3 h4]; exact ⟨hc, hp, (fun h => by cases h), Nat.le_add_right _ _, by simp⟩
theorem run_ok {xs : List Pst} (hX : PstsOk xs) (t : Nat) (c : List Nat) (hc : CntOk xs c) (ht : t ≤ xs.length) : CntOk xs (runR xs 256 t c []).cnt ∧ (runR xs 256 t c []).pos ≤ xs.length ∧ ((runR xs 256 t c []).st = 0 → ∃ x, xs[(runR xs 256 t c []).pos]? = some x ∧ x.kind = 1) ∧ (runR xs 256 t c []).sent.length ≤ 268435456 ∧ (runR xs 256 t c []).st ≤ 2 := by
  obtain ⟨a1, a2, a3, a4, a5⟩ := run_le hX 1048576 (fun x hx => (hX.all x hx).text) 256 t c [] hc ht
  exact ⟨a1, a2, a3, Nat.le_trans a4 (by decide), a5⟩
/-- It is right: it waits at an Expect, or it is over. -/
structure PdOk (xs : List Pst) (p : Pd) : Prop where
  cnt : CntOk xs p.cnt
  pos : p.pos ≤ xs.length
  wait : p.st = 0 → ∃ x, xs[p.pos]? = some x ∧ x.kind = 1
  st : p.st ≤ 2
theorem go_ok {xs : List Pst} (hX : PstsOk xs) {p : Pd} {t : Nat} (hc : CntOk xs p.cnt) (ht : t ≤ xs.length) : PdOk xs (goP xs p t).1 ∧ (goP xs p t).2.length ≤ 268435456 := by
  obtain ⟨a1, a2, a3, a4, a5⟩ := run_ok hX t p.cnt hc ht
  exact ⟨⟨a1, a2, a3, a5⟩, a4⟩
theorem arm_lt {xs : List Pst} (hX : PstsOk xs) {p i : Nat} (h : p ≤ xs.length) : armAt xs p i ≤ xs.length := by
  unfold armAt
  split
  · rename_i x hx
    have ho := hX.all x (List.mem_of_getElem? hx)
    rw [List.getD_eq_getElem?_getD]
    cases hi : x.arms[i]? with
    | none => simp
    | some a => simpa using Nat.le_of_lt (ho.arms a (List.mem_of_getElem? hi))
  · omega
theorem dst_lt {xs : List Pst} (hX : PstsOk xs) (p : Nat) : dstAt xs p ≤ xs.length := by
  unfold dstAt
  split
  · rename_i x hx
    have ho := (hX.all x (List.mem_of_getElem? hx)).dst
    omega
  · omega
theorem put_ok {xs : List Pst} (hX : PstsOk xs) {p : Pd} (c : UInt8) (h : PdOk xs p) : PdOk xs (putP xs p c).1 ∧ (putP xs p c).2.length ≤ 268435456 := by
  unfold putP
  split
  · split
    · exact ⟨⟨h.cnt, h.pos, h.wait, h.st⟩, by simp⟩
    · exact go_ok hX h.cnt (arm_lt hX h.pos)
  · exact ⟨h, by simp⟩
theorem tick_ok {xs : List Pst} (hX : PstsOk xs) {p : Pd} (h : PdOk xs p) : PdOk xs (tickP xs p).1 ∧ (tickP xs p).2.length ≤ 268435456 := by
  unfold tickP
  split
  · split
    · exact ⟨⟨h.cnt, h.pos, h.wait, h.st⟩, by simp⟩
    · exact go_ok hX h.cnt (dst_lt hX _)
  · exact ⟨h, by simp⟩
theorem of_ok {xs : List Pst} (hX : PstsOk xs) : PdOk xs (ofP xs).1 ∧ (ofP xs).2.length ≤ 268435456 := go_ok hX (CntOk.zero xs) (Nat.zero_le _)


/-- A step's seven cells. -/
def stpL (x : Pst) (P Q : Value) (r : Nat) : List Value := [.int .i64 x.kind, .string (strB x.text), P, Q, .int .i64 x.n, .int .i64 x.dst, .int .i64 (r : Int)]
def stpV (x : Pst) (P Q : Value) : Value := .agg #[.int .i64 x.kind, .string (strB x.text), P, Q, .int .i64 x.n, .int .i64 x.dst, .int .i64 0]
/-- A step's two rows are the call's own. -/
def OwnPQ (w : World) (base : Nat) (x : Pst) (P Q : Value) : Prop := OwnX w base P x.pats.length x.pats ∧ OwnI w base Q x.arms.length x.arms
theorem OwnPQ.keep {w w' : World} {base : Nat} {x : Pst} {P Q : Value} (h : OwnPQ w base x P Q) (hk : ∀ i, (P.ownBlock = some i ∨ Q.ownBlock = some i) → i < w.heap.size → w'.heap[i]? = w.heap[i]?) : OwnPQ w' base x P Q :=
  ⟨own_keep h.1 fun i hi hl => hk i (.inl hi) hl, own_keep h.2 fun i hi hl => hk i (.inr hi) hl⟩
theorem OwnPQ.below {w w' : World} {base : Nat} {x : Pst} {P Q : Value} (h : OwnPQ w base x P Q) (hb : Below w.heap.size w w') : OwnPQ w' base x P Q := h.keep fun i _ hl => hb.block i hl
theorem OwnPQ.low {w : World} {base base' : Nat} {x : Pst} {P Q : Value} (h : OwnPQ w base x P Q) (hl : base' ≤ base) : OwnPQ w base' x P Q := ⟨own_low h.1 hl, own_low h.2 hl⟩
/-- A row of steps of the call's own. -/
def OwnZs (w : World) (base : Nat) (v : Value) (n : Nat) (zs : List (Pst × Value × Value)) : Prop :=
  w.ownsRow base 60 7 v n (zs.flatMap fun z => stpL z.1 z.2.1 z.2.2 0) ∧ ∀ z ∈ zs, OwnPQ w base z.1 z.2.1 z.2.2
def OwnZ (w : World) (base : Nat) (v : Value) (n : Nat) (xs : List Pst) : Prop := ∃ zs, zs.map Prod.fst = xs ∧ OwnZs w base v n zs
theorem OwnZ.nil (w : World) (base : Nat) : OwnZ w base (.slice none 0 0) 0 [] := ⟨[], rfl, World.ownsRow_nil _ _ _ _, fun z h => by cases h⟩
theorem OwnZ.keep {w w' : World} {base : Nat} {v : Value} {n : Nat} {xs : List Pst} (h : OwnZ w base v n xs) (hk : ∀ i, base ≤ i → i < w.heap.size → w'.heap[i]? = w.heap[i]?) : OwnZ w' base v n xs := by
  obtain ⟨zs, e, h1, h2⟩ := h
  exact ⟨zs, e, own_keep h1 fun i hi hl => hk i (World.ownsRow.lt h1 i hi).1 hl, fun z hz => (h2 z hz).keep fun i hi hl => hk i (by
    rcases hi with hi | hi
    · exact (World.ownsRow.lt (h2 z hz).1 i hi).1
    · exact (World.ownsRow.lt (h2 z hz).2 i hi).1) hl⟩
theorem OwnZ.below {w w' : World} {base : Nat} {v : Value} {n : Nat} {xs : List Pst} (h : OwnZ w base v n xs) (hb : Below w.heap.size w w') : OwnZ w' base v n xs := h.keep fun i _ hl => hb.block i hl
theorem infoPst : (Tryz.prog.info? 60).map (fun i => (i.zero, i.size, i.bytes)) = some (some (.agg #[.int .i64 0, .string ⟨#[]⟩, .slice none 0 0, .slice none 0 0, .int .i64 0, .int .i64 0, .int .i64 0]), 7, 96) := by kernel_rfl
/-- One step more, at a step of a region that draws. -/
theorem step_append_stp {w : World} {ops : Array Oper} {o : Oper} {a : Act} {K : Act → World → Prop} {Q : Exit → Act → World → Prop} {E : Prop} (hgd : o.guard = none) (s x : Operand)
    (ho : o.op = .call { callee := .builtin .append, args := #[s, x], argTypes := #[54, 54] })
    (base : Nat) (v : Value) (n : Nat) (xs : List Pst) (hs : a.eval s = v) (hown : OwnZ w base v n xs) (ad : Addr) (hx : a.eval x = .slice (some ad) 1 1) (z : Pst) (P R : Value) (hz : OwnPQ w base z P R) (hq : ∀ j u, (stpL z P R 0)[j]? = some u → w.cell? (ad.add j) = some u) (hn : (n + 1) * 96 ≤ 140737488355328) (hbase : base ≤ w.heap.size)
    (h : ∀ G cap w', OwnZ w' base (.slice (some ⟨G, 0, none⟩) (n + 1) cap) (n + 1) (xs ++ [z]) → Below base w w' → K (a.put o.dst (.slice (some ⟨G, 0, none⟩) (n + 1) cap)) w') :
    if Region.wanted o (yielded ops a.tmps) = true then Oper.wp Tryz.prog o a w K Q else E := by
  obtain ⟨i, hi⟩ := Option.isSome_iff_exists.1 (show (Tryz.prog.info? 60).isSome = true by kernel_rfl)
  have h0 := infoPst
  rw [hi] at h0
  simp only [Option.map_some, Option.some.injEq, Prod.mk.injEq] at h0
  obtain ⟨hzz, hsz, hby⟩ := h0
  obtain ⟨zs, hzs, h1, h2⟩ := hown
  obtain ⟨P0, pc, ep, _⟩ := own_val hz.1
  obtain ⟨Q0, qc, eq, _⟩ := own_val hz.2
  refine step_append_lies w hgd s x 54 ho base 60 i _ 7 96 Tryz.underlying54 hi hzz hsz hby rfl (by omega) v n _ hs h1 ad 1 1 (stpL z P R 0) hx rfl hq (fun y hy => by
    simp [stpL, ep, eq] at hy
    rcases hy with rfl | rfl | rfl | rfl | rfl | rfl | rfl <;> rfl) (by omega) (by unfold maxLen; omega) hn hbase _ rfl ?_
  intro G cap w' q2 q3 _ _
  have hst : ∀ (u : Pst) (A B : Value), OwnPQ w base u A B → OwnPQ w' base u A B := fun u A B hu => hu.keep fun j hj hlt => q3.block j hlt (fun e => by
    obtain ⟨c2, b2⟩ := own_obj h1 e.symm
    rcases hj with hj | hj
    · obtain ⟨c1, b1⟩ := own_obj hu.1 hj
      have := Option.some.inj (b1.symm.trans b2)
      injection this with e1 e2 e3
      revert e2; decide
    · obtain ⟨c1, b1⟩ := own_obj hu.2 hj
      have := Option.some.inj (b1.symm.trans b2)
      injection this with e1 e2 e3
      revert e2; decide)
  refine h G cap w' ⟨zs ++ [(z, P, R)], by rw [List.map_append, hzs]; rfl, ?_, fun y hy => ?_⟩ (below_grown q3 (fun i hi => (World.ownsRow.lt h1 i hi).1) hbase)
  · have e : (zs ++ [(z, P, R)]).flatMap (fun z => stpL z.1 z.2.1 z.2.2 0) = (zs.flatMap fun z => stpL z.1 z.2.1 z.2.2 0) ++ stpL z P R 0 := by simp
    rw [e]
    exact q2
  · rcases List.mem_append.1 hy with hy | hy
    · exact hst _ _ _ (h2 y hy)
    · obtain rfl : y = (z, P, R) := by simpa using hy
      exact hst _ _ _ hz
/-- One element of one cell more, at a step of a region that draws. -/
theorem step_append_one {sl e : TypeId} {z : Value} {bytes : Nat} (hU : Tryz.prog.underlying sl = some (.slice e)) (hI : (Tryz.prog.info? e).map (fun i => (i.zero, i.size, i.bytes)) = some (some z, 1, bytes)) (hz1 : z.cells.size = 1) (hby : bytes ≤ 100)
    {w : World} {ops : Array Oper} {o : Oper} {a : Act} {K : Act → World → Prop} {Q : Exit → Act → World → Prop} {E : Prop} (hgd : o.guard = none) (s x : Operand)
    (ho : o.op = .call { callee := .builtin .append, args := #[s, x], argTypes := #[sl, sl] })
    (base : Nat) (v : Value) (n : Nat) (vals : List Value) (hs : a.eval s = v) (hown : w.ownsRow base e 1 v n vals) (ad : Addr) (hx : a.eval x = .slice (some ad) 1 1) (u : Value) (hcell : w.cell? ad = some u) (hu : u.oneCell' = true)
    (hn : n < 1000000000) (hbase : base ≤ w.heap.size)
    (h : ∀ G cap w', w'.ownsRow base e 1 (.slice (some ⟨G, 0, none⟩) (n + 1) cap) (n + 1) (vals ++ [u]) → w.grownBy w' v.ownBlock → Below base w w' → K (a.put o.dst (.slice (some ⟨G, 0, none⟩) (n + 1) cap)) w') :
    if Region.wanted o (yielded ops a.tmps) = true then Oper.wp Tryz.prog o a w K Q else E := by
  obtain ⟨i, hi⟩ : ∃ i, Tryz.prog.info? e = some i := by
    cases h : Tryz.prog.info? e with
    | none => rw [h] at hI; cases hI
    | some i => exact ⟨i, rfl⟩
  rw [hi] at hI
  simp only [Option.map_some, Option.some.injEq, Prod.mk.injEq] at hI
  obtain ⟨hz, hsz, hb⟩ := hI
  refine step_append_lies w hgd s x sl ho base e i z 1 bytes hU hi hz hsz hb hz1 (by omega) v n vals hs hown ad 1 1 [u] hx rfl ?_ ?_ (by omega) (by unfold maxLen; omega) ?_ hbase _ rfl ?_
  · intro j y hj
    match j with
    | 0 => simp at hj; subst hj; rw [show ad.add 0 = ad from by unfold Addr.add; split <;> simp_all]; exact hcell
    | j + 1 => simp at hj
  · intro y hy; simp at hy; subst hy; exact hu
  · have := Nat.mul_le_mul (show n + 1 ≤ 1000000000 by omega) hby
    omega
  · intro G cap w' h2 h3 _ _
    exact h G cap w' h2 h3 (below_grown h3 (fun i hi => (World.ownsRow.lt hown i hi).1) hbase)
/-- Steps that are laid: the row in block gs, the rows of each step between lo and hi. -/
def Stps (w : World) (lo hi gs : Nat) (xs : List Pst) (c : List Nat) : Prop :=
  ∃ cs, Blk w gs 60 cs ∧ ∀ k x, xs[k]? = some x → ∃ P pc Q qc, (∀ j z, (stpL x (.slice P x.pats.length pc) (.slice Q x.arms.length qc) (c.getD k 0))[j]? = some z → cs[k * 7 + j]? = some z) ∧
    Sl strV w P x.pats.length x.pats ∧ Sl natV w Q x.arms.length x.arms ∧ (∀ ad, P = some ad → lo ≤ ad.block ∧ ad.block < hi ∧ ad.block ≠ gs) ∧ (∀ ad, Q = some ad → lo ≤ ad.block ∧ ad.block < hi ∧ ad.block ≠ gs)
theorem OwnX.sl2 {w : World} {base n : Nat} {v : Value} {xs : List (List UInt8)} (h : OwnX w base v n xs) : ∃ A c, v = .slice A n c ∧ Sl strV w A n xs ∧ ∀ ad, A = some ad → base ≤ ad.block ∧ ad.block < w.heap.size ∧ ∃ cur, Blk w ad.block 9 cur := by
  obtain ⟨A, c, e, h1, h2⟩ := own_val h
  subst e
  refine ⟨A, c, rfl, h.sl, fun ad e => ?_⟩
  subst e
  rcases h.2 with ⟨hv, _⟩ | ⟨g, cap, cur, hv, hb, hg, _⟩
  · cases hv
  · injection hv with e1
    injection e1 with e1
    subst e1
    exact ⟨hb, (Array.getElem?_eq_some_iff.1 hg).1, cur, hg⟩
theorem OwnI.sl2 {w : World} {base n : Nat} {v : Value} {xs : List Nat} (h : OwnI w base v n xs) : ∃ A c, v = .slice A n c ∧ Sl natV w A n xs ∧ ∀ ad, A = some ad → base ≤ ad.block ∧ ad.block < w.heap.size ∧ ∃ cur, Blk w ad.block 3 cur := by
  obtain ⟨A, c, e, h1, h2⟩ := own_val h
  subst e
  refine ⟨A, c, rfl, Sl.of_own h (Nat.le_trans h1 h2), fun ad e => ?_⟩
  subst e
  rcases h.2 with ⟨hv, _⟩ | ⟨g, cap, cur, hv, hb, hg, _⟩
  · cases hv
  · injection hv with e1
    injection e1 with e1
    subst e1
    exact ⟨hb, (Array.getElem?_eq_some_iff.1 hg).1, cur, hg⟩
theorem blk_type {w : World} {g h : Nat} {t u : TypeId} {a b : Array Value} (h1 : Blk w g t a) (h2 : Blk w h u b) (hne : t ≠ u) : g ≠ h := by
  intro e
  subst e
  have := Option.some.inj (Eq.trans (Eq.symm h1) h2)
  injection this with e1 e2 e3
  exact hne e2
/-- What a call has made is laid. -/
theorem OwnZ.stps {w : World} {base n : Nat} {v : Value} {xs : List Pst} (h : OwnZ w base v n xs) (hn : 0 < n) : ∃ gs cap, v = .slice (some ⟨gs, 0, none⟩) n cap ∧ base ≤ gs ∧ gs < w.heap.size ∧ xs.length = n ∧ n ≤ cap ∧ cap ≤ maxLen ∧ Stps w base w.heap.size gs xs (List.replicate xs.length 0) := by
  obtain ⟨zs, rfl, h1, h2⟩ := h
  have hl : zs.length = n := by
    have := h1.1
    rw [flat_len _ 7 (fun _ => rfl)] at this
    omega
  rcases h1.2 with ⟨_, h0⟩ | ⟨gs, cap, cur, hv, hb, hg, hc1, hc2, hc3, hc4⟩
  · omega
  subst hv
  refine ⟨gs, cap, rfl, hb, (Array.getElem?_eq_some_iff.1 hg).1, by rw [List.length_map]; exact hl, hc1, hc2, cur, hg, fun k x hx => ?_⟩
  rw [List.getElem?_map] at hx
  obtain ⟨z, hz, rfl⟩ := Option.map_eq_some_iff.1 hx
  have hzm := h2 z (List.mem_of_getElem? hz)
  obtain ⟨P, pc, ep, hp1, hp2⟩ := OwnX.sl2 hzm.1
  obtain ⟨Q, qc, eq, hq1, hq2⟩ := OwnI.sl2 hzm.2
  refine ⟨P, pc, Q, qc, fun j y hy => ?_, hp1, hq1, fun ad e => ?_, fun ad e => ?_⟩
  · have hj : j < 7 := (List.getElem?_eq_some_iff.1 hy).1
    have hk : k < zs.length := (List.getElem?_eq_some_iff.1 hz).1
    have h3 := World.ownsRow.cellAt h1 (k * 7 + j) (by omega)
    rw [Blk.cell (show Blk w gs 60 cur from hg), flat_get (fun z : Pst × Value × Value => stpL z.1 z.2.1 z.2.2 0) 7 (fun _ => rfl) zs k z j hz hj] at h3
    rw [h3, ← hy, ep, eq]
    congr 2
    rw [List.getD_eq_getElem?_getD, List.getElem?_replicate]
    split <;> rfl
  · obtain ⟨a1, a2, c, a3⟩ := hp2 ad e
    exact ⟨a1, a2, blk_type a3 (show Blk w gs 60 cur from hg) (by decide)⟩
  · obtain ⟨a1, a2, c, a3⟩ := hq2 ad e
    exact ⟨a1, a2, blk_type a3 (show Blk w gs 60 cur from hg) (by decide)⟩
namespace Stps
variable {w w' : World} {lo hi gs : Nat} {xs : List Pst} {c : List Nat}
theorem turn {S : Nat → Prop} (h : Stps w lo hi gs xs c) (ht : Turn S w w') (hS : ∀ b, S b → b ≠ gs ∧ ¬ (lo ≤ b ∧ b < hi)) : Stps w' lo hi gs xs c := by
  obtain ⟨cs, hb, h⟩ := h
  refine ⟨cs, ht.blk hb (fun e => (hS gs e).1 rfl), fun k x hx => ?_⟩
  obtain ⟨P, pc, Q, qc, h1, h2, h3, h4, h5⟩ := h k x hx
  exact ⟨P, pc, Q, qc, h1, h2.keep2 ht.size (fun ad e hl => ht.block _ hl (fun e2 => (hS _ e2).2 ⟨(h4 ad e).1, (h4 ad e).2.1⟩)), h3.keep2 ht.size (fun ad e hl => ht.block _ hl (fun e2 => (hS _ e2).2 ⟨(h5 ad e).1, (h5 ad e).2.1⟩)), h4, h5⟩
theorem below (h : Stps w lo hi gs xs c) (hb : Below w.heap.size w w') : Stps w' lo hi gs xs c := h.turn (S := fun _ => False) (Turn.of_below hb) (fun _ e => e.elim)
theorem lt (h : Stps w lo hi gs xs c) : gs < w.heap.size := by
  obtain ⟨cs, hb, _⟩ := h
  exact hb.lt
theorem frozen (h : Stps w lo hi gs xs c) (i : Nat) : w.frozen? ⟨gs, i, none⟩ = false := by
  obtain ⟨cs, hb, _⟩ := h
  exact hb.frozen i
/-- A step's cells. -/
theorem at_ (h : Stps w lo hi gs xs c) {k : Nat} {x : Pst} (hx : xs[k]? = some x) : ∃ P pc Q qc, w.cell? ⟨gs, k * 7, none⟩ = some (.int .i64 x.kind) ∧ w.cell? ⟨gs, k * 7 + 1, none⟩ = some (.string (strB x.text)) ∧
    w.cell? ⟨gs, k * 7 + 2, none⟩ = some (.slice P x.pats.length pc) ∧ w.cell? ⟨gs, k * 7 + 3, none⟩ = some (.slice Q x.arms.length qc) ∧ w.cell? ⟨gs, k * 7 + 4, none⟩ = some (.int .i64 x.n) ∧ w.cell? ⟨gs, k * 7 + 5, none⟩ = some (.int .i64 x.dst) ∧ w.cell? ⟨gs, k * 7 + 6, none⟩ = some (.int .i64 ((c.getD k 0 : Nat) : Int)) ∧
    Sl strV w P x.pats.length x.pats ∧ Sl natV w Q x.arms.length x.arms := by
  obtain ⟨cs, hb, h⟩ := h
  obtain ⟨P, pc, Q, qc, h1, h2, h3, h4, h5⟩ := h k x hx
  exact ⟨P, pc, Q, qc, (hb.cell _).trans (h1 0 _ rfl), (hb.cell _).trans (h1 1 _ rfl), (hb.cell _).trans (h1 2 _ rfl), (hb.cell _).trans (h1 3 _ rfl), (hb.cell _).trans (h1 4 _ rfl), (hb.cell _).trans (h1 5 _ rfl), (hb.cell _).trans (h1 6 _ rfl), h2, h3⟩
/-- A Try is reached, or left. -/
theorem put (h : Stps w lo hi gs xs c) {k : Nat} (hk : k < c.length) (v : Nat) : Stps (w.setCell ⟨gs, k * 7 + 6, none⟩ (.int .i64 (v : Int))) lo hi gs xs (c.set k v) := by
  obtain ⟨cs, hb, h⟩ := h
  have ht : Turn (fun b => b = gs) w (w.setCell ⟨gs, k * 7 + 6, none⟩ (.int .i64 (v : Int))) := Turn.setCell (S := fun b => b = gs) (Turn.refl _ w) (.inl rfl) _
  refine ⟨_, hb.put (k * 7 + 6) _, fun j x hx => ?_⟩
  obtain ⟨P, pc, Q, qc, h1, h2, h3, h4, h5⟩ := h j x hx
  refine ⟨P, pc, Q, qc, fun i z hz => ?_, h2.keep2 ht.size (fun ad e hl => ht.block _ hl (fun e2 => (h4 ad e).2.2 e2)), h3.keep2 ht.size (fun ad e hl => ht.block _ hl (fun e2 => (h5 ad e).2.2 e2)), h4, h5⟩
  have hi : i < 7 := (List.getElem?_eq_some_iff.1 hz).1
  rw [cnt_set hk] at hz
  have hsz : j * 7 + i < cs.size := by
    have h7 : i < (stpL x (.slice P x.pats.length pc) (.slice Q x.arms.length qc) (c.getD j 0)).length := hi
    have := h1 i _ (List.getElem?_eq_getElem h7)
    exact (Array.getElem?_eq_some_iff.1 this).1
  by_cases e : k * 7 + 6 = j * 7 + i
  · obtain rfl : j = k := by omega
    obtain rfl : i = 6 := by omega
    rw [if_pos rfl] at hz
    rw [Array.getElem?_setIfInBounds, if_pos rfl, if_pos hsz]
    exact hz
  · rw [Array.getElem?_setIfInBounds, if_neg e]
    refine h1 i z ?_
    by_cases ejk : j = k
    · subst ejk
      rw [if_pos rfl] at hz
      have hi6 : i < 6 := by omega
      rcases (by omega : i = 0 ∨ i = 1 ∨ i = 2 ∨ i = 3 ∨ i = 4 ∨ i = 5) with rfl | rfl | rfl | rfl | rfl | rfl <;> exact hz
    · rw [if_neg ejk] at hz
      exact hz
end Stps
end Go.Proofs.YtgndcgknedmalaaGreatDoor
