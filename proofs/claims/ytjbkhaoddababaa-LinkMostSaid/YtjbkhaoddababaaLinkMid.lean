/-
  A sender and a receiver talk.
-/
import Derived.Test.YtjbkhaoddababaaLinkSee
import Derived.Test.YtjbkhaoddababaaLinkPass
namespace Go.Proofs.Ytjbkhaoddababaa
open Go.RowKit
set_option linter.unusedVariables false

/-- Where things lie as a talk begins. -/
structure G0 (w0 : World) (Hb B G1 : Nat) (O0 : Nat → Prop) : Prop where
  g1 : G1 < Hb
  hb : Hb ≤ B
  b : B ≤ w0.heap.size
  o : ∀ i, O0 i → B ≤ i ∧ i < w0.heap.size
theorem turn_more {S T : Nat → Prop} {w0 w w' : World} (h : Turn T w0 w) (k : Turn S w w') (hS : ∀ i, S i → T i ∨ w0.heap.size ≤ i) : Turn T w0 w' :=
  ⟨k.os.trans h.os, k.tape.trans h.tape, k.output.trans h.output, Nat.le_trans h.size k.size, fun i hi hn => (k.block i (Nat.lt_of_lt_of_le hi h.size) (fun hs => by
    rcases hS i hs with a | a
    · exact hn a
    · omega)).trans (h.block i hi hn)⟩
/-- Both in the midst of a talk that began in w0; what the result's block holds. -/
structure Mid (p : LP) (w0 : World) (Hb B G1 G2 : Nat) (O0 : Nat → Prop) (s : Sd) (r : Rd) (cs : Array Value) (O : Nat → Prop) (w : World) : Prop where
  g0 : G0 w0 Hb B G1 O0
  sn : SndH w Hb G1 p.bl p.T p.W true s
  rc : Rcv w B G2 O p.crc true p.V r
  res : Blk w (w0.heap.size + 1) 32 cs
  ret : Blk w w0.heap.size 32 (resC (false, 0, 0) (.slice none 0 0) 0 0)
  tu : Turn (fun i => i = G1 ∨ O0 i) w0 w
  sz : w0.heap.size + 2 ≤ w.heap.size
  oo : ∀ i, O i → O0 i ∨ w0.heap.size + 2 ≤ i
section
variable {p : LP} {w0 w w' : World} {Hb B G1 G2 : Nat} {O0 O : Nat → Prop} {s : Sd} {r : Rd} {cs : Array Value}
theorem Mid.low (h : Mid p w0 Hb B G1 G2 O0 s r cs O w) {i : Nat} (hi : O i) : Hb ≤ i ∧ i ≠ w0.heap.size ∧ i ≠ w0.heap.size + 1 ∧ i ≠ G1 := by
  obtain ⟨a, b, c, d⟩ := h.g0
  rcases h.oo i hi with k | k
  · have := d i k; omega
  · omega
/-- Other rows turn. -/
theorem Mid.other {S : Nat → Prop} (h : Mid p w0 Hb B G1 G2 O0 s r cs O w) (ht : Turn S w w') (hS : ∀ i, S i → w0.heap.size + 2 ≤ i ∧ ¬ O i) : Mid p w0 Hb B G1 G2 O0 s r cs O w' :=
  ⟨h.g0, h.sn.turns ht (fun i hi => by have := hS i hi; have := h.g0.hb; have := h.g0.b; omega), h.rc.turns ht (fun i hi hs => (hS i hs).2 hi), ht.blk h.res (fun hs => by have := hS _ hs; omega), ht.blk h.ret (fun hs => by have := hS _ hs; omega),
    turn_more h.tu ht (fun i hi => .inr (by have := hS i hi; omega)), Nat.le_trans h.sz ht.size, h.oo⟩
theorem Mid.below (h : Mid p w0 Hb B G1 G2 O0 s r cs O w) (hb : Below w.heap.size w w') : Mid p w0 Hb B G1 G2 O0 s r cs O w' := h.other (S := fun _ => False) (Turn.of_below hb) (fun _ h => h.elim)
/-- The result's block turns. -/
theorem Mid.see {cs' : Array Value} (h : Mid p w0 Hb B G1 G2 O0 s r cs O w) (ht : Turn (fun i => i = w0.heap.size + 1) w w') (hb : Blk w' (w0.heap.size + 1) 32 cs') : Mid p w0 Hb B G1 G2 O0 s r cs' O w' :=
  ⟨h.g0, h.sn.turns ht (fun i hi => by have := h.g0.hb; have := h.g0.b; omega), h.rc.turns ht (fun i hi hs => (h.low hi).2.2.1 hs), hb, ht.blk h.ret (fun hs => by omega), turn_more h.tu ht (fun i hi => .inr (by omega)), Nat.le_trans h.sz ht.size, h.oo⟩
theorem Mid.put (h : Mid p w0 Hb B G1 G2 O0 s r cs O w) (i : Nat) (v : Value) : Mid p w0 Hb B G1 G2 O0 s r (cs.setIfInBounds i v) O (w.setCell ⟨w0.heap.size + 1, i, none⟩ v) :=
  h.see (turnAt _ _ (Turn.refl _ w)) (h.res.put i v)
/-- The receiver turns. -/
theorem Mid.recv {O' : Nat → Prop} {r' : Rd} (h : Mid p w0 Hb B G1 G2 O0 s r cs O w) (ht : Turn O w w') (hr : Rcv w' B G2 O' p.crc true p.V r') (ho : ∀ i, O' i → O i ∨ w.heap.size ≤ i) : Mid p w0 Hb B G1 G2 O0 s r' cs O' w' :=
  ⟨h.g0, h.sn.turns ht (fun i hi => (h.low hi).1), hr, ht.blk h.res (fun hs => (h.low hs).2.2.1 rfl), ht.blk h.ret (fun hs => (h.low hs).2.1 rfl),
    turn_more h.tu ht (fun i hi => by
      rcases h.oo i hi with k | k
      · exact .inl (.inr k)
      · exact .inr (by omega)), Nat.le_trans h.sz ht.size, fun i hi => by
      rcases ho i hi with k | k
      · exact h.oo i k
      · exact .inr (Nat.le_trans h.sz k)⟩
/-- The sender turns. -/
theorem Mid.send {s' : Sd} (h : Mid p w0 Hb B G1 G2 O0 s r cs O w) (ht : Turn (fun i => i = G1) w w') (hs : SndH w' Hb G1 p.bl p.T p.W true s') : Mid p w0 Hb B G1 G2 O0 s' r cs O w' :=
  have hg : G1 < w0.heap.size := by obtain ⟨a, b, c, d⟩ := h.g0; omega
  ⟨h.g0, hs, h.rc.turns ht (fun i hi hs => (h.low hi).2.2.2 hs), ht.blk h.res (fun hs => by omega), ht.blk h.ret (fun hs => by omega), turn_more h.tu ht (fun i hi => .inl (.inl hi)), Nat.le_trans h.sz ht.size, h.oo⟩
end
/-- Both behind k ticks of a talk that began in w0. -/
structure LAt (p : LP) (ns : List Nz) (w0 : World) (Hb B G1 G2 : Nat) (O0 : Nat → Prop) (M : Nat) (x0 : Lk) (k : Nat) (x : Lk) (o : Bool × Nat × Nat) (O : Nat → Prop) (A : Option Addr) (n c : Nat) (w : World) : Prop where
  mid : Mid p w0 Hb B G1 G2 O0 x.s x.r (resC o (.slice none 0 0) k x.sent) O w
  up : OwnB w (w0.heap.size + 2) 5 (.slice A n c) n x.up
  ap : ∀ ad, A = some ad → ¬ O ad.block
  run : runX p ns M x0 (false, 0, 0) = ((runX p ns (M - k) x o).1, (runX p ns (M - k) x o).2.1 + k, (runX p ns (M - k) x o).2.2)
  rb : Rb (1024 * k) (6000 * k) k x.r
  le : k ≤ M
  two : n ≤ 2
  sent : x.sent ≤ k
/-- What a talk leaves. -/
def RunPost (p : LP) (Hb B G1 G2 : Nat) (O0 : Nat → Prop) (R : Lk × Nat × (Bool × Nat × Nat)) (w : World) (e : Ending) (w' : World) : Prop :=
  ∃ A c O, e = .returned (.agg #[.bool R.2.2.1, errV R.2.2.2.1, errV R.2.2.2.2, .slice A R.1.r.da.length c, .int .i64 (R.2.1 : Int), .int .i64 (R.1.sent : Int)]) ∧ Bys w' w'.heap.size A R.1.r.da.length R.1.r.da ∧ R.1.r.da.length ≤ c ∧ c ≤ 9223372036854775807 ∧ (∀ ad, A = some ad → w.heap.size ≤ ad.block) ∧ SndH w' Hb G1 p.bl p.T p.W true R.1.s ∧ Rcv w' B G2 O p.crc true p.V R.1.r ∧
    (∀ i, O i → O0 i ∨ w.heap.size ≤ i) ∧ Turn (fun i => i = G1 ∨ O0 i) w w'
/-- A row of the call's own apart from what turns. -/
theorem own_keep {S : Nat → Prop} {w w' : World} {base n c : Nat} {A : Option Addr} {d : List UInt8} (h : OwnB w base 5 (.slice A n c) n d) (ht : Turn S w w') (hS : ∀ ad, A = some ad → ¬ S ad.block) : OwnB w' base 5 (.slice A n c) n d :=
  h.keep fun i hi hlt => ht.block i hlt (fun hs => by
    cases A with
    | none => simp [Value.ownBlock] at hi
    | some ad =>
      have e : ad.block = i := by simpa [Value.ownBlock] using hi
      exact hS ad rfl (by rw [e]; exact hs))
theorem own_of {base n c : Nat} {w : World} {A : Option Addr} {d : List UInt8} (h : OwnB w base 5 (.slice A n c) n d) : ∀ ad, A = some ad → base ≤ ad.block ∧ (Value.slice A n c).ownBlock = some ad.block := fun ad e => by
  subst e
  have e : (Value.slice (some ad) n c).ownBlock = some ad.block := by simp [Value.ownBlock]
  exact ⟨own_base h _ e, e⟩
theorem own_lt {base n c : Nat} {w : World} {A : Option Addr} {d : List UInt8} (h : OwnB w base 5 (.slice A n c) n d) : ∀ ad, A = some ad → ad.block < w.heap.size := fun ad e => by
  obtain ⟨A', c', e1, _, _, e2⟩ := h.form
  have e3 : A = A' := by injection e1
  subst e3
  rcases e2 with rfl | ⟨g', rfl, h1, h2⟩
  · cases e
  · obtain rfl := Option.some.inj e
    exact h2
/-- One tick further. -/
theorem LAt.next {p : LP} {ns : List Nz} {w0 w : World} {Hb B G1 G2 : Nat} {O0 : Nat → Prop} {M : Nat} {x0 : Lk} {k : Nat} {x : Lk} {o : Bool × Nat × Nat} {O : Nat → Prop} {A : Option Addr} {n c : Nat} (h : LAt p ns w0 Hb B G1 G2 O0 M x0 k x o O A n c w) (hk : k < M) (hov : overL x = false)
    {a : List UInt8} {s2 : Sd} {j : Nat} (hst : stepL p ns x = ⟨s2, (putR p.crc true p.V (tickR p.crc p.V x.r).2 a).2, (putR p.crc true p.V (tickR p.crc p.V x.r).2 a).1, j⟩) (hj : j ≤ x.sent + 1) (ha : a.length ≤ 6000) {O8 : Nat → Prop} {A8 : Option Addr} {c8 : Nat} {w8 : World}
    (hm : Mid p w0 Hb B G1 G2 O0 s2 (putR p.crc true p.V (tickR p.crc p.V x.r).2 a).2 (resC (false, x.s.err, x.r.er) (.slice none 0 0) (k + 1) j) O8 w8) {w7 : World} (hb : w0.heap.size + 2 ≤ w7.heap.size)
    (ho : OwnB w8 w7.heap.size 5 (.slice A8 (putR p.crc true p.V (tickR p.crc p.V x.r).2 a).1.length c8) (putR p.crc true p.V (tickR p.crc p.V x.r).2 a).1.length (putR p.crc true p.V (tickR p.crc p.V x.r).2 a).1) (hap : ∀ ad, A8 = some ad → ¬ O8 ad.block) :
    LAt p ns w0 Hb B G1 G2 O0 M x0 (k + 1) (stepL p ns x) (false, x.s.err, x.r.er) O8 A8 (putR p.crc true p.V (tickR p.crc p.V x.r).2 a).1.length c8 w8 := by
  have h1 := (h.rb.tick p.crc p.V).put p.crc true p.V a
  obtain ⟨n', hn'⟩ : ∃ n', M - k = n' + 1 := ⟨M - k - 1, by omega⟩
  have hn2 : M - (k + 1) = n' := by omega
  have hrun := h.run
  rw [hn'] at hrun
  refine ⟨?_, ?_, hap, ?_, ?_, hk, rput_out _ _ _ _ _, ?_⟩
  · rw [hst]; exact hm
  · rw [hst]; exact own_lower ho hb
  · rw [hn2, hrun]
    show ((runX p ns (n' + 1) x o).1, (runX p ns (n' + 1) x o).2.1 + k, (runX p ns (n' + 1) x o).2.2) = _
    have e : runX p ns (n' + 1) x o = ((runX p ns n' (stepL p ns x) (false, x.s.err, x.r.er)).1, (runX p ns n' (stepL p ns x) (false, x.s.err, x.r.er)).2.1 + 1, (runX p ns n' (stepL p ns x) (false, x.s.err, x.r.er)).2.2) := by
      show (if overL x = true then _ else _) = _
      rw [if_neg (by rw [hov]; simp)]
    rw [e]
    show (_, (runX p ns n' (stepL p ns x) (false, x.s.err, x.r.er)).2.1 + 1 + k, _) = (_, (runX p ns n' (stepL p ns x) (false, x.s.err, x.r.er)).2.1 + (k + 1), _)
    rw [Nat.add_assoc, Nat.add_comm 1 k]
  · rw [hst]
    obtain ⟨a1, a2, a3⟩ := h1
    exact ⟨Nat.le_trans a1 (by omega), Nat.le_trans a2 (by omega), a3⟩
  · rw [hst]
    have := h.sent
    show j ≤ k + 1
    omega
theorem LAt.stop {p : LP} {ns : List Nz} {w0 w : World} {Hb B G1 G2 : Nat} {O0 : Nat → Prop} {M : Nat} {x0 : Lk} {k : Nat} {x : Lk} {o : Bool × Nat × Nat} {O : Nat → Prop} {A : Option Addr} {n c : Nat} (h : LAt p ns w0 Hb B G1 G2 O0 M x0 k x o O A n c w) (hk : k < M) (hov : overL x = true) :
    runX p ns M x0 (false, 0, 0) = (x, k, (true, x.s.err, x.r.er)) := by
  obtain ⟨n', hn'⟩ : ∃ n', M - k = n' + 1 := ⟨M - k - 1, by omega⟩
  rw [h.run, hn']
  have e : runX p ns (n' + 1) x o = (x, 0, (true, x.s.err, x.r.er)) := by
    show (if overL x = true then _ else _) = _
    rw [if_pos hov]
  rw [e]
  show (x, 0 + k, _) = _
  rw [Nat.zero_add]
theorem LAt.full {p : LP} {ns : List Nz} {w0 w : World} {Hb B G1 G2 : Nat} {O0 : Nat → Prop} {M : Nat} {x0 : Lk} {x : Lk} {o : Bool × Nat × Nat} {O : Nat → Prop} {A : Option Addr} {n c : Nat} (h : LAt p ns w0 Hb B G1 G2 O0 M x0 M x o O A n c w) : runX p ns M x0 (false, 0, 0) = (x, M, o) := by
  rw [h.run, Nat.sub_self]
  show (x, 0 + M, o) = _
  rw [Nat.zero_add]
/-- The end of a talk. -/
theorem Mid.fin {p : LP} {w0 w w' : World} {Hb B G1 G2 : Nat} {O0 O : Nat → Prop} {x : Lk} {o : Bool × Nat × Nat} {k : Nat} {cs : Array Value} (h : Mid p w0 Hb B G1 G2 O0 x.s x.r cs O w) {A : Option Addr} {c : Nat} (ho : OwnB w (w0.heap.size + 2) 5 (.slice A x.r.da.length c) x.r.da.length x.r.da) (h1 : x.r.da.length ≤ c) (h2 : c ≤ 9223372036854775807)
    (ht : Turn (fun i => i = w0.heap.size ∨ i = w0.heap.size + 1) w w') {v1 v2 : Value} (e1 : errV o.2.1 = v1) (e2 : errV o.2.2 = v2) :
    RunPost p Hb B G1 G2 O0 (x, k, o) w0 (.returned (.agg #[.bool o.1, v1, v2, .slice A x.r.da.length c, .int .i64 (k : Int), .int .i64 (x.sent : Int)])) w' := by
  subst e1 e2
  have hl := own_of ho
  refine ⟨A, c, O, rfl, ?_, h1, h2, fun ad e => by have := (hl ad e).1; omega, ?_, ?_, ?_, turn_more h.tu ht (fun i hi => .inr (by omega))⟩
  · exact (own_keep ho ht (fun ad e hs => by have := (hl ad e).1; omega)).bys (by omega)
  · exact h.sn.turns ht (fun i hi => by have := h.g0.hb; have := h.g0.b; omega)
  · exact h.rc.turns ht (fun i hi hs => by have := h.low hi; omega)
  · intro i hi
    rcases h.oo i hi with k | k
    · exact .inl k
    · exact .inr (by omega)
end Go.Proofs.Ytjbkhaoddababaa
