/-
  A Demux in memory; contracts of Of, Switch, Mode, Len, Segments.
-/
import Derived.Test.YtadfchdcaenglaaDemuxPlain
import Derived.Test.YtadfchdcaenglaaOwn
import Derived.LoopTactic
import Derived.Deep.DeepCutAuto
import Derived.Deep.RegionWith
import Derived.Deep.RegionLaw
import Derived.Deep.AppendLies
import Derived.Lib.QuietBelow
import Derived.Lib.BufferMore
namespace Go.Proofs.Ytadfchdcaenglaa
open Go.RowKit
set_option linter.unusedVariables false

def sgA (s : Sg) : Array Value := #[.int .i64 (s.m : Int), .int .i64 (s.f : Int), .int .i64 (s.n : Int)]
def sgL (s : Sg) : List Value := [.int .i64 (s.m : Int), .int .i64 (s.f : Int), .int .i64 (s.n : Int)]
theorem sgL_len : ∀ (ss : List Sg), (ss.flatMap sgL).length = ss.length * 3
  | [] => rfl
  | y :: ss => by
    have hl : (sgL y).length = 3 := rfl
    rw [List.flatMap_cons, List.length_append, sgL_len ss, hl, List.length_cons]; omega
theorem sgL_get : ∀ (ss : List Sg) (j : Nat) (s : Sg) (r : Nat), ss[j]? = some s → r < 3 → (ss.flatMap sgL)[j * 3 + r]? = (sgL s)[r]?
  | [], j, z, r, h, _ => by simp at h
  | y :: ss, 0, z, r, h, hr => by
    obtain rfl : y = z := by simpa using h
    rw [List.flatMap_cons, List.getElem?_append_left (by simp [sgL]; omega)]
    simp
  | y :: ss, j + 1, z, r, h, hr => by
    have h' : ss[j]? = some z := by simpa using h
    have hl : (sgL y).length = 3 := rfl
    rw [List.flatMap_cons, List.getElem?_append_right (by rw [hl]; omega), hl, show (j + 1) * 3 + r - 3 = j * 3 + r by omega]
    exact sgL_get ss j z r h' hr
/-- A row of segments of the call's own. -/
def OwnS (w : World) (base : Nat) (v : Value) (n : Nat) (ss : List Sg) : Prop := w.ownsRow base 40 3 v n (ss.flatMap sgL)
namespace OwnS
variable {w w' : World} {base n : Nat} {v : Value} {ss : List Sg}
theorem nil (w : World) (base : Nat) : OwnS w base (.slice none 0 0) 0 [] := World.ownsRow_nil _ _ _ _
theorem len (h : OwnS w base v n ss) : ss.length = n := by
  have := h.1
  rw [sgL_len] at this
  omega
theorem cell {g c : Nat} (h : OwnS w base (.slice (some ⟨g, 0, none⟩) n c) n ss) {j : Nat} {s : Sg} (hs : ss[j]? = some s) {r : Nat} (hr : r < 3) : w.cell? ⟨g, j * 3 + r, none⟩ = (sgL s)[r]? := by
  have hj := (List.getElem?_eq_some_iff.1 hs).1
  have := h.len
  rw [World.ownsRow.cellAt h (j * 3 + r) (by omega), sgL_get ss j s r hs hr]
theorem frozen {g c : Nat} (h : OwnS w base (.slice (some ⟨g, 0, none⟩) n c) n ss) (j : Nat) : w.frozen? ⟨g, j, none⟩ = false := World.ownsRow.frozenAt h j
theorem form (h : OwnS w base v n ss) (hn : 0 < n) : ∃ g c, v = .slice (some ⟨g, 0, none⟩) n c ∧ base ≤ g ∧ g < w.heap.size ∧ n ≤ c := by
  rcases h.2 with ⟨_, h0⟩ | ⟨g, cap, cur, rfl, hb, hg, hnc, hcm, _⟩
  · omega
  · exact ⟨g, cap, rfl, hb, (Array.getElem?_eq_some_iff.1 hg).1, hnc⟩
theorem keep (h : OwnS w base v n ss) (hk : ∀ i, v.ownBlock = some i → i < w.heap.size → w'.heap[i]? = w.heap[i]?) : OwnS w' base v n ss := own_keep h hk
/-- The size of the last one is written. -/
theorem grow {g c : Nat} {s : Sg} (h : OwnS w base (.slice (some ⟨g, 0, none⟩) n c) n (ss ++ [s])) (u : Nat) :
    OwnS (w.setCell ⟨g, ss.length * 3 + 2, none⟩ (.int .i64 (u : Int))) base (.slice (some ⟨g, 0, none⟩) n c) n (ss ++ [⟨s.m, s.f, u⟩]) := by
  have := (World.ownsRow.stored h (ss.length * 3 + 2) (.int .i64 (u : Int))).1
  unfold OwnS
  rw [List.flatMap_append, List.set_append_right _ _ (by rw [sgL_len]; omega), sgL_len, show ss.length * 3 + 2 - ss.length * 3 = 2 by omega] at this
  rw [List.flatMap_append]
  exact this
end OwnS

/-- Below L, and what is no Demux and no segment, all is as it was. -/
structure DT (L : Nat) (w w' : World) : Prop where
  os : w'.os = w.os
  tape : w'.tape = w.tape
  output : w'.output = w.output
  size : w.heap.size ≤ w'.heap.size
  old : ∀ i, i < w.heap.size → i < L → w'.heap[i]? = w.heap[i]?
  oth : ∀ i cs t, Blk w i t cs → t ≠ 49 → t ≠ 40 → Blk w' i t cs
namespace DT
variable {L : Nat} {a b w w' : World}
theorem refl (L : Nat) (w : World) : DT L w w := ⟨rfl, rfl, rfl, Nat.le_refl _, fun _ _ _ => rfl, fun _ _ _ h _ _ => h⟩
theorem trans (h : DT L a b) (k : DT L b w) : DT L a w :=
  ⟨k.os.trans h.os, k.tape.trans h.tape, k.output.trans h.output, Nat.le_trans h.size k.size, fun i hi hl => (k.old i (Nat.lt_of_lt_of_le hi h.size) hl).trans (h.old i hi hl), fun i cs t hb h1 h2 => k.oth i cs t (h.oth i cs t hb h1 h2) h1 h2⟩
theorem of_below (h : Below a.heap.size a w) : DT L a w := ⟨h.os, h.tape, h.output, h.size, fun i hi _ => h.block i hi, fun i cs t hb _ _ => hb.below h hb.lt⟩
theorem below {B : Nat} (h : DT L a w) (hB : B ≤ L) (hs : B ≤ a.heap.size) : Below B a w := ⟨h.os, h.tape, h.output, h.size, fun i hi => h.old i (by omega) (by omega)⟩
/-- A block of a Demux or of segments has turned. -/
theorem of_turn {S : Nat → Prop} (h : Turn S a w) (hS : ∀ i, S i → L ≤ i ∧ ∀ cs t, Blk a i t cs → t = 49 ∨ t = 40) : DT L a w :=
  ⟨h.os, h.tape, h.output, h.size, fun i hi hl => h.block i hi (fun hs => by have := (hS i hs).1; omega), fun i cs t hb h1 h2 => h.blk hb (fun hs => by
    rcases (hS i hs).2 cs t hb with e | e
    · exact h1 e
    · exact h2 e)⟩
theorem setCell {g : Nat} {t : TypeId} {cs : Array Value} (hb : Blk a g t cs) (ht : t = 49 ∨ t = 40) (hL : L ≤ g) (i : Nat) (u : Value) : DT L a (a.setCell ⟨g, i, none⟩ u) :=
  of_turn (S := fun b => b = g) (Turn.setCell (S := fun b => b = g) (Turn.refl _ _) (.inl rfl) _) (fun j hj => by
    subst hj
    exact ⟨hL, fun cs' t' hb' => by unfold Blk at hb hb'; rw [hb] at hb'; injection hb' with hb'; injection hb' with _ e; rw [← e]; exact ht⟩)
end DT
theorem blk_same {w : World} {i : Nat} {t t' : TypeId} {cs cs' : Array Value} (h : Blk w i t cs) (h' : Blk w i t' cs') : t = t' := by
  unfold Blk at h h'
  rw [h] at h'
  injection h' with h'
  injection h' with _ e

/-- A Demux in block g, all of whose memory lies at L or above: whose turn it is, and to whom bytes were given. -/
structure Dmx (w : World) (L g md : Nat) (ts : List Nat) : Prop where
  mem : ∃ A c, Blk w g 49 #[.int .i64 (md : Int), .slice A (segs ts).length c] ∧ OwnS w L (.slice A (segs ts).length c) (segs ts).length (segs ts) ∧ (segs ts = [] → A = none)
  low : L ≤ g
  md2 : md ≤ 2
  all2 : ∀ m ∈ ts, m ≤ 2
namespace Dmx
variable {w w' : World} {L g md : Nat} {ts : List Nat}
theorem lt (h : Dmx w L g md ts) : g < w.heap.size := by obtain ⟨A, c, h1, _⟩ := h.mem; exact h1.lt
theorem keep (h : Dmx w L g md ts) (hk : ∀ i cs t, Blk w i t cs → t = 49 ∨ t = 40 → Blk w' i t cs) : Dmx w' L g md ts := by
  obtain ⟨⟨A, c, h1, h2, h3⟩, a1, a2, a3⟩ := h
  refine ⟨⟨A, c, hk _ _ _ h1 (.inl rfl), h2.keep fun i hi hlt => ?_, h3⟩, a1, a2, a3⟩
  obtain ⟨cur, hb⟩ := own_obj h2 hi
  have := hk _ _ _ hb (.inr rfl)
  unfold Blk at this hb
  rw [this, hb]
theorem below (h : Dmx w L g md ts) (hb : Below w.heap.size w w') : Dmx w' L g md ts := h.keep fun i cs t hk _ => hk.below hb hk.lt
theorem drew (h : Dmx w L g md ts) : Dmx w.drew L g md ts := h.keep fun i cs t hk _ => hk
theorem alloc (h : Dmx w L g md ts) (o : Obj) : Dmx (w.alloc o) L g md ts := h.keep fun i cs t hk _ => hk.alloc o
/-- Something else has turned: a row whose elements are no segments. -/
theorem grown {v : Value} {e : TypeId} {base size n : Nat} {xs : List Value} (h : Dmx w L g md ts) (ho : w.ownsRow base e size v n xs) (he : e ≠ 49 ∧ e ≠ 40) (hg : w.grownBy w' v.ownBlock) : Dmx w' L g md ts :=
  h.keep fun i cs t hk ht => hk.only hg fun e' => by
    obtain ⟨cur, hb⟩ := own_obj ho e'.symm
    have := blk_same hk hb
    rcases ht with rfl | rfl
    · exact he.1 this.symm
    · exact he.2 this.symm
end Dmx

def knD (m : Int) : Nat := if m = 1 then 1 else if m = 2 then 2 else 0
theorem knD_le (m : Int) : knD m ≤ 2 := by unfold knD; split <;> (try split) <;> omega
theorem knD_of {m : Nat} (h : m ≤ 2) : knD (m : Int) = m := by
  unfold knD
  rcases (by omega : m = 0 ∨ m = 1 ∨ m = 2) with rfl | rfl | rfl <;> rfl
theorem known_any (m : Int) (w : World) : Calls Try.prog 18 #[.int .i64 m] w fun e w' => e = .returned (.int .i64 (knD m : Nat)) ∧ w = w' := by
  by_cases h1 : m = 1
  · subst h1
    go_enter Try.func18, Try.ntmps18
    go_wp2
    go_ret
    exact ⟨rfl, rfl⟩
  · by_cases h2 : m = 2
    · subst h2
      go_enter Try.func18, Try.ntmps18
      go_wp2
      go_ret
      exact ⟨rfl, rfl⟩
    · have e1 : (m == 1) = false := by simp; omega
      have e2 : (m == 2) = false := by simp; omega
      have HK : Hid (knD m = 0) := keepHid (by unfold knD; rw [if_neg h1, if_neg h2])
      clear h1 h2
      go_enter Try.func18, Try.ntmps18
      go_wp2
      go_ret
      exact ⟨by rw [HK.out]; rfl, rfl⟩
def OfDPost (L : Nat) (m : Int) (w : World) (e : Ending) (w' : World) : Prop := ∃ g, e = .returned (.pointer (some ⟨g, 0, none⟩)) ∧ Dmx w' L g (knD m) [] ∧ Below w.heap.size w w'
theorem of_any (m : Int) (L : Nat) (w : World) (hL : L ≤ w.heap.size) : Calls Try.prog 11 #[.int .i64 m] w (OfDPost L m w) := by
  obtain ⟨k, hk⟩ : ∃ k, knD m = k := ⟨_, rfl⟩
  have hkn := known_any m w
  have HP : Hid (OfDPost L m w (.returned (.pointer (some ⟨w.heap.size, 0, none⟩))) (w.alloc (.cells #[.int .i64 (k : Int), .slice none 0 0] 49))) := keepHid ⟨w.heap.size, rfl, by
    rw [hk]
    exact ⟨⟨none, 0, Blk.new w _ _, OwnS.nil _ _, fun _ => rfl⟩, hL, by rw [← hk]; exact knD_le m, fun m h => by cases h⟩, (Below.refl _ _).alloc (Nat.le_refl _) _⟩
  rw [hk] at hkn
  clear hk
  go_enter Try.func11, Try.ntmps11
  go_wp2_with fail
  refine hkn.mono ?_
  rintro e w' ⟨rfl, rfl⟩
  go_wp2
  go_ret
  exact HP.out
def SwPost (L g k : Nat) (ts : List Nat) (w : World) (e : Ending) (w' : World) : Prop := e = .returned (.tuple #[]) ∧ Dmx w' L g k ts ∧ DT L w w'
theorem switch_any {w : World} {L g md : Nat} {ts : List Nat} (h : Dmx w L g md ts) (m : Int) : Calls Try.prog 12 #[.pointer (some ⟨g, 0, none⟩), .int .i64 m] w (SwPost L g (knD m) ts w) := by
  obtain ⟨k, hk⟩ : ∃ k, knD m = k := ⟨_, rfl⟩
  have hkn := known_any m w
  obtain ⟨⟨A, c, h1, h2, h3⟩, a1, a2, a3⟩ := h
  have c0 : w.cell? ⟨g, 0, none⟩ = some (.int .i64 (md : Int)) := h1.cell 0
  have hf : w.frozen? ⟨g, 0, none⟩ = false := h1.frozen 0
  have HP : Hid (SwPost L g k ts w (.returned (.tuple #[])) (w.setCell ⟨g, 0, none⟩ (.int .i64 (k : Int)))) := keepHid ⟨rfl, ⟨⟨A, c, h1.put 0 _, h2.keep (fun i hi hlt => by
      obtain ⟨cur, hb⟩ := own_obj h2 hi
      refine Below.heap_setCell w _ _ i fun e => ?_
      subst e
      have := blk_same hb h1
      cases this), h3⟩, a1, by rw [← hk]; exact knD_le m, a3⟩, DT.setCell h1 (.inl rfl) a1 _ _⟩
  rw [hk] at hkn ⊢
  clear hk h1 h2
  go_enter Try.func12, Try.ntmps12
  go_wp2_with fail
  refine hkn.mono ?_
  rintro e w' ⟨rfl, rfl⟩
  go_wp2
  refine bodyPost_end (results_none rfl _ _ _) rfl ?_
  exact HP.out
theorem mode_any {w : World} {L g md : Nat} {ts : List Nat} (h : Dmx w L g md ts) : Calls Try.prog 14 #[.pointer (some ⟨g, 0, none⟩)] w fun e w' => e = .returned (.int .i64 (md : Int)) ∧ w = w' := by
  obtain ⟨⟨A, c, h1, h2, h3⟩, a1, a2, a3⟩ := h
  have c0 : w.cell? ⟨g, 0, none⟩ = some (.int .i64 (md : Int)) := h1.cell 0
  clear h1 h2
  go_enter Try.func14, Try.ntmps14
  go_wp2
  go_ret
  exact ⟨rfl, rfl⟩
/-- The last segment. -/
theorem last_of {ts : List Nat} (h : segs ts ≠ []) : ∃ ss s, segs ts = ss ++ [s] ∧ s.f + s.n = ts.length ∧ SegAt (segs ts) ts ss.length s := by
  obtain ⟨ss, s, e⟩ : ∃ ss s, segs ts = ss ++ [s] := ⟨_, _, (List.dropLast_concat_getLast h).symm⟩
  refine ⟨ss, s, e, ?_, (segOk ts).at_ _ s (by rw [e]; simp)⟩
  have := segs_len ts
  rw [e, lenD_snoc] at this
  exact this
theorem len_any {w : World} {L g md : Nat} {ts : List Nat} (h : Dmx w L g md ts) (hto : ts.length ≤ 1099511627776) : Calls Try.prog 15 #[.pointer (some ⟨g, 0, none⟩)] w fun e w' => e = .returned (.int .i64 (ts.length : Nat)) ∧ Below w.heap.size w w' := by
  obtain ⟨⟨A, c, h1, h2, h3⟩, a1, a2, a3⟩ := h
  have c1 : w.cell? ⟨g, 1, none⟩ = some (.slice A (segs ts).length c) := h1.cell 1
  by_cases h0 : segs ts = []
  · have e0 : ts.length = 0 := by rw [← segs_len, h0]; rfl
    rw [h0] at c1
    rw [e0]
    clear h1 h2
    go_enter Try.func15, Try.ntmps15
    go_wp2
    go_ret
    exact ⟨rfl, Below.refl _ _⟩
  · obtain ⟨ss, s, e, hfn, hat⟩ := last_of h0
    have hl : (segs ts).length = ss.length + 1 := by rw [e]; simp
    rw [hl, e] at h2
    rw [hl] at c1 h1
    obtain ⟨G, c', e2, hG, hlt, hnc⟩ := h2.form (by omega)
    obtain ⟨rfl, rfl⟩ : A = some ⟨G, 0, none⟩ ∧ c = c' := by injection e2 with q1 q2 q3; exact ⟨q1, q3⟩
    have hcnt := (segOk ts).count
    obtain ⟨j, hj⟩ : ∃ j, ss.length = j := ⟨_, rfl⟩
    rw [hj] at c1 h2
    have hs : (ss ++ [s])[j]? = some s := by rw [← hj]; simp
    have s0 : w.cell? ⟨G, j * 3, none⟩ = some (.int .i64 (s.m : Int)) := h2.cell hs (r := 0) (by omega)
    have s1 : w.cell? ⟨G, j * 3 + 1, none⟩ = some (.int .i64 (s.f : Int)) := h2.cell hs (r := 1) (by omega)
    have s2 : w.cell? ⟨G, j * 3 + 2, none⟩ = some (.int .i64 (s.n : Int)) := h2.cell hs (r := 2) (by omega)
    obtain ⟨w1, hw1⟩ : ∃ w1, w.alloc (.cells #[.int .i64 0, .int .i64 0, .int .i64 0] 40) = w1 := ⟨_, rfl⟩
    have hb1 : Below w.heap.size w w1 := by rw [← hw1]; exact (Below.refl _ _).alloc (Nat.le_refl _) _
    have k1 : Blk w1 w.heap.size 40 #[.int .i64 0, .int .i64 0, .int .i64 0] := by rw [← hw1]; exact Blk.new w _ _
    have c1' : w1.cell? ⟨g, 1, none⟩ = some (.slice (some ⟨G, 0, none⟩) (j + 1) c) := (hb1.cell h1.lt).trans c1
    have s0' : w1.cell? ⟨G, j * 3, none⟩ = some (.int .i64 (s.m : Int)) := (hb1.cell hlt).trans s0
    have s1' : w1.cell? ⟨G, j * 3 + 1, none⟩ = some (.int .i64 (s.f : Int)) := (hb1.cell hlt).trans s1
    have s2' : w1.cell? ⟨G, j * 3 + 2, none⟩ = some (.int .i64 (s.n : Int)) := (hb1.cell hlt).trans s2
    have n0 : w1.cell? ⟨w.heap.size, 0, none⟩ = some (.int .i64 0) := k1.cell 0
    have n1 : w1.cell? ⟨w.heap.size, 1, none⟩ = some (.int .i64 0) := k1.cell 1
    have n2 : w1.cell? ⟨w.heap.size, 2, none⟩ = some (.int .i64 0) := k1.cell 2
    have nf := k1.frozen
    obtain ⟨T, hT⟩ : ∃ T, ts.length = T := ⟨_, rfl⟩
    obtain ⟨sm, hsm⟩ : ∃ k, s.m = k := ⟨_, rfl⟩
    obtain ⟨sf, hsf⟩ : ∃ k, s.f = k := ⟨_, rfl⟩
    obtain ⟨sn, hsn⟩ : ∃ k, s.n = k := ⟨_, rfl⟩
    rw [hsm] at s0 s0'
    rw [hsf] at s1 s1' hfn
    rw [hsn] at s2 s2' hfn
    rw [hT] at hfn hto hcnt ⊢
    rw [hl, hj] at hcnt
    have hsum : ((sf : Int) + (sn : Int)) = (T : Int) := by omega
    have hj1 : (((j + 1 : Nat) : Int) == 0) = false := by simp; omega
    have hj2 : ((j + 1 : Nat) : Int) - 1 = (j : Int) := by omega
    have HB : Hid (Below w.heap.size w w1) := keepHid hb1
    clear h1 h2 e hs hb1 k1 hfn hat hl hj hT hsm hsf hsn h0 e2
    go_enter Try.func15, Try.ntmps15
    go_upto_region 3 with fail
    go_region
    go_wp2
    go_ret
    exact ⟨rfl, (((HB.out.setCell (Nat.le_refl _) _).setCell (Nat.le_refl _) _).setCell (Nat.le_refl _) _).drew⟩
theorem infoS : (Try.prog.info? 40).map (fun i => (i.zero, i.size, i.bytes)) = some (some (.agg #[.int .i64 0, .int .i64 0, .int .i64 0]), 3, 24) := by kernel_rfl
theorem sgL_one (ss : List Sg) : ∀ u ∈ ss.flatMap sgL, u.oneCell' = true := by
  intro u hu
  obtain ⟨s, _, h⟩ := List.mem_flatMap.1 hu
  simp [sgL] at h
  rcases h with rfl | rfl | rfl <;> rfl
theorem wpList_append_segs {w : World} {ops : Array Oper} {rest : List Oper} {o : Oper} {a : Act} {Q : Exit → Act → World → Prop} (hgd : o.guard = none) (s x : Operand)
    (ho : o.op = .call { callee := .builtin .append, args := #[s, x], argTypes := #[37, 37] })
    (base : Nat) (v : Value) (n : Nat) (ss : List Sg) (hs : a.eval s = v) (hown : OwnS w base v n ss) (ad : Addr) (m c : Nat) (qs : List Sg) (hx : a.eval x = .slice (some ad) m c) (hm : qs.length = m) (hq : ∀ j u, (qs.flatMap sgL)[j]? = some u → w.cell? (ad.add j) = some u) (h0 : 0 < m) (hn : (n + m) * 24 ≤ 140737488355328) (hbase : base ≤ w.heap.size)
    (h : ∀ G cap w', OwnS w' base (.slice (some ⟨G, 0, none⟩) (n + m) cap) (n + m) (ss ++ qs) → w.grownBy w' v.ownBlock → (v.ownBlock = some G ∨ G = w.heap.size) → wpList Try.prog ops Q rest (a.put o.dst (.slice (some ⟨G, 0, none⟩) (n + m) cap)) w') : wpList Try.prog ops Q (o :: rest) a w := by
  obtain ⟨i, hi, hz, hsz, hby⟩ := info_parts infoS
  refine wpList_append_lies w hgd s x 37 ho base 40 i _ 3 24 Try.underlying37 hi hz hsz hby rfl (by omega) v n _ hs hown ad m c (qs.flatMap sgL) hx (by rw [sgL_len, hm]) hq (sgL_one qs) h0 (by unfold maxLen; omega) hn hbase _ rfl ?_
  intro G cap w' h2 h3 h4 _
  refine h G cap w' ?_ h3 h4
  unfold OwnS
  rw [List.flatMap_append]
  exact h2
theorem step_append_segs {w : World} {ops : Array Oper} {o : Oper} {a : Act} {K : Act → World → Prop} {Q : Exit → Act → World → Prop} {E : Prop} (hgd : o.guard = none) (s x : Operand)
    (ho : o.op = .call { callee := .builtin .append, args := #[s, x], argTypes := #[37, 37] })
    (base : Nat) (v : Value) (n : Nat) (ss : List Sg) (hs : a.eval s = v) (hown : OwnS w base v n ss) (ad : Addr) (m c : Nat) (qs : List Sg) (hx : a.eval x = .slice (some ad) m c) (hm : qs.length = m) (hq : ∀ j u, (qs.flatMap sgL)[j]? = some u → w.cell? (ad.add j) = some u) (h0 : 0 < m) (hn : (n + m) * 24 ≤ 140737488355328) (hbase : base ≤ w.heap.size)
    (h : ∀ G cap w', OwnS w' base (.slice (some ⟨G, 0, none⟩) (n + m) cap) (n + m) (ss ++ qs) → w.grownBy w' v.ownBlock → (v.ownBlock = some G ∨ G = w.heap.size) → K (a.put o.dst (.slice (some ⟨G, 0, none⟩) (n + m) cap)) w') :
    if Region.wanted o (yielded ops a.tmps) = true then Oper.wp Try.prog o a w K Q else E := by
  obtain ⟨i, hi, hz, hsz, hby⟩ := info_parts infoS
  refine step_append_lies w hgd s x 37 ho base 40 i _ 3 24 Try.underlying37 hi hz hsz hby rfl (by omega) v n _ hs hown ad m c (qs.flatMap sgL) hx (by rw [sgL_len, hm]) hq (sgL_one qs) h0 (by unfold maxLen; omega) hn hbase _ rfl ?_
  intro G cap w' h2 h3 h4 _
  refine h G cap w' ?_ h3 h4
  unfold OwnS
  rw [List.flatMap_append]
  exact h2
/-- A slice of segments that a call made. -/
def SegsPost (ts : List Nat) (w : World) (e : Ending) (w' : World) : Prop := ∃ A c, e = .returned (.slice A (segs ts).length c) ∧ OwnS w' w.heap.size (.slice A (segs ts).length c) (segs ts).length (segs ts) ∧ Below w.heap.size w w'
theorem clone_any (A : Option Addr) (c L : Nat) (ts : List Nat) (w : World) (h : OwnS w L (.slice A (segs ts).length c) (segs ts).length (segs ts)) (h0 : segs ts = [] → A = none) (hto : ts.length ≤ 1099511627776) :
    Calls Try.prog 19 #[.slice A (segs ts).length c] w (SegsPost ts w) := by
  have hcnt := (segOk ts).count
  by_cases hs : segs ts = []
  · obtain rfl := h0 hs
    have HP : Hid (SegsPost ts w (.returned (.slice none 0 0)) w) := keepHid ⟨none, 0, by rw [hs]; rfl, by rw [hs]; exact OwnS.nil _ _, Below.refl _ _⟩
    have hq := Lib.run_eql_slice_nil_nil (P := Try.prog) w 0 c Try.underlying37
    rw [hs]
    clear h
    go_enter Try.func19, Try.ntmps19
    go_wp2
    go_ret
    exact HP.out
  · have hn : 0 < (segs ts).length := List.length_pos_iff.2 hs
    obtain ⟨G, c', e2, hG, hlt, hnc⟩ := h.form hn
    obtain ⟨rfl, rfl⟩ : A = some ⟨G, 0, none⟩ ∧ c = c' := by injection e2 with q1 q2 q3; exact ⟨q1, q3⟩
    obtain ⟨w1, hw1⟩ : ∃ w1, w.alloc (.cells #[] 40) = w1 := ⟨_, rfl⟩
    have hb1 : Below w.heap.size w w1 := by rw [← hw1]; exact (Below.refl _ _).alloc (Nat.le_refl _) _
    have H0 : Hid (OwnS w1 w.heap.size (.slice (some ⟨w.heap.size, 0, none⟩) 0 0) 0 []) := keepHid (by rw [← hw1]; exact World.ownsRow_lit (base := w.heap.size) (e := 40) (size := 3) w #[] 0 (Nat.le_refl _) (by unfold maxLen; omega) rfl)
    have HC : Hid (∀ j u, ((segs ts).flatMap sgL)[j]? = some u → w1.cell? ((⟨G, 0, none⟩ : Addr).add j) = some u) := keepHid (fun j u hu => (hb1.cell (by rw [ad_block]; exact hlt)).trans (World.ownsRow.cells h rfl j u hu))
    have HB : Hid (Below w.heap.size w w1) := keepHid hb1
    have hq := Lib.run_eql_slice_some_nil (P := Try.prog) w ⟨G, 0, none⟩ (segs ts).length c Try.underlying37
    have hN : ((segs ts).length : Int) ≤ 1099511627776 := by omega
    obtain ⟨N, hNN⟩ : ∃ N, (segs ts).length = N := ⟨_, rfl⟩
    have HN := keepHid hNN
    have HPP : Hid (∀ G2 cap w2, OwnS w2 w.heap.size (.slice (some ⟨G2, 0, none⟩) N cap) N (segs ts) → w1.grownBy w2 (Value.slice (some ⟨w.heap.size, 0, none⟩) 0 0).ownBlock → SegsPost ts w (.returned (.slice (some ⟨G2, 0, none⟩) N cap)) w2) := keepHid (fun G2 cap w2 q1 q2 => by
      refine ⟨_, cap, by rw [hNN], by rw [hNN]; exact q1, HB.out.trans (below_grown q2 (fun i hi => ?_) HB.out.size)⟩
      rw [← Option.some.inj hi]
      exact Nat.le_refl _)
    rw [hNN] at hn hnc hq hN ⊢
    clear h hb1 hcnt e2 hs h0 hNN
    go_enter Try.func19, Try.ntmps19
    go_wp2_with (at_builtin; refine wpList_append_segs rfl _ _ rfl w.heap.size (.slice (some ⟨w.heap.size, 0, none⟩) 0 0) 0 [] (by rfl) H0.out ⟨G, 0, none⟩ N c (segs ts) (by rfl) HN.out HC.out hn (by omega) HB.out.size ?_)
    intro G2 cap2 w2 q1 q2 q3
    have HP := keepHid (HPP.out G2 cap2 w2 q1 q2)
    clear q1 q2 q3
    go_wp2
    go_ret
    exact HP.out
theorem segments_any {w : World} {L g md : Nat} {ts : List Nat} (h : Dmx w L g md ts) (hto : ts.length ≤ 1099511627776) : Calls Try.prog 16 #[.pointer (some ⟨g, 0, none⟩)] w (SegsPost ts w) := by
  obtain ⟨⟨A, c, h1, h2, h3⟩, a1, a2, a3⟩ := h
  have c1 : w.cell? ⟨g, 1, none⟩ = some (.slice A (segs ts).length c) := h1.cell 1
  have HC := keepHid (clone_any A c L ts w h2 h3 hto)
  clear h1 h2 h3
  go_enter Try.func16, Try.ntmps16
  go_wp2_with fail
  refine HC.out.mono ?_
  rintro e w' hp
  obtain ⟨A', c', rfl, hp2⟩ := hp
  have HP := keepHid hp2
  clear hp2
  go_wp2
  go_ret
  exact ⟨A', c', rfl, HP.out⟩
end Go.Proofs.Ytadfchdcaenglaa
