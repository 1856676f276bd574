/-
  Steps and arms in memory: as values, in slices, in rows of the call's own.
-/
import Derived.Test.YtgndcgknedmalaaGreatDoorDialogPlain
import Derived.Test.YtgndcgknedmalaaGreatDoorOwn
import Derived.Deep.AppendLies
import Derived.WalkKit
import Derived.ProofKit
import Derived.OwnWalk
import Derived.WalkLawsBesides
namespace Go.Proofs.YtgndcgknedmalaaGreatDoor
open Go.RowKit
set_option linter.unusedVariables false

theorem flat_get {α : Type} (f : α → List Value) (c : Nat) (hf : ∀ z, (f z).length = c) : ∀ (zs : List α) (j : Nat) (z : α) (r : Nat), zs[j]? = some z → r < c → (zs.flatMap f)[j * c + r]? = (f z)[r]?
  | [], j, z, r, h, _ => by simp at h
  | y :: zs, 0, z, r, h, hr => by
    obtain rfl : y = z := by simpa using h
    rw [List.flatMap_cons, List.getElem?_append_left (by rw [hf]; omega)]
    simp
  | y :: zs, j + 1, z, r, h, hr => by
    have h' : zs[j]? = some z := by simpa using h
    have hl := hf y
    have e : (j + 1) * c = j * c + c := Nat.succ_mul j c
    rw [List.flatMap_cons, List.getElem?_append_right (by rw [hl]; omega), hl, show (j + 1) * c + r - c = j * c + r by omega]
    exact flat_get f c hf zs j z r h' hr
theorem flat_len {α : Type} (f : α → List Value) (c : Nat) (hf : ∀ z, (f z).length = c) : ∀ (zs : List α), (zs.flatMap f).length = zs.length * c
  | [] => by simp
  | y :: zs => by
    have hl := hf y
    have e : (zs.length + 1) * c = zs.length * c + c := Nat.succ_mul _ c
    rw [List.flatMap_cons, List.length_append, flat_len f c hf zs, hl, List.length_cons]; omega
theorem addr0 (g k : Nat) : (⟨g, 0, none⟩ : Addr).add k = ⟨g, k, none⟩ := by unfold Addr.add; split <;> simp_all

/-! ### arms -/
def arL (a : Ar) : List Value := [.string (strB a.pat), .string (strB a.dst)]
def arV (a : Ar) : Value := .agg #[.string (strB a.pat), .string (strB a.dst)]
/-- The slice value '.slice A n _' holds these arms. -/
def ArS (w : World) (A : Option Addr) (n : Nat) (rs : List Ar) : Prop :=
  rs.length = n ∧ n ≤ 9223372036854775807 ∧ ∀ k a, rs[k]? = some a → ∃ ad, A = some ad ∧ ad.block < w.heap.size ∧ ∀ j z, (arL a)[j]? = some z → w.cell? (ad.add (k * 2 + j)) = some z
theorem ArS.len {w : World} {A : Option Addr} {n : Nat} {rs : List Ar} (h : ArS w A n rs) : rs.length = n := h.1
theorem ArS.below {w w' : World} {B : Nat} {A : Option Addr} {n : Nat} {rs : List Ar} (h : ArS w A n rs) (hb : Below B w w') (hB : w.heap.size ≤ B) : ArS w' A n rs :=
  ⟨h.1, h.2.1, fun k e hk => by
    obtain ⟨ad, e1, hl, hc⟩ := h.2.2 k e hk
    exact ⟨ad, e1, Nat.lt_of_lt_of_le hl hb.size, fun j z hz => (hb.cell (by rw [ad_block]; omega)).trans (hc j z hz)⟩⟩
/-- An arm of a slice: its cells, as the walk spells them. -/
theorem ArS.at_ {w : World} {A : Option Addr} {n k : Nat} {rs : List Ar} {a : Ar} (h : ArS w A n rs) (hk : rs[k]? = some a) : ∃ ad, A = some ad ∧ ad.block < w.heap.size ∧
    w.cell? (ad.add (k * 2)) = some (.string (strB a.pat)) ∧ w.cell? ⟨(ad.add (k * 2)).block, (ad.add (k * 2)).off + 1, none⟩ = some (.string (strB a.dst)) := by
  obtain ⟨ad, e1, hl, hc⟩ := h.2.2 k a hk
  have hs : ∀ j, (⟨(ad.add (k * 2)).block, (ad.add (k * 2)).off + (j + 1), none⟩ : Addr) = ad.add (k * 2 + (j + 1)) := fun j => by rw [← ad_add, Addr.add_succ' (ad.add (k * 2)) j]
  refine ⟨ad, e1, hl, hc 0 _ rfl, ?_⟩
  rw [hs 0]; exact hc 1 _ rfl
/-- A row of arms of the call's own. -/
def OwnA (w : World) (base : Nat) (v : Value) (n : Nat) (zs : List Ar) : Prop := w.ownsRow base 28 2 v n (zs.flatMap arL)
theorem OwnA.nil (w : World) (base : Nat) : OwnA w base (.slice none 0 0) 0 [] := World.ownsRow_nil _ _ _ _
theorem OwnA.len {w : World} {base n : Nat} {v : Value} {zs : List Ar} (h : OwnA w base v n zs) : zs.length = n := by
  have := h.1
  rw [flat_len arL 2 (fun _ => rfl)] at this
  omega
theorem OwnA.keep {w w' : World} {base n : Nat} {v : Value} {zs : List Ar} (h : OwnA w base v n zs) (hk : ∀ i, v.ownBlock = some i → i < w.heap.size → w'.heap[i]? = w.heap[i]?) : OwnA w' base v n zs := own_keep h hk
theorem OwnA.below {w w' : World} {base n : Nat} {v : Value} {zs : List Ar} (h : OwnA w base v n zs) (hb : Below w.heap.size w w') : OwnA w' base v n zs := own_keep h fun i _ hi => hb.block i hi
theorem OwnA.low {w : World} {base base' n : Nat} {v : Value} {zs : List Ar} (h : OwnA w base v n zs) (hl : base' ≤ base) : OwnA w base' v n zs := own_low h hl
theorem OwnA.lt {w : World} {base n : Nat} {v : Value} {zs : List Ar} (h : OwnA w base v n zs) {i : Nat} (hi : v.ownBlock = some i) : base ≤ i ∧ i < w.heap.size := World.ownsRow.lt h i hi
theorem OwnA.turn {S : Nat → Prop} {w w' : World} {base n : Nat} {v : Value} {zs : List Ar} (h : OwnA w base v n zs) (ht : Turn S w w') (hS : ∀ i, S i → i < base) : OwnA w' base v n zs :=
  own_keep h fun i hi hlt => ht.block i hlt (fun hs => by have := hS i hs; have := (h.lt hi).1; omega)
theorem OwnA.form {w : World} {base n : Nat} {v : Value} {zs : List Ar} (h : OwnA w base v n zs) : ∃ A c, v = .slice A n c ∧ n ≤ c ∧ c ≤ 9223372036854775807 := by
  obtain ⟨A, c, e, h1, h2⟩ := own_val h
  exact ⟨A, c, e, h1, by unfold maxLen at h2; exact h2⟩
theorem OwnA.ars {w : World} {base n c : Nat} {A : Option Addr} {zs : List Ar} (h : OwnA w base (.slice A n c) n zs) : ArS w A n zs := by
  obtain ⟨A', c', e0, h1, h2⟩ := h.form
  obtain ⟨rfl, rfl⟩ : A = A' ∧ c = c' := by injection e0 with e1 e2 e3; exact ⟨e1, e3⟩
  refine ⟨h.len, by omega, fun k y hk => ?_⟩
  have hkn : k < n := by have := (List.getElem?_eq_some_iff.1 hk).1; have := h.len; omega
  rcases h.2 with ⟨_, h0⟩ | ⟨g, cap, cur, hv, hb, hgg, _⟩
  · omega
  · obtain rfl : A = some ⟨g, 0, none⟩ := by injection hv
    refine ⟨_, rfl, (h.lt rfl).2, fun j z hz => ?_⟩
    have hj : j < 2 := (List.getElem?_eq_some_iff.1 hz).1
    rw [addr0, World.ownsRow.cellAt h (k * 2 + j) (by omega), flat_get arL 2 (fun _ => rfl) zs k y j hk hj]
    exact hz
theorem OwnA.new (w : World) (base : Nat) (a : Ar) (hb : base ≤ w.heap.size) : OwnA (w.alloc (.cells #[.string (strB a.pat), .string (strB a.dst)] 28)) base (.slice (some ⟨w.heap.size, 0, none⟩) 1 1) 1 [a] :=
  World.ownsRow_lit (base := base) (e := 28) (size := 2) w #[.string (strB a.pat), .string (strB a.dst)] 1 hb (by unfold maxLen; omega) rfl
theorem infoA : (Tryz.prog.info? 28).map (fun i => (i.zero, i.size, i.bytes)) = some (some (.agg #[.string ⟨#[]⟩, .string ⟨#[]⟩]), 2, 32) := by kernel_rfl
theorem wpList_append_ar {w : World} {ops : Array Oper} {rest : List Oper} {o : Oper} {a : Act} {Q : Exit → Act → World → Prop} (hgd : o.guard = none) (s x : Operand)
    (ho : o.op = .call { callee := .builtin .append, args := #[s, x], argTypes := #[24, 24] })
    (base : Nat) (v : Value) (n : Nat) (zs : List Ar) (hs : a.eval s = v) (hown : OwnA w base v n zs) (g : Nat) (hx : a.eval x = .slice (some ⟨g, 0, none⟩) 1 1) (z : Ar) (hk : Blk w g 28 #[.string (strB z.pat), .string (strB z.dst)]) (hn : (n + 1) * 32 ≤ 140737488355328) (hbase : base ≤ w.heap.size)
    (h : ∀ G cap w', OwnA w' base (.slice (some ⟨G, 0, none⟩) (n + 1) cap) (n + 1) (zs ++ [z]) → w.grownBy w' v.ownBlock → Below base w w' → wpList Tryz.prog ops Q rest (a.put o.dst (.slice (some ⟨G, 0, none⟩) (n + 1) cap)) w') : wpList Tryz.prog ops Q (o :: rest) a w := by
  obtain ⟨i, hi⟩ := Option.isSome_iff_exists.1 (show (Tryz.prog.info? 28).isSome = true by kernel_rfl)
  have h0 := infoA
  rw [hi] at h0
  simp only [Option.map_some, Option.some.injEq, Prod.mk.injEq] at h0
  obtain ⟨hz, hsz, hby⟩ := h0
  have hcells : ∀ j y, (arL z)[j]? = some y → w.cell? ((⟨g, 0, none⟩ : Addr).add j) = some y := by
    intro j y hy
    rw [addr0, hk.cell]
    simpa [arL] using hy
  have h1 : ∀ y ∈ arL z, y.oneCell' = true := by
    intro y hy
    simp [arL] at hy
    rcases hy with rfl | rfl <;> rfl
  refine wpList_append_lies w hgd s x 24 ho base 28 i _ 2 32 Tryz.underlying24 hi hz hsz hby rfl (by omega) v n _ hs hown ⟨g, 0, none⟩ 1 1 (arL z) hx rfl hcells h1 (by omega) (by unfold maxLen; omega) hn hbase _ rfl ?_
  intro G cap w' h2 h3 _ _
  refine h G cap w' ?_ h3 ?_
  · have e : (zs ++ [z]).flatMap arL = zs.flatMap arL ++ arL z := by simp
    unfold OwnA
    rw [e]
    exact h2
  · exact below_grown h3 (fun i hi => (hown.lt hi).1) hbase

/-! ### steps -/
def stL (x : Sp) (a : Value) : List Value := [.string (strB x.label), .int .i64 x.kind, .string (strB x.text), a, .int .i64 x.n, .string (strB x.dst), .int .i64 x.pos]
def stA (x : Sp) (a : Value) : Array Value := #[.string (strB x.label), .int .i64 x.kind, .string (strB x.text), a, .int .i64 x.n, .string (strB x.dst), .int .i64 x.pos]
/-- The slice value '.slice A n _' holds these steps. -/
def StS (w : World) (A : Option Addr) (n : Nat) (ss : List Sp) : Prop :=
  ss.length = n ∧ n ≤ 9223372036854775807 ∧ ∀ k x, ss[k]? = some x → ∃ ad P m c, A = some ad ∧ ad.block < w.heap.size ∧ (∀ j z, (stL x (.slice P m c))[j]? = some z → w.cell? (ad.add (k * 7 + j)) = some z) ∧ ArS w P m x.arms ∧ m ≤ c
theorem StS.len {w : World} {A : Option Addr} {n : Nat} {ss : List Sp} (h : StS w A n ss) : ss.length = n := h.1
theorem StS.below {w w' : World} {B : Nat} {A : Option Addr} {n : Nat} {ss : List Sp} (h : StS w A n ss) (hb : Below B w w') (hB : w.heap.size ≤ B) : StS w' A n ss :=
  ⟨h.1, h.2.1, fun k e hk => by
    obtain ⟨ad, P, m, c, e1, hl, hc, ha, hm⟩ := h.2.2 k e hk
    exact ⟨ad, P, m, c, e1, Nat.lt_of_lt_of_le hl hb.size, fun j z hz => (hb.cell (by rw [ad_block]; omega)).trans (hc j z hz), ha.below hb hB, hm⟩⟩
theorem StS.take {w : World} {A : Option Addr} {n : Nat} {ss : List Sp} (h : StS w A n ss) {m : Nat} (hm : m ≤ n) : StS w A m (ss.take m) := by
  refine ⟨by rw [List.length_take, h.1]; omega, by have := h.2.1; omega, fun k e hk => ?_⟩
  rw [List.getElem?_take] at hk
  split at hk
  · exact h.2.2 k e hk
  · cases hk
/-- A step of a slice: its cells, as the walk spells them. -/
theorem StS.at_ {w : World} {A : Option Addr} {n k : Nat} {ss : List Sp} {x : Sp} (h : StS w A n ss) (hk : ss[k]? = some x) : ∃ ad P m c, A = some ad ∧ ad.block < w.heap.size ∧
    w.cell? (ad.add (k * 7)) = some (.string (strB x.label)) ∧ w.cell? ⟨(ad.add (k * 7)).block, (ad.add (k * 7)).off + 1, none⟩ = some (.int .i64 x.kind) ∧ w.cell? ⟨(ad.add (k * 7)).block, (ad.add (k * 7)).off + 2, none⟩ = some (.string (strB x.text)) ∧
    w.cell? ⟨(ad.add (k * 7)).block, (ad.add (k * 7)).off + 3, none⟩ = some (.slice P m c) ∧ w.cell? ⟨(ad.add (k * 7)).block, (ad.add (k * 7)).off + 4, none⟩ = some (.int .i64 x.n) ∧ w.cell? ⟨(ad.add (k * 7)).block, (ad.add (k * 7)).off + 5, none⟩ = some (.string (strB x.dst)) ∧
    w.cell? ⟨(ad.add (k * 7)).block, (ad.add (k * 7)).off + 6, none⟩ = some (.int .i64 x.pos) ∧ ArS w P m x.arms ∧ m ≤ c := by
  obtain ⟨ad, P, m, c, e1, hl, hc, ha, hm⟩ := h.2.2 k x hk
  have hs : ∀ j, (⟨(ad.add (k * 7)).block, (ad.add (k * 7)).off + (j + 1), none⟩ : Addr) = ad.add (k * 7 + (j + 1)) := fun j => by rw [← ad_add, Addr.add_succ' (ad.add (k * 7)) j]
  refine ⟨ad, P, m, c, e1, hl, hc 0 _ rfl, ?_, ?_, ?_, ?_, ?_, ?_, ha, hm⟩
  · rw [hs 0]; exact hc 1 _ rfl
  · rw [hs 1]; exact hc 2 _ rfl
  · rw [hs 2]; exact hc 3 _ rfl
  · rw [hs 3]; exact hc 4 _ rfl
  · rw [hs 4]; exact hc 5 _ rfl
  · rw [hs 5]; exact hc 6 _ rfl
/-- A row of steps of the call's own, and their arms. -/
def OwnP (w : World) (base : Nat) (v : Value) (n : Nat) (zs : List (Sp × Value)) : Prop :=
  w.ownsRow base 26 7 v n (zs.flatMap fun z => stL z.1 z.2) ∧ ∀ z ∈ zs, ∃ m, OwnA w base z.2 m z.1.arms
def OwnSt (w : World) (base : Nat) (v : Value) (n : Nat) (ss : List Sp) : Prop := ∃ zs, zs.map Prod.fst = ss ∧ OwnP w base v n zs
theorem OwnSt.nil (w : World) (base : Nat) : OwnSt w base (.slice none 0 0) 0 [] := ⟨[], rfl, World.ownsRow_nil _ _ _ _, fun z h => by cases h⟩
theorem OwnSt.len {w : World} {base n : Nat} {v : Value} {ss : List Sp} (h : OwnSt w base v n ss) : ss.length = n := by
  obtain ⟨zs, rfl, h, _⟩ := h
  have := h.1
  rw [flat_len _ 7 (fun _ => rfl)] at this
  rw [List.length_map]
  omega
theorem OwnSt.below {w w' : World} {base n : Nat} {v : Value} {ss : List Sp} (h : OwnSt w base v n ss) (hb : Below w.heap.size w w') : OwnSt w' base v n ss := by
  obtain ⟨zs, e, h1, h2⟩ := h
  exact ⟨zs, e, own_keep h1 fun i _ hi => hb.block i hi, fun z hz => by obtain ⟨m, h⟩ := h2 z hz; exact ⟨m, h.below hb⟩⟩
theorem OwnSt.low {w : World} {base base' n : Nat} {v : Value} {ss : List Sp} (h : OwnSt w base v n ss) (hl : base' ≤ base) : OwnSt w base' v n ss := by
  obtain ⟨zs, e, h1, h2⟩ := h
  exact ⟨zs, e, own_low h1 hl, fun z hz => by obtain ⟨m, h⟩ := h2 z hz; exact ⟨m, h.low hl⟩⟩
theorem OwnSt.turn {S : Nat → Prop} {w w' : World} {base n : Nat} {v : Value} {ss : List Sp} (h : OwnSt w base v n ss) (ht : Turn S w w') (hS : ∀ i, S i → i < base) : OwnSt w' base v n ss := by
  obtain ⟨zs, e, h1, h2⟩ := h
  exact ⟨zs, e, own_keep h1 fun i hi hlt => ht.block i hlt (fun hs => by have := hS i hs; have := (World.ownsRow.lt h1 i hi).1; omega), fun z hz => by obtain ⟨m, h⟩ := h2 z hz; exact ⟨m, h.turn ht hS⟩⟩
theorem OwnSt.form {w : World} {base n : Nat} {v : Value} {ss : List Sp} (h : OwnSt w base v n ss) : ∃ A c, v = .slice A n c ∧ n ≤ c ∧ c ≤ 9223372036854775807 ∧ (A = none ∧ n = 0 ∨ ∃ g, A = some ⟨g, 0, none⟩ ∧ base ≤ g ∧ g < w.heap.size) := by
  obtain ⟨zs, e, h1, h2⟩ := h
  rcases h1.2 with ⟨e, e2⟩ | ⟨g, cap, cur, e, h1', h2', h3, h4, _⟩
  · exact ⟨none, 0, by rw [e, e2], by omega, by omega, .inl ⟨rfl, e2⟩⟩
  · exact ⟨_, cap, e, h3, by unfold maxLen at h4; exact h4, .inr ⟨g, rfl, h1', by
      rcases Nat.lt_or_ge g w.heap.size with hlt | hge
      · exact hlt
      · rw [Array.getElem?_eq_none hge] at h2'; cases h2'⟩⟩
theorem OwnSt.sts {w : World} {base n c : Nat} {A : Option Addr} {ss : List Sp} (h : OwnSt w base (.slice A n c) n ss) : StS w A n ss := by
  obtain ⟨A', c', e0, hc1, hc2, hA⟩ := h.form
  obtain ⟨rfl, rfl⟩ : A = A' ∧ c = c' := by injection e0 with e1 e2 e3; exact ⟨e1, e3⟩
  refine ⟨h.len, by omega, fun k y hk => ?_⟩
  have hkn : k < n := by have := (List.getElem?_eq_some_iff.1 hk).1; have := h.len; omega
  obtain ⟨zs, rfl, h1, h2⟩ := h
  rw [List.getElem?_map] at hk
  obtain ⟨z, hz, rfl⟩ := Option.map_eq_some_iff.1 hk
  obtain ⟨m, ha⟩ := h2 z (List.mem_of_getElem? hz)
  obtain ⟨P, pc, ep, hp1, hp2⟩ := ha.form
  have ha' := ha
  rw [ep] at ha'
  rcases hA with ⟨_, h0⟩ | ⟨g, rfl, _, hg⟩
  · omega
  · refine ⟨_, P, m, pc, rfl, hg, fun j y hy => ?_, ha'.ars, hp1⟩
    have hj : j < 7 := (List.getElem?_eq_some_iff.1 hy).1
    rw [addr0, World.ownsRow.cellAt h1 (k * 7 + j) (by omega), flat_get (fun z : Sp × Value => stL z.1 z.2) 7 (fun _ => rfl) zs k z j hz hj]
    rw [ep]
    exact hy
theorem infoS : (Tryz.prog.info? 26).map (fun i => (i.zero, i.size, i.bytes)) = some (some (.agg #[.string ⟨#[]⟩, .int .i64 0, .string ⟨#[]⟩, .slice none 0 0, .int .i64 0, .string ⟨#[]⟩, .int .i64 0]), 7, 96) := by kernel_rfl
theorem wpList_append_st {w : World} {ops : Array Oper} {rest : List Oper} {o : Oper} {a : Act} {Q : Exit → Act → World → Prop} (hgd : o.guard = none) (s x : Operand)
    (ho : o.op = .call { callee := .builtin .append, args := #[s, x], argTypes := #[29, 29] })
    (base : Nat) (v : Value) (n : Nat) (ss : List Sp) (hs : a.eval s = v) (hown : OwnSt w base v n ss) (g : Nat) (hx : a.eval x = .slice (some ⟨g, 0, none⟩) 1 1) (z : Sp) (av : Value) (m : Nat) (hk : Blk w g 26 (stA z av)) (ha : OwnA w base av m z.arms) (hn : (n + 1) * 96 ≤ 140737488355328) (hbase : base ≤ w.heap.size)
    (h : ∀ G cap w', OwnSt w' base (.slice (some ⟨G, 0, none⟩) (n + 1) cap) (n + 1) (ss ++ [z]) → w.grownBy w' v.ownBlock → (∀ i, v.ownBlock = some i → base ≤ i) → Below base w w' → wpList Tryz.prog ops Q rest (a.put o.dst (.slice (some ⟨G, 0, none⟩) (n + 1) cap)) w') : wpList Tryz.prog ops Q (o :: rest) a w := by
  obtain ⟨i, hi⟩ := Option.isSome_iff_exists.1 (show (Tryz.prog.info? 26).isSome = true by kernel_rfl)
  have h0 := infoS
  rw [hi] at h0
  simp only [Option.map_some, Option.some.injEq, Prod.mk.injEq] at h0
  obtain ⟨hz, hsz, hby⟩ := h0
  obtain ⟨P, pc, ep, _, _⟩ := ha.form
  have hcells : ∀ j y, (stL z av)[j]? = some y → w.cell? ((⟨g, 0, none⟩ : Addr).add j) = some y := by
    intro j y hy
    rw [addr0, hk.cell]
    simpa [stL, stA] using hy
  have h1 : ∀ y ∈ stL z av, y.oneCell' = true := by
    intro y hy
    simp [stL, ep] at hy
    rcases hy with rfl | rfl | rfl | rfl | rfl | rfl | rfl <;> rfl
  obtain ⟨zs, hzs, ho1, ho2⟩ := hown
  refine wpList_append_lies w hgd s x 29 ho base 26 i _ 7 96 Tryz.underlying29 hi hz hsz hby rfl (by omega) v n _ hs ho1 ⟨g, 0, none⟩ 1 1 (stL z av) hx rfl hcells h1 (by omega) (by unfold maxLen; omega) hn hbase _ rfl ?_
  intro G cap w' h2 h3 _ _
  have hst : ∀ (u : Value) (k : Nat) (xs : List Ar), OwnA w base u k xs → OwnA w' base u k xs := fun u k xs hu => hu.keep fun j hj hlt => h3.block j hlt (fun e => by
    obtain ⟨c1, b1⟩ := own_obj hu hj
    obtain ⟨c2, b2⟩ := own_obj ho1 e.symm
    have := Option.some.inj (b1.symm.trans b2)
    injection this with e1 e2 e3
    revert e2; decide)
  refine h G cap w' ⟨zs ++ [(z, av)], by rw [List.map_append, hzs]; rfl, ?_, fun y hy => ?_⟩ h3 (fun i hi => (World.ownsRow.lt ho1 i hi).1) ?_
  · have e : (zs ++ [(z, av)]).flatMap (fun z => stL z.1 z.2) = (zs.flatMap fun z => stL z.1 z.2) ++ stL z av := by simp
    rw [e]
    exact h2
  · rcases List.mem_append.1 hy with hy | hy
    · obtain ⟨k, hk⟩ := ho2 y hy
      exact ⟨k, hst _ _ _ hk⟩
    · obtain rfl : y = (z, av) := by simpa using hy
      exact ⟨m, hst _ _ _ ha⟩
  · exact below_grown h3 (fun i hi => (World.ownsRow.lt ho1 i hi).1) hbase
end Go.Proofs.YtgndcgknedmalaaGreatDoor
