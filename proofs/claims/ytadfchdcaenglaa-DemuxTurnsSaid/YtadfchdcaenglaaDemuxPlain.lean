/-
  Runs of numbers: which segments a list of modes comes to, and what their parts are; plain.
-/
import Derived.Test.YtadfchdcaenglaaMem
namespace Go.Proofs.Ytadfchdcaenglaa
set_option linter.unusedVariables false

/-- A segment: whose it is, from where on, how long. -/
structure Sg where
  m : Nat
  f : Nat
  n : Nat
deriving DecidableEq
def lenD (ss : List Sg) : Nat := match ss.getLast? with
  | none => 0
  | some s => s.f + s.n
def putD (md : Nat) (ss : List Sg) : List Sg := match ss.getLast? with
  | none => [⟨md, 0, 1⟩]
  | some s => if s.m = md then ss.dropLast ++ [⟨s.m, s.f, s.n + 1⟩] else ss ++ [⟨md, s.f + s.n, 1⟩]
/-- The segments of bytes that were given to these, one after the other. -/
def segs (ts : List Nat) : List Sg := ts.foldl (fun ss m => putD m ss) []
theorem segs_snoc (ts : List Nat) (m : Nat) : segs (ts ++ [m]) = putD m (segs ts) := by simp [segs]
inductive SegOk : List Sg → List Nat → Prop
  | nil : SegOk [] []
  | snoc {ss : List Sg} {ts : List Nat} {m n : Nat} : SegOk ss ts → 1 ≤ n → (∀ s, ss.getLast? = some s → s.m ≠ m) → SegOk (ss ++ [⟨m, ts.length, n⟩]) (ts ++ List.replicate n m)
theorem lenD_snoc (ss : List Sg) (s : Sg) : lenD (ss ++ [s]) = s.f + s.n := by simp [lenD]
theorem SegOk.len {ss : List Sg} {ts : List Nat} (h : SegOk ss ts) : lenD ss = ts.length := by
  cases h with
  | nil => rfl
  | snoc h h1 h2 => rw [lenD_snoc, List.length_append, List.length_replicate]
theorem SegOk.put {ss : List Sg} {ts : List Nat} (h : SegOk ss ts) (md : Nat) : SegOk (putD md ss) (ts ++ [md]) := by
  cases h with
  | nil => exact SegOk.snoc (n := 1) SegOk.nil (Nat.le_refl _) (fun s h => by simp at h)
  | @snoc ss ts m n h h1 h2 =>
    unfold putD
    rw [List.getLast?_append]
    simp only [List.getLast?_singleton, Option.some_or]
    by_cases e : m = md
    · subst e
      rw [if_pos rfl, List.dropLast_concat, List.append_assoc, show [m] = List.replicate 1 m from rfl, List.replicate_append_replicate]
      exact SegOk.snoc h (by omega) h2
    · rw [if_neg e]
      have := SegOk.snoc (n := 1) (SegOk.snoc h h1 h2) (Nat.le_refl _) (m := md) (fun s hs => by
        rw [List.getLast?_append] at hs
        simp at hs
        subst hs
        exact e)
      rw [List.length_append, List.length_replicate] at this
      exact this
theorem segOk_from : ∀ (ts done : List Nat) (ss : List Sg), SegOk ss done → SegOk (ts.foldl (fun ss m => putD m ss) ss) (done ++ ts)
  | [], done, ss, h => by simpa using h
  | m :: ts, done, ss, h => by
    have := segOk_from ts (done ++ [m]) _ (h.put m)
    simpa using this
theorem segOk (ts : List Nat) : SegOk (segs ts) ts := by
  have := segOk_from ts [] [] SegOk.nil
  rw [List.nil_append] at this
  exact this
theorem segs_len (ts : List Nat) : lenD (segs ts) = ts.length := (segOk ts).len
theorem SegOk.count {ss : List Sg} {ts : List Nat} (h : SegOk ss ts) : ss.length ≤ ts.length := by
  induction h with
  | nil => exact Nat.le_refl _
  | snoc h h1 h2 ih => rw [List.length_append, List.length_append, List.length_replicate, List.length_singleton]; omega
/-- What is known of the segment at place k. -/
structure SegAt (ss : List Sg) (ts : List Nat) (k : Nat) (s : Sg) : Prop where
  pos : 1 ≤ s.n
  from_ : s.f = lenD (ss.take k)
  end_ : s.f + s.n ≤ ts.length
  all : ∀ i, i < s.n → ts[s.f + i]? = some s.m
  prev : ∀ r, 0 < k → ss[k - 1]? = some r → r.m ≠ s.m
theorem SegOk.at_ {ss : List Sg} {ts : List Nat} (h : SegOk ss ts) : ∀ (k : Nat) (s : Sg), ss[k]? = some s → SegAt ss ts k s := by
  induction h with
  | nil => intro k s h; simp at h
  | @snoc ss ts m n h h1 h2 ih =>
    intro k s hs
    rcases Nat.lt_or_ge k ss.length with hk | hk
    · rw [List.getElem?_append_left hk] at hs
      obtain ⟨a1, a2, a3, a4, a5⟩ := ih k s hs
      refine ⟨a1, by rw [a2, List.take_append_of_le_length (by omega)], by rw [List.length_append]; omega, fun i hi => by rw [List.getElem?_append_left (by omega)]; exact a4 i hi, fun r h0 hr => ?_⟩
      rw [List.getElem?_append_left (by omega)] at hr
      exact a5 r h0 hr
    · rw [List.getElem?_append_right hk] at hs
      have hk0 : k - ss.length = 0 := by
        have := (List.getElem?_eq_some_iff.1 hs).1
        simp at this; omega
      rw [hk0] at hs
      simp at hs
      subst hs
      obtain rfl : k = ss.length := by omega
      refine ⟨h1, ?_, by simp, fun i hi => ?_, fun r h0 hr => ?_⟩
      · rw [List.take_left]; exact h.len.symm
      · rw [List.getElem?_append_right (by simp)]
        simp only [Nat.add_sub_cancel_left]
        rw [List.getElem?_replicate, if_pos hi]
      · rw [List.getElem?_append_left (by omega)] at hr
        refine h2 r ?_
        rw [List.getLast?_eq_getElem?]
        exact hr
theorem lenD_take {ss : List Sg} {ts : List Nat} (h : SegOk ss ts) {k : Nat} {s : Sg} (hs : ss[k]? = some s) : lenD (ss.take (k + 1)) = lenD (ss.take k) + s.n := by
  have hk := (List.getElem?_eq_some_iff.1 hs).1
  have e : ss[k] = s := (List.getElem?_eq_some_iff.1 hs).2
  rw [List.take_succ_eq_append_getElem hk, lenD_snoc, e, (h.at_ k s hs).from_]
/-- What was given to one. -/
def keepD : List UInt8 → List Nat → Nat → List UInt8
  | c :: cs, t :: ts, m => (if t = m then [c] else []) ++ keepD cs ts m
  | _, _, _ => []
theorem keepD_append : ∀ (cs cs' : List UInt8) (ts ts' : List Nat) (m : Nat), cs.length = ts.length → keepD (cs ++ cs') (ts ++ ts') m = keepD cs ts m ++ keepD cs' ts' m
  | [], cs', [], ts', m, _ => by simp [keepD]
  | c :: cs, cs', t :: ts, ts', m, h => by
    have := keepD_append cs cs' ts ts' m (by simpa using h)
    simp [keepD, this]
  | [], _, _ :: _, _, _, h => by simp at h
  | _ :: _, _, [], _, _, h => by simp at h
theorem keepD_rep : ∀ (cs : List UInt8) (n t m : Nat), cs.length = n → keepD cs (List.replicate n t) m = if t = m then cs else []
  | [], n, t, m, h => by
    simp at h; subst h; simp [keepD]
  | c :: cs, 0, t, m, h => by simp at h
  | c :: cs, n + 1, t, m, h => by
    have := keepD_rep cs n t m (by simpa using h)
    rw [List.replicate_succ, keepD, this]
    by_cases e : t = m <;> simp [e]
/-- The bytes that these segments take out of b, for one. -/
def partD (b : List UInt8) (m : Nat) (ss : List Sg) : List UInt8 := ss.flatMap fun s => if s.m = m ∧ s.f + s.n ≤ b.length then (b.drop s.f).take s.n else []
theorem partD_step (b : List UInt8) (m : Nat) {ss : List Sg} {k : Nat} {s : Sg} (h : ss[k]? = some s) : partD b m (ss.take (k + 1)) = partD b m (ss.take k) ++ (if s.m = m ∧ s.f + s.n ≤ b.length then (b.drop s.f).take s.n else []) := by
  have hk := (List.getElem?_eq_some_iff.1 h).1
  have e : ss[k] = s := (List.getElem?_eq_some_iff.1 h).2
  rw [List.take_succ_eq_append_getElem hk, e]
  simp [partD]
theorem SegOk.part {ss : List Sg} {ts : List Nat} (h : SegOk ss ts) (b : List UInt8) (m : Nat) : ts.length ≤ b.length → partD b m ss = keepD (b.take ts.length) ts m := by
  induction h with
  | nil => intro _; simp [partD, keepD]
  | @snoc ss ts t n h h1 h2 ih =>
    intro hb
    rw [List.length_append, List.length_replicate] at hb
    have e : partD b m (ss ++ [⟨t, ts.length, n⟩]) = partD b m ss ++ (if t = m ∧ ts.length + n ≤ b.length then (b.drop ts.length).take n else []) := by simp [partD]
    rw [e, ih (by omega), List.length_append, List.length_replicate, List.take_add, keepD_append _ _ _ _ _ (by rw [List.length_take]; omega), keepD_rep _ _ _ _ (by rw [List.length_take, List.length_drop]; omega)]
    congr 1
    by_cases e : t = m
    · rw [if_pos ⟨e, hb⟩, if_pos e]
    · rw [if_neg (fun h => e h.1), if_neg e]
/-- Of all bytes: those that were given to one. -/
theorem part_all (b : List UInt8) (ts : List Nat) (m : Nat) (h : b.length = ts.length) : partD b m (segs ts) = keepD b ts m := by
  rw [(segOk ts).part b m (by omega), List.take_of_length_le (by omega)]
theorem partD_le_from (b : List UInt8) (m : Nat) {ss : List Sg} {ts : List Nat} (h : SegOk ss ts) : (partD b m ss).length ≤ ts.length := by
  induction h with
  | nil => simp [partD]
  | @snoc ss ts t n h h1 h2 ih =>
    have e : partD b m (ss ++ [⟨t, ts.length, n⟩]) = partD b m ss ++ (if t = m ∧ ts.length + n ≤ b.length then (b.drop ts.length).take n else []) := by simp [partD]
    rw [e, List.length_append, List.length_append, List.length_replicate]
    have : (if t = m ∧ ts.length + n ≤ b.length then (b.drop ts.length).take n else []).length ≤ n := by
      split
      · rw [List.length_take]; omega
      · simp
    omega
theorem partD_take_le (b : List UInt8) (m : Nat) (ss : List Sg) (k : Nat) : (partD b m (ss.take k)).length ≤ (partD b m ss).length := by
  have e : partD b m (ss.take k ++ ss.drop k) = partD b m (ss.take k) ++ partD b m (ss.drop k) := by unfold partD; exact List.flatMap_append
  rw [List.take_append_drop] at e
  rw [e, List.length_append]
  omega
theorem keepD_len : ∀ (cs : List UInt8) (ts : List Nat), cs.length = ts.length → (∀ t ∈ ts, t ≤ 2) → (keepD cs ts 0).length + (keepD cs ts 1).length + (keepD cs ts 2).length = ts.length
  | [], [], _, _ => by simp [keepD]
  | c :: cs, t :: ts, h, ht => by
    have ih := keepD_len cs ts (by simpa using h) (fun x hx => ht x (List.mem_cons_of_mem _ hx))
    have h2 := ht t (List.mem_cons_self ..)
    rcases (by omega : t = 0 ∨ t = 1 ∨ t = 2) with rfl | rfl | rfl <;> simp [keepD] <;> omega
  | [], _ :: _, h, _ => by simp at h
  | _ :: _, [], h, _ => by simp at h
theorem keepD_step (cs : List UInt8) (ts : List Nat) (m k : Nat) (c : UInt8) (t : Nat) (h : cs.length = ts.length) (hc : cs[k]? = some c) (ht : ts[k]? = some t) : keepD (cs.take (k + 1)) (ts.take (k + 1)) m = keepD (cs.take k) (ts.take k) m ++ (if t = m then [c] else []) := by
  have h1 := (List.getElem?_eq_some_iff.1 hc)
  have h2 := (List.getElem?_eq_some_iff.1 ht)
  rw [List.take_succ_eq_append_getElem h1.1, List.take_succ_eq_append_getElem h2.1, h1.2, h2.2, keepD_append _ _ _ _ _ (by rw [List.length_take, List.length_take, h])]
  simp [keepD]
/-- How long segments are together. -/
theorem SegOk.sum {ss : List Sg} {ts : List Nat} (h : SegOk ss ts) : lenD ss = ts.length := h.len
/-- One mode all along. -/
theorem segs_rep (m : Nat) : ∀ n, segs (List.replicate (n + 1) m) = [⟨m, 0, n + 1⟩]
  | 0 => rfl
  | n + 1 => by
    rw [List.replicate_succ' (n := n + 1), segs_snoc, segs_rep m n]
    simp [putD]
theorem segs_less (k : Nat) (hk : 0 < k) : segs (List.replicate k 1 ++ [2]) = [⟨1, 0, k⟩, ⟨2, k, 1⟩] := by
  obtain ⟨j, rfl⟩ : ∃ j, k = j + 1 := ⟨k - 1, by omega⟩
  rw [segs_snoc, segs_rep]
  simp [putD]
theorem segs_turns : ∀ n, segs ((List.range n).map (· % 3)) = (List.range n).map (fun k => ⟨k % 3, k, 1⟩)
  | 0 => rfl
  | n + 1 => by
    rw [List.range_succ, List.map_append, List.map_append, List.map_singleton, List.map_singleton, segs_snoc, segs_turns n]
    unfold putD
    rcases Nat.eq_zero_or_pos n with rfl | hn
    · rfl
    · obtain ⟨j, rfl⟩ : ∃ j, n = j + 1 := ⟨n - 1, by omega⟩
      have e : ((List.range (j + 1)).map (fun k => (⟨k % 3, k, 1⟩ : Sg))).getLast? = some ⟨j % 3, j, 1⟩ := by
        rw [List.range_succ, List.map_append, List.getLast?_append]; rfl
      rw [e]
      simp only
      rw [if_neg (by omega)]
end Go.Proofs.Ytadfchdcaenglaa
