/-
  Arguments that come in, opened: slices of slices of bytes; slices of structs of bytes and a number. Over any program.
-/
import Derived.Test.YtonloefjhofeeaaGreatDoorFrame
import Derived.Deep.Slices
import Derived.SizedLaws
namespace Go.Proofs.YtonloefjhofeeaaGreatDoor
open Go.RowKit Go.ChangeShapes Go.WideShapes Go.Deep
set_option linter.unusedVariables false

theorem choose_list {α : Type} {p : Nat → α → Prop} : ∀ (n : Nat), (∀ i, i < n → ∃ a, p i a) → ∃ l : List α, l.length = n ∧ ∀ i a, l[i]? = some a → p i a
  | 0, _ => ⟨[], rfl, fun i a h => by simp at h⟩
  | n + 1, h => by
    obtain ⟨l, hl, hp⟩ := choose_list n fun i hi => h i (by omega)
    obtain ⟨a, ha⟩ := h n (by omega)
    refine ⟨l ++ [a], by simp [hl], fun i b hb => ?_⟩
    rcases Nat.lt_trichotomy i n with hi | hi | hi
    · rw [List.getElem?_append_left (by omega)] at hb; exact hp i b hb
    · subst hi
      rw [List.getElem?_append_right (by omega), hl, Nat.sub_self] at hb
      simp at hb
      subst hb
      exact ha
    · rw [List.getElem?_append_right (by omega), hl] at hb
      have : i - n = (i - n - 1) + 1 := by omega
      rw [this] at hb
      simp at hb

/-- The datum d is a row of k values. -/
def SizedAs {H : Type} (d : DataW H) (k : Nat) : Prop := (d = .nil ∧ k = 0) ∨ ∃ el sp, d = .slice el sp ∧ el.length = k

section
variable {H : Type} {enc : TypeId × Value → H} {P : Program} {W : World} {base : Nat} {held : Bool}

/-- A slice of bytes among the cells. -/
theorem bys_trod {t e : TypeId} {fuel : Nat} {cs : List Value} {x : DataW H × List MemPlace} (ht : P.underlying t = some (.slice e)) (he : P.underlying e = some (.int .u8)) (hc : P.cellsOf e = 1)
    (h : DataW.trod enc P W base (fun _ => true) held fuel t cs = some x) :
    ∃ A n c bs, cs = [.slice A n c] ∧ Bys W W.heap.size A n bs ∧ n ≤ c ∧ c ≤ 9223372036854775807 ∧ SizedAs x.1 n := by
  rcases open_ints ht he hc h with ⟨hcs, hx⟩ | ⟨a, l, c, zs, hcs, _, hl, hm, hz, hx, hcell, hwz⟩
  · exact ⟨none, 0, 0, [], hcs, Bys.none_, Nat.le_refl _, Nat.zero_le _, .inl ⟨by rw [hx], rfl⟩⟩
  · simp only [if_true] at hz
    refine ⟨some a, l, c, _, hcs, bys_of_ints hl hm hz hcell hwz, hl, by unfold maxLen at hm; omega, .inr ⟨_, _, by rw [hx], ?_⟩⟩
    simp only [lits, List.length_map, List.length_take]
    omega

/-- The slice value '.slice A n _' holds n slices of bytes, which read as 'rows'. -/
def RowsB (w : World) (A : Option Addr) (n : Nat) (rows : List (List UInt8)) : Prop :=
  rows.length = n ∧ ∀ k bs, rows[k]? = some bs → ∃ ad Ak ck, A = some ad ∧ ad.block < w.heap.size ∧ w.cell? (ad.add k) = some (.slice Ak bs.length ck) ∧ bs.length ≤ ck ∧ ck ≤ 9223372036854775807 ∧ Bys w w.heap.size Ak bs.length bs
theorem open_rows {b0 : Nat} {t s e : TypeId} {v : Value} {d : DataW H} {p : List MemPlace} (ht : P.underlying t = some (.slice s)) (hs : P.underlying s = some (.slice e)) (he : P.underlying e = some (.int .u8)) (hc : P.cellsOf e = 1) (hcs : P.cellsOf s = 1)
    (hv : Value.okWide P W .any b0 t v) (h : DataW.Trod enc P W base (fun _ => true) held t v d p) :
    ∃ A n c rows, v = .slice A n c ∧ RowsB W A n rows ∧ n ≤ c ∧ c ≤ 9223372036854775807 ∧ ((d = .nil ∧ rows = []) ∨ ∃ D sp, d = .slice ((List.range n).map D) sp ∧ ∀ k bs, rows[k]? = some bs → SizedAs (D k) bs.length) := by
  obtain ⟨a0, len0, cap0, rfl⟩ := okWide_slice ht hv
  obtain ⟨fuel, hf⟩ := h
  rcases open_slice1 ht hcs hf with ⟨hcs', hx⟩ | ⟨a, len, cap, m, n, V, D, Pl, hcs', hb, hl, hm, hmm, hx, hi⟩
  · simp [Value.cells] at hcs'
    obtain ⟨rfl, rfl, rfl⟩ := hcs'
    exact ⟨none, 0, 0, [], rfl, ⟨rfl, fun k bs h => by simp at h⟩, Nat.le_refl _, Nat.zero_le _, .inl ⟨by injection hx, rfl⟩⟩
  · simp [Value.cells] at hcs'
    obtain ⟨rfl, rfl, rfl⟩ := hcs'
    simp only [if_true] at hmm
    subst hmm
    obtain ⟨rows, hr1, hr2⟩ := choose_list (α := List UInt8) (p := fun k bs => ∃ Ak ck, W.cell? (a.add k) = some (.slice Ak bs.length ck) ∧ bs.length ≤ ck ∧ ck ≤ 9223372036854775807 ∧ Bys W W.heap.size Ak bs.length bs ∧ SizedAs (D k) bs.length) len0 (fun k hk => by
      obtain ⟨h1, h2⟩ := hi k (by omega)
      obtain ⟨A, n', c', bs, hv, hb, hnc, hcm, hsz⟩ := bys_trod hs he hc h2
      have hV : V k = .slice A n' c' := by simpa using hv
      rw [hV] at h1
      have hlen := hb.len
      exact ⟨bs, A, c', by rw [hlen]; exact h1, by omega, hcm, by rw [hlen]; exact hb, by rw [hlen]; exact hsz⟩)
    refine ⟨some a, len0, _, rows, rfl, ⟨hr1, fun k bs hk => ?_⟩, hl, by unfold maxLen at hm; omega, .inr ⟨D, _, by injection hx, fun k bs hk => ?_⟩⟩
    · obtain ⟨Ak, ck, h1, h2, h3, h4, _⟩ := hr2 k bs hk
      exact ⟨a, Ak, ck, rfl, by have := World.block_lt_of_cell? _ _ h1; rwa [ad_block] at this, h1, h2, h3, h4⟩
    · obtain ⟨Ak, ck, _, _, _, _, h5⟩ := hr2 k bs hk
      exact h5

/-- The slice value '.slice A n _' holds n structs of a slice of bytes and a number of kind kd. -/
def ActsB (kd : IntKind) (w : World) (A : Option Addr) (n : Nat) (rows : List (List UInt8 × Int)) : Prop :=
  rows.length = n ∧ ∀ k r, rows[k]? = some r → ∃ ad Ak ck, A = some ad ∧ ad.block < w.heap.size ∧ w.cell? (ad.add (k * 2)) = some (.slice Ak r.1.length ck) ∧ w.cell? (ad.add (k * 2 + 1)) = some (.int kd r.2) ∧ (Lit.int kd r.2).wf = true ∧
    r.1.length ≤ ck ∧ ck ≤ 9223372036854775807 ∧ Bys w w.heap.size Ak r.1.length r.1
theorem open_acts {b0 : Nat} {t q s e i8 : TypeId} {kd : IntKind} {f0 f1 : Field} {v : Value} {d : DataW H} {p : List MemPlace} (ht : P.underlying t = some (.slice q)) (hq : P.underlying q = some (.struct #[f0, f1])) (h0 : f0.type = s ∧ f0.offset = 0) (h1 : f1.type = i8 ∧ f1.offset = 1)
    (hs : P.underlying s = some (.slice e)) (he : P.underlying e = some (.int .u8)) (hi8 : P.underlying i8 = some (.int kd)) (hc : P.cellsOf e = 1) (hcs : P.cellsOf s = 1) (hci : P.cellsOf i8 = 1) (hcq : P.cellsOf q = 2)
    (hv : Value.okWide P W .any b0 t v) (h : DataW.Trod enc P W base (fun _ => true) held t v d p) :
    ∃ A n c rows, v = .slice A n c ∧ ActsB kd W A n rows ∧ n ≤ c ∧ c ≤ 9223372036854775807 := by
  obtain ⟨a0, len0, cap0, rfl⟩ := okWide_slice ht hv
  obtain ⟨fuel, hf⟩ := h
  rcases open_slice ht hf with ⟨hcs', hx⟩ | ⟨a, len, cap, m, n, D, Pl, hcs', hb, hl, hm, hmm, hx, hi⟩
  · simp [Value.cells] at hcs'
    obtain ⟨rfl, rfl, rfl⟩ := hcs'
    exact ⟨none, 0, 0, [], rfl, ⟨rfl, fun k bs h => by simp at h⟩, Nat.le_refl _, Nat.zero_le _⟩
  · simp [Value.cells] at hcs'
    obtain ⟨rfl, rfl, rfl⟩ := hcs'
    simp only [if_true] at hmm
    subst hmm
    rw [hcq] at hi
    obtain ⟨rows, hr1, hr2⟩ := choose_list (α := List UInt8 × Int) (p := fun k r => ∃ Ak ck, W.cell? (a.add (k * 2)) = some (.slice Ak r.1.length ck) ∧ W.cell? (a.add (k * 2 + 1)) = some (.int kd r.2) ∧ (Lit.int kd r.2).wf = true ∧
        r.1.length ≤ ck ∧ ck ≤ 9223372036854775807 ∧ Bys W W.heap.size Ak r.1.length r.1) len0 (fun k hk => by
      obtain ⟨cs', h2, h3⟩ := hi k (by omega)
      obtain ⟨_, hcl, hat⟩ := World.cells?_some h2
      obtain ⟨y0, y1, n', _, _, t0, t1⟩ := trod_struct2 hq h3
      rw [h0.1, h0.2, hcs] at t0
      rw [h1.1, h1.2, hci] at t1
      match cs', hcl with
      | [c0, c1], _ =>
        have p0 := hat 0 (by omega)
        have p1 := hat 1 (by omega)
        obtain ⟨A, n2, c2, bs, hv, hb, hnc, hcm, _⟩ := bys_trod hs he hc t0
        obtain ⟨z, hz, _, hw⟩ := DataW.trod_int hi8 t1
        have e0 : c0 = .slice A n2 c2 := by simpa using hv
        have e1 : c1 = .int kd z := by simpa using hz
        subst e0 e1
        have hlen := hb.len
        rw [ad_add] at p0 p1
        refine ⟨(bs, z), A, c2, ?_, ?_, hw, by simp only [hlen]; exact hnc, hcm, by simp only [hlen]; exact hb⟩
        · simp only [hlen]; simpa using p0
        · simpa using p1)
    refine ⟨some a, len0, _, rows, rfl, ⟨hr1, fun k r hk => ?_⟩, hl, by unfold maxLen at hm; omega⟩
    obtain ⟨Ak, ck, h2, h3, h4, h5, h6, h7⟩ := hr2 k r hk
    exact ⟨a, Ak, ck, rfl, by have := World.block_lt_of_cell? _ _ h2; rwa [ad_block] at this, h2, h3, h4, h5, h6, h7⟩
end

theorem rowsB_below {w w' : World} {A : Option Addr} {n : Nat} {rows : List (List UInt8)} (h : RowsB w A n rows) (hb : Below w.heap.size w w') : RowsB w' A n rows :=
  ⟨h.1, fun k bs hk => by
    obtain ⟨ad, Ak, ck, e0, e1, e2, e3, e4, e5⟩ := h.2 k bs hk
    exact ⟨ad, Ak, ck, e0, Nat.lt_of_lt_of_le e1 hb.size, (hb.cell (by rw [ad_block]; exact e1)).trans e2, e3, e4, (e5.below hb).more hb.size⟩⟩
theorem weights_mem_all {H : Type} {P : Program} {e : TypeId} : ∀ {ds : List (DataW H)} {d : DataW H}, d ∈ ds → ∀ n ∈ d.weights P e, n ∈ DataW.weightsAll P e ds
  | [], d, h, _, _ => by cases h
  | x :: r, d, h, n, hn => by
    simp only [DataW.weightsAll, List.mem_append]
    rcases List.mem_cons.1 h with rfl | h
    · exact .inl hn
    · exact .inr (weights_mem_all h n hn)
/-- How much a slice of slices of bytes holds. -/
theorem rows_sized {H : Type} {P : Program} {ts : List TypeId} {ds : List (DataW H)} (h : (DataW.weightsEach P ts ds).all (· ≤ reachBytes) = true) {j : Nat} {t s e : TypeId} {d : DataW H} (ht : ts[j]? = some t) (hd : ds[j]? = some d)
    (hu : P.underlying t = some (.slice s)) (hs : P.underlying s = some (.slice e)) (h24 : P.bytesOf s = 24) (h1 : P.bytesOf e = 1) {n : Nat} {rows : List (List UInt8)} (hr : rows.length = n)
    (hb : (d = .nil ∧ rows = []) ∨ ∃ D sp, d = .slice ((List.range n).map D) sp ∧ ∀ k bs, rows[k]? = some bs → SizedAs (D k) bs.length) :
    n * 32 ≤ 281474976710656 ∧ ∀ bs ∈ rows, bs.length ≤ 140737488355328 := by
  rcases hb with ⟨_, rfl⟩ | ⟨D, sp, rfl, hD⟩
  · simp at hr; subst hr; exact ⟨by omega, fun bs hb => by cases hb⟩
  · have all := fun m hm => List.all_eq_true.1 h m (DataW.weights_mem_each ht hd m hm)
    have hw : (DataW.slice ((List.range n).map D) sp).weights P t = (((List.range n).map D).length + sp.length) * P.bytesOf s :: (DataW.weightsAll P s ((List.range n).map D) ++ DataW.weightsAll P s sp) := by
      simp [DataW.weights, hu]
    rw [hw] at all
    refine ⟨?_, fun bs hbs => ?_⟩
    · have h2 := all _ (List.mem_cons_self ..)
      rw [h24] at h2
      simp only [List.length_map, List.length_range, reachBytes, decide_eq_true_eq] at h2
      omega
    · obtain ⟨k, hk, rfl⟩ := List.getElem_of_mem hbs
      rcases hD k _ (List.getElem?_eq_getElem hk) with ⟨_, h0⟩ | ⟨el, sp2, hDk, hel⟩
      · omega
      · have h2 := all ((el.length + sp2.length) * P.bytesOf e) (List.mem_cons_of_mem _ (List.mem_append.2 (.inl (weights_mem_all (d := D k) (List.mem_map.2 ⟨k, List.mem_range.2 (by omega), rfl⟩) _ (by rw [hDk]; simp [DataW.weights, hs])))))
        rw [h1] at h2
        have h3 : (el.length + sp2.length) * 1 ≤ reachBytes := of_decide_eq_true h2
        unfold reachBytes at h3
        omega
end Go.Proofs.YtonloefjhofeeaaGreatDoor
