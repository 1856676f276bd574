/-
  Which of several patterns ends first: as it is looked for, one by one.
-/
import Derived.Test.YtgidoieppplhpaaDoorExpectTwin
namespace Go.Proofs.YtgidoieppplhpaaDoor
open Go.RowKit
set_option linter.unusedVariables false

def txtsOf (ys : List (List UInt8)) : List (List UInt8) := ys.map fun x => (bldL 2 x).1
def resOf (ys : List (List UInt8)) : List Re := ys.map fun x => (bldL 2 x).2.1
theorem of9_built : ∀ ys : List (List UInt8), (∀ r ∈ resOf ys, emp r = false) → of9 (txtsOf ys) = .inl (resOf ys)
  | [], _ => rfl
  | y :: l, h => by
    have h1 := of9_built l (fun r hr => h r (List.mem_cons_of_mem _ hr))
    have h2 : emp (bldL 2 y).2.1 = false := h _ (List.mem_cons_self ..)
    have h3 := pat9_bld y
    rw [h2] at h3
    simp only [Bool.false_eq_true, if_false] at h3
    show of9 ((bldL 2 y).1 :: txtsOf l) = _
    simp only [of9, h3, h1]
    rfl
theorem of9_empty : ∀ (ys : List (List UInt8)) (r : Re), r ∈ resOf ys → emp r = true → of9 (txtsOf ys) = .inr (errnoV 8)
  | [], _, h, _ => by simp [resOf] at h
  | y :: l, r, h, he => by
    have h3 := pat9_bld y
    show of9 ((bldL 2 y).1 :: txtsOf l) = _
    cases h2 : emp (bldL 2 y).2.1
    · rw [h2] at h3
      simp only [Bool.false_eq_true, if_false] at h3
      have hm : r ∈ resOf l := by
        rcases List.mem_cons.1 h with e | e
        · rw [e, h2] at he; cases he
        · exact e
      simp only [of9, h3, of9_empty l r hm he]
    · rw [h2] at h3
      simp only [if_true] at h3
      simp only [of9, h3]
theorem flat_get6 : ∀ (l : List Hd) (j i : Nat) (s : Hd), l[j]? = some s → i < 6 → (l.flatMap hdL)[j * 6 + i]? = (hdL s)[i]?
  | [], j, i, s, h, hi => by simp at h
  | x :: l, 0, i, s, h, hi => by
    simp at h
    subst h
    rw [List.flatMap_cons, List.getElem?_append_left (by simp [hdL]; omega)]
    simp
  | x :: l, j + 1, i, s, h, hi => by
    simp at h
    have := flat_get6 l j i s h hi
    rw [List.flatMap_cons, List.getElem?_append_right (by simp [hdL]; omega)]
    have e : (j + 1) * 6 + i - (hdL x).length = j * 6 + i := by simp [hdL]; omega
    rw [e]; exact this
/-- Node k of the row, as it lies. -/
theorem Rw.nd {w : World} {L n c : Nat} {V1 : Value} {A2 : Option Addr} {ss : List (List UInt8)} {hs : List Hd} {rs : List Re} (h : Rw w L V1 ss (.slice A2 n c) hs rs) (hl : hs.length = n) {k : Nat} {r : Re} (hr : rs[k]? = some r) :
    ∃ B x S, A2 = some ⟨B, 0, none⟩ ∧ AtHd w B (k * 6) x ∧ IsS w S x r := by
  obtain ⟨x, hx, hi⟩ := h.tree k r hr
  have hk : k < hs.length := by
    rcases Nat.lt_or_ge k hs.length with h | h
    · exact h
    · rw [List.getElem?_eq_none h] at hx; cases hx
  have ho := h.own2
  rcases id ho.2 with ⟨hv, h0⟩ | ⟨B, cap, cur, hv, _⟩
  · omega
  · have hA : A2 = some ⟨B, 0, none⟩ := by injection hv
    subst hA
    have hc : ∀ i u, i < 6 → (hdL x)[i]? = some u → w.cell? ⟨B, k * 6 + i, none⟩ = some u := fun i u hi hu => by
      have := ho.cells rfl (k * 6 + i) u (by rw [flat_get6 hs k i x hx hi]; exact hu)
      rwa [zero_add_ad] at this
    exact ⟨B, x, _, rfl, ⟨hc 0 _ (by omega) rfl, hc 1 _ (by omega) rfl, hc 2 _ (by omega) rfl, hc 3 _ (by omega) rfl, hc 4 _ (by omega) rfl, hc 5 _ (by omega) rfl⟩, hi⟩
/-- The best of the first j ones: which (-1: none), and where. -/
def Best (rs : List Re) (s : List UInt8) (j : Nat) (β : Int) (α : Nat) : Prop :=
  (β = -1 ∧ α = s.length + 1 ∧ ∀ k r, k < j → rs[k]? = some r → (firstL r s).2 = false) ∨
  (∃ b : Nat, β = (b : Int) ∧ b < j ∧ (∃ r, rs[b]? = some r ∧ firstL r s = (α, true)) ∧ ∀ k r, k < j → rs[k]? = some r → (firstL r s).2 = true → α ≤ (firstL r s).1 ∧ (k < b → α < (firstL r s).1))
theorem best_start (rs : List Re) (s : List UInt8) : Best rs s 0 (-1) (s.length + 1) := .inl ⟨rfl, rfl, fun k r hk => by omega⟩
theorem best_take {rs : List Re} {s : List UInt8} {j : Nat} {β : Int} {α i : Nat} {r : Re} (h : Best rs s j β α) (hr : rs[j]? = some r) (hf : firstL r s = (i, true)) (hi : i < α) : Best rs s (j + 1) (j : Int) i := by
  refine .inr ⟨j, rfl, by omega, ⟨r, hr, hf⟩, fun k r' hk hr' ht => ?_⟩
  rcases Nat.lt_or_ge k j with hkj | hkj
  · rcases h with ⟨_, _, h⟩ | ⟨b, _, _, _, h⟩
    · rw [h k r' hkj hr'] at ht; cases ht
    · have := (h k r' hkj hr' ht).1
      exact ⟨by omega, fun _ => by omega⟩
  · obtain rfl : k = j := by omega
    rw [hr] at hr'
    obtain rfl := Option.some.inj hr'
    rw [hf]
    exact ⟨Nat.le_refl _, fun h => by omega⟩
theorem first_le {r : Re} {s : List UInt8} {i : Nat} (h : firstL r s = (i, true)) : i ≤ s.length := by
  rcases first_spec r s with ⟨k, hk, e, _⟩ | ⟨e, _⟩
  · rw [e] at h; injection h with h; omega
  · rw [e] at h; injection h with _ h; cases h
theorem best_skip {rs : List Re} {s : List UInt8} {j : Nat} {β : Int} {α i : Nat} {o : Bool} {r : Re} (h : Best rs s j β α) (hr : rs[j]? = some r) (hf : firstL r s = (i, o)) (hi : o = false ∨ α ≤ i) : Best rs s (j + 1) β α := by
  rcases h with ⟨h1, h2, h⟩ | ⟨b, h1, h2, h3, h⟩
  · refine .inl ⟨h1, h2, fun k r' hk hr' => ?_⟩
    rcases Nat.lt_or_ge k j with hkj | hkj
    · exact h k r' hkj hr'
    · obtain rfl : k = j := by omega
      rw [hr] at hr'
      obtain rfl := Option.some.inj hr'
      rw [hf]
      rcases hi with rfl | hi
      · rfl
      · cases o
        · rfl
        · have := first_le hf; omega
  · refine .inr ⟨b, h1, by omega, h3, fun k r' hk hr' ht => ?_⟩
    rcases Nat.lt_or_ge k j with hkj | hkj
    · exact h k r' hkj hr' ht
    · obtain rfl : k = j := by omega
      rw [hr] at hr'
      obtain rfl := Option.some.inj hr'
      rw [hf] at ht ⊢
      rcases hi with rfl | hi
      · cases ht
      · exact ⟨hi, fun h => by omega⟩
theorem best_before {rs : List Re} {s : List UInt8} {β : Int} {α t : Nat} (h : Best rs s rs.length β α) (he : ∀ r ∈ rs, emp r = false) (ht : t ≤ s.length) (hα : t < α) : armA (rs.map auOf) (s.take t) = none := by
  rw [arm_none]
  intro A hA
  obtain ⟨r, hr, rfl⟩ := List.mem_map.1 hA
  obtain ⟨k, hk, hrk⟩ := List.getElem_of_mem hr
  have hkr : rs[k]? = some r := by rw [List.getElem?_eq_getElem hk, hrk]
  rw [end_hit (he r hr) ht]
  rcases first_spec r s with ⟨i, hi, e, _, h2⟩ | ⟨e, h2⟩
  · refine h2 t ?_
    rcases h with ⟨_, _, h⟩ | ⟨b, _, _, _, h⟩
    · have := h k r hk hkr; rw [e] at this; cases this
    · have := (h k r hk hkr (by rw [e])).1
      rw [e] at this
      exact Nat.lt_of_lt_of_le hα this
  · exact h2 t ht
theorem best_at {rs : List Re} {s : List UInt8} {b α : Nat} (h : Best rs s rs.length (b : Int) α) (he : ∀ r ∈ rs, emp r = false) : 1 ≤ α ∧ α ≤ s.length ∧ armA (rs.map auOf) (s.take α) = some b := by
  rcases h with ⟨h1, _⟩ | ⟨b', h1, hb, ⟨r, hr, hf⟩, h⟩
  · omega
  · obtain rfl : b = b' := by omega
    have hle := first_le hf
    have hm := List.mem_of_getElem? hr
    have hhit : hitB r s α = true := by
      rcases first_spec r s with ⟨k, _, e, h1, _⟩ | ⟨e, _⟩
      · rw [hf] at e; injection e with e; rw [e]; exact h1
      · rw [hf] at e; injection e with _ e; cases e
    refine ⟨?_, hle, arm_some.2 ⟨⟨auOf r, by rw [List.getElem?_map, hr]; rfl, by rw [end_hit (he r hm) hle]; exact hhit⟩, fun k A hk hA => ?_⟩⟩
    · rcases Nat.eq_zero_or_pos α with h0 | h0
      · subst h0
        rw [hit_zero, he r hm] at hhit
        cases hhit
      · exact h0
    · rw [List.getElem?_map] at hA
      obtain ⟨r', hr', rfl⟩ := Option.map_eq_some_iff.1 hA
      rw [end_hit (he r' (List.mem_of_getElem? hr')) hle]
      rcases first_spec r' s with ⟨i, hi, e, _, h2⟩ | ⟨e, h2⟩
      · refine h2 α ?_
        have := (h k r' (by omega) hr' (by rw [e])).2 hk
        rw [e] at this
        exact this
      · exact h2 α hle
theorem best_none {rs : List Re} {s : List UInt8} {j : Nat} {β : Int} {α : Nat} (h : Best rs s j β α) : (β = -1 ∧ α = s.length + 1) ∨ ∃ b : Nat, β = (b : Int) := by
  rcases h with ⟨h1, h2, _⟩ | ⟨b, h1, _⟩
  · exact .inl ⟨h1, h2⟩
  · exact .inr ⟨b, h1⟩
end Go.Proofs.YtgidoieppplhpaaDoor
