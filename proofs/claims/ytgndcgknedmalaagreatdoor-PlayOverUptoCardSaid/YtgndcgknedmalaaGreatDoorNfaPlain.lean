/-
  Position automata, plain: a pattern's places, where texts begin and end, and what follows what; a text fits just if there is a way through.
-/
import Derived.Test.YtgndcgknedmalaaGreatDoorRegexPlain
namespace Go.Proofs.YtgndcgknedmalaaGreatDoor
set_option linter.unusedVariables false

/-! ### What fits -/
def Mt : Re → List UInt8 → Prop
  | .nil, s => s = []
  | .one x, s => ∃ c, s = [c] ∧ hasS x c.toNat = true
  | .thn a b, s => ∃ u v, s = u ++ v ∧ Mt a u ∧ Mt b v
  | .alt a b, s => Mt a s ∨ Mt b s
  | .star a, s => ∃ us : List (List UInt8), s = us.flatten ∧ ∀ u ∈ us, Mt a u

/-! ### Places -/
def sz : Re → Nat
  | .nil => 0
  | .one _ => 1
  | .thn a b => sz a + sz b
  | .alt a b => sz a + sz b
  | .star a => sz a
def ones : Re → List St
  | .nil => []
  | .one s => [s]
  | .thn a b => ones a ++ ones b
  | .alt a b => ones a ++ ones b
  | .star a => ones a
theorem ones_len : ∀ r, (ones r).length = sz r
  | .nil => rfl
  | .one _ => rfl
  | .thn a b => by simp [ones, sz, ones_len a, ones_len b]
  | .alt a b => by simp [ones, sz, ones_len a, ones_len b]
  | .star a => ones_len a
def emp : Re → Bool
  | .nil => true
  | .one _ => false
  | .thn a b => emp a && emp b
  | .alt a b => emp a || emp b
  | .star _ => true
def fst : Re → Nat → List Nat
  | .nil, _ => []
  | .one _, n => [n]
  | .thn a b, n => if emp a then fst a n ++ fst b (n + sz a) else fst a n
  | .alt a b, n => fst a n ++ fst b (n + sz a)
  | .star a, n => fst a n
def lst : Re → Nat → List Nat
  | .nil, _ => []
  | .one _, n => [n]
  | .thn a b, n => if emp b then lst a n ++ lst b (n + sz a) else lst b (n + sz a)
  | .alt a b, n => lst a n ++ lst b (n + sz a)
  | .star a, n => lst a n
def Fol : Re → Nat → Nat → Nat → Prop
  | .nil, _, _, _ => False
  | .one _, _, _, _ => False
  | .thn a b, n, p, q => Fol a n p q ∨ Fol b (n + sz a) p q ∨ (p ∈ lst a n ∧ q ∈ fst b (n + sz a))
  | .alt a b, n, p, q => Fol a n p q ∨ Fol b (n + sz a) p q
  | .star a, n, p, q => Fol a n p q ∨ (p ∈ lst a n ∧ q ∈ fst a n)
theorem fst_in : ∀ (r : Re) (n p : Nat), p ∈ fst r n → n ≤ p ∧ p < n + sz r
  | .nil, n, p, h => by simp [fst] at h
  | .one _, n, p, h => by simp [fst] at h; simp [sz]; omega
  | .thn a b, n, p, h => by
    simp only [fst] at h
    have h1 := fst_in a n p
    have h2 := fst_in b (n + sz a) p
    simp only [sz]
    split at h
    · rcases List.mem_append.1 h with h | h
      · have := h1 h; omega
      · have := h2 h; omega
    · have := h1 h; omega
  | .alt a b, n, p, h => by
    simp only [fst] at h
    have h1 := fst_in a n p
    have h2 := fst_in b (n + sz a) p
    simp only [sz]
    rcases List.mem_append.1 h with h | h
    · have := h1 h; omega
    · have := h2 h; omega
  | .star a, n, p, h => fst_in a n p h
theorem lst_in : ∀ (r : Re) (n p : Nat), p ∈ lst r n → n ≤ p ∧ p < n + sz r
  | .nil, n, p, h => by simp [lst] at h
  | .one _, n, p, h => by simp [lst] at h; simp [sz]; omega
  | .thn a b, n, p, h => by
    simp only [lst] at h
    have h1 := lst_in a n p
    have h2 := lst_in b (n + sz a) p
    simp only [sz]
    split at h
    · rcases List.mem_append.1 h with h | h
      · have := h1 h; omega
      · have := h2 h; omega
    · have := h2 h; omega
  | .alt a b, n, p, h => by
    simp only [lst] at h
    have h1 := lst_in a n p
    have h2 := lst_in b (n + sz a) p
    simp only [sz]
    rcases List.mem_append.1 h with h | h
    · have := h1 h; omega
    · have := h2 h; omega
  | .star a, n, p, h => lst_in a n p h
theorem fol_in : ∀ (r : Re) (n p q : Nat), Fol r n p q → (n ≤ p ∧ p < n + sz r) ∧ (n ≤ q ∧ q < n + sz r)
  | .nil, n, p, q, h => h.elim
  | .one _, n, p, q, h => h.elim
  | .thn a b, n, p, q, h => by
    simp only [sz]
    rcases h with h | h | ⟨h1, h2⟩
    · have := fol_in a n p q h; omega
    · have := fol_in b (n + sz a) p q h; omega
    · have := lst_in a n p h1; have := fst_in b _ q h2; omega
  | .alt a b, n, p, q, h => by
    simp only [sz]
    rcases h with h | h
    · have := fol_in a n p q h; omega
    · have := fol_in b (n + sz a) p q h; omega
  | .star a, n, p, q, h => by
    simp only [sz]
    rcases h with h | ⟨h1, h2⟩
    · exact fol_in a n p q h
    · exact ⟨lst_in a n p h1, fst_in a n q h2⟩
theorem fst_len : ∀ (r : Re) (n : Nat), (fst r n).length ≤ sz r
  | .nil, n => Nat.le_refl _
  | .one _, n => Nat.le_refl _
  | .thn a b, n => by
    have := fst_len a n; have := fst_len b (n + sz a)
    simp only [fst, sz]
    split
    · rw [List.length_append]; omega
    · omega
  | .alt a b, n => by
    have := fst_len a n; have := fst_len b (n + sz a)
    simp only [fst, sz, List.length_append]; omega
  | .star a, n => fst_len a n
theorem lst_len : ∀ (r : Re) (n : Nat), (lst r n).length ≤ sz r
  | .nil, n => Nat.le_refl _
  | .one _, n => Nat.le_refl _
  | .thn a b, n => by
    have := lst_len a n; have := lst_len b (n + sz a)
    simp only [lst, sz]
    split
    · rw [List.length_append]; omega
    · omega
  | .alt a b, n => by
    have := lst_len a n; have := lst_len b (n + sz a)
    simp only [lst, sz, List.length_append]; omega
  | .star a, n => lst_len a n

/-! ### A way through; 'lab p c': the byte c is one of place p's -/
section
variable (lab : Nat → UInt8 → Prop)
/-- From place p, whose byte has come, by these bytes to place q. -/
def Path (F : Nat → Nat → Prop) : Nat → List UInt8 → Nat → Prop
  | p, [], q => p = q
  | p, c :: s, q => ∃ p', F p p' ∧ lab p' c ∧ Path F p' s q
/-- .. from one of the first places to one of the last. -/
def Way (r : Re) (n : Nat) : List UInt8 → Prop
  | [] => emp r = true
  | c :: s => ∃ p q, p ∈ fst r n ∧ lab p c ∧ Path lab (Fol r n) p s q ∧ q ∈ lst r n
/-- The places from n on bear the pattern's sets. -/
def Lab (r : Re) (n : Nat) : Prop := ∀ i s, (ones r)[i]? = some s → ∀ c, lab (n + i) c ↔ hasS s c.toNat = true
variable {lab}
theorem Lab.left {a b : Re} {n : Nat} {xs : List St} (h : ∀ i s, (ones a ++ xs)[i]? = some s → ∀ c, lab (n + i) c ↔ hasS s c.toNat = true) : Lab lab a n := fun i s hi c => by
  have hlt : i < (ones a).length := by
    rcases Nat.lt_or_ge i (ones a).length with h | h
    · exact h
    · rw [List.getElem?_eq_none h] at hi; cases hi
  exact h i s (by rw [List.getElem?_append_left hlt]; exact hi) c
theorem Lab.right {a b : Re} {n : Nat} (h : ∀ i s, (ones a ++ ones b)[i]? = some s → ∀ c, lab (n + i) c ↔ hasS s c.toNat = true) : Lab lab b (n + sz a) := fun i s hi c => by
  have := h (sz a + i) s (by rw [List.getElem?_append_right (by rw [ones_len]; omega), ones_len]; rw [Nat.add_sub_cancel_left]; exact hi) c
  rwa [← Nat.add_assoc] at this
theorem Path.mono {F G : Nat → Nat → Prop} (hFG : ∀ p q, F p q → G p q) : ∀ {s : List UInt8} {p q : Nat}, Path lab F p s q → Path lab G p s q
  | [], _, _, h => h
  | c :: s, p, q, ⟨p', h1, h2, h3⟩ => ⟨p', hFG _ _ h1, h2, Path.mono hFG h3⟩
theorem Path.append {F : Nat → Nat → Prop} : ∀ {s : List UInt8} {p q : Nat}, Path lab F p s q → ∀ {t : List UInt8} {r : Nat}, Path lab F q t r → Path lab F p (s ++ t) r
  | [], p, q, h, t, r, k => by cases h; exact k
  | c :: s, p, q, ⟨p', h1, h2, h3⟩, t, r, k => ⟨p', h1, h2, Path.append h3 k⟩
theorem Path.snoc {F : Nat → Nat → Prop} : ∀ {s : List UInt8} {p r : Nat} {c : UInt8}, Path lab F p (s ++ [c]) r ↔ ∃ q, Path lab F p s q ∧ F q r ∧ lab r c
  | [], p, r, c => by
    constructor
    · rintro ⟨p', h1, h2, h3⟩
      obtain rfl : p' = r := h3
      exact ⟨p, rfl, h1, h2⟩
    · rintro ⟨q, h1, h2, h3⟩
      obtain rfl : p = q := h1
      exact ⟨r, h2, h3, rfl⟩
  | x :: s, p, r, c => by
    constructor
    · rintro ⟨p', h1, h2, h3⟩
      obtain ⟨q, k1, k2, k3⟩ := Path.snoc.1 h3
      exact ⟨q, ⟨p', h1, h2, k1⟩, k2, k3⟩
    · rintro ⟨q, ⟨p', h1, h2, k1⟩, k2, k3⟩
      exact ⟨p', h1, h2, Path.snoc.2 ⟨q, k1, k2, k3⟩⟩

/-! #### .. of two, one behind the other -/
theorem path_b {a b : Re} {n : Nat} : ∀ {s : List UInt8} {p q : Nat}, n + sz a ≤ p → Path lab (Fol (.thn a b) n) p s q → Path lab (Fol b (n + sz a)) p s q
  | [], _, _, _, h => h
  | c :: s, p, q, hp, ⟨p', h1, h2, h3⟩ => by
    rcases h1 with h1 | h1 | ⟨h1, _⟩
    · have := fol_in a n p p' h1; omega
    · have := fol_in b _ p p' h1; exact ⟨p', h1, h2, path_b (by omega) h3⟩
    · have := lst_in a n p h1; omega
theorem path_a {a b : Re} {n : Nat} : ∀ {s : List UInt8} {p q : Nat}, p < n + sz a → Path lab (Fol (.thn a b) n) p s q →
    (q < n + sz a ∧ Path lab (Fol a n) p s q) ∨ (∃ s1 c s2 p' q', s = s1 ++ c :: s2 ∧ Path lab (Fol a n) p s1 p' ∧ p' ∈ lst a n ∧ q' ∈ fst b (n + sz a) ∧ lab q' c ∧ Path lab (Fol b (n + sz a)) q' s2 q)
  | [], p, q, hp, h => .inl ⟨by obtain rfl : p = q := h; exact hp, h⟩
  | c :: s, p, q, hp, ⟨p', h1, h2, h3⟩ => by
    rcases h1 with h1 | h1 | ⟨h1, h4⟩
    · have := fol_in a n p p' h1
      rcases path_a (by omega) h3 with ⟨h5, h6⟩ | ⟨s1, c', s2, p2, q2, rfl, k1, k2, k3, k4, k5⟩
      · exact .inl ⟨h5, p', h1, h2, h6⟩
      · exact .inr ⟨c :: s1, c', s2, p2, q2, rfl, ⟨p', h1, h2, k1⟩, k2, k3, k4, k5⟩
    · have := fol_in b _ p p' h1; omega
    · have := fst_in b _ p' h4
      exact .inr ⟨[], c, s, p, p', rfl, rfl, h1, h4, h2, path_b (by omega) h3⟩
theorem way_thn {a b : Re} {n : Nat} (s : List UInt8) : Way lab (.thn a b) n s ↔ ∃ u v, s = u ++ v ∧ Way lab a n u ∧ Way lab b (n + sz a) v := by
  constructor
  · cases s with
    | nil =>
      intro h
      simp only [Way, emp, Bool.and_eq_true] at h
      exact ⟨[], [], rfl, h.1, h.2⟩
    | cons c s =>
      rintro ⟨p, q, hp, hc, hpath, hq⟩
      simp only [fst] at hp
      simp only [lst] at hq
      have inA : p ∈ fst a n → ∃ u v, c :: s = u ++ v ∧ Way lab a n u ∧ Way lab b (n + sz a) v := fun hp => by
        have := fst_in a n p hp
        rcases path_a (by omega) hpath with ⟨h5, h6⟩ | ⟨s1, c', s2, p', q', rfl, k1, k2, k3, k4, k5⟩
        · have hql : q ∈ lst a n ∧ emp b = true := by
            split at hq
            · rename_i he
              rcases List.mem_append.1 hq with hq | hq
              · exact ⟨hq, he⟩
              · have := lst_in b _ q hq; omega
            · have := lst_in b _ q hq; omega
          exact ⟨c :: s, [], by simp, ⟨p, q, hp, hc, h6, hql.1⟩, hql.2⟩
        · have hql : q ∈ lst b (n + sz a) := by
            have hge : ∀ {s : List UInt8} {x : Nat}, n + sz a ≤ x → Path lab (Fol b (n + sz a)) x s q → n + sz a ≤ q := by
              intro s
              induction s with
              | nil => intro x hx h; obtain rfl : x = q := h; exact hx
              | cons d s ih => rintro x hx ⟨y, h1, h2, h3⟩; have := fol_in b _ x y h1; exact ih (by omega) h3
            have h0 := fst_in b _ q' k3
            have h1 := hge (by omega) k5
            split at hq
            · rcases List.mem_append.1 hq with hq | hq
              · have := lst_in a n q hq; omega
              · exact hq
            · exact hq
          exact ⟨c :: s1, c' :: s2, rfl, ⟨p, p', hp, hc, k1, k2⟩, ⟨q', q, k3, k4, k5, hql⟩⟩
      have inB : emp a = true → p ∈ fst b (n + sz a) → ∃ u v, c :: s = u ++ v ∧ Way lab a n u ∧ Way lab b (n + sz a) v := fun he hp => by
        have h0 := fst_in b _ p hp
        have k5 := path_b (a := a) (by omega) hpath
        have hql : q ∈ lst b (n + sz a) := by
          have hge : ∀ {s : List UInt8} {x : Nat}, n + sz a ≤ x → Path lab (Fol b (n + sz a)) x s q → n + sz a ≤ q := by
            intro s
            induction s with
            | nil => intro x hx h; obtain rfl : x = q := h; exact hx
            | cons d s ih => rintro x hx ⟨y, h1, h2, h3⟩; have := fol_in b _ x y h1; exact ih (by omega) h3
          have h1 := hge (by omega) k5
          split at hq
          · rcases List.mem_append.1 hq with hq | hq
            · have := lst_in a n q hq; omega
            · exact hq
          · exact hq
        exact ⟨[], c :: s, rfl, he, ⟨p, q, hp, hc, k5, hql⟩⟩
      split at hp
      · rename_i he
        rcases List.mem_append.1 hp with hp | hp
        · exact inA hp
        · exact inB he hp
      · exact inA hp
  · rintro ⟨u, v, rfl, hu, hv⟩
    cases u with
    | nil =>
      cases v with
      | nil => simp only [Way] at hu hv; simp [Way, emp, hu, hv]
      | cons c v =>
        obtain ⟨p, q, hp, hc, hpath, hq⟩ := hv
        refine ⟨p, q, ?_, hc, hpath.mono (fun _ _ h => .inr (.inl h)), ?_⟩
        · simp only [Way] at hu
          simp only [fst, hu, if_true]
          exact List.mem_append_right _ hp
        · simp only [lst]
          split
          · exact List.mem_append_right _ hq
          · exact hq
    | cons c u =>
      obtain ⟨p, q, hp, hc, hpath, hq⟩ := hu
      have hp' : p ∈ fst (.thn a b) n := by
        simp only [fst]
        split
        · exact List.mem_append_left _ hp
        · exact hp
      cases v with
      | nil =>
        refine ⟨p, q, hp', hc, by simpa using hpath.mono (fun _ _ h => .inl h), ?_⟩
        simp only [Way] at hv
        simp only [lst, hv, if_true]
        exact List.mem_append_left _ hq
      | cons d v =>
        obtain ⟨p2, q2, hp2, hd, hpath2, hq2⟩ := hv
        refine ⟨p, q2, hp', hc, (hpath.mono (fun _ _ h => .inl h)).append ⟨p2, .inr (.inr ⟨hq, hp2⟩), hd, hpath2.mono (fun _ _ h => .inr (.inl h))⟩, ?_⟩
        simp only [lst]
        split
        · exact List.mem_append_right _ hq2
        · exact hq2

/-! #### .. of one of two -/
theorem path_alt {a b : Re} {n : Nat} : ∀ {s : List UInt8} {p q : Nat}, Path lab (Fol (.alt a b) n) p s q → (p < n + sz a → q < n + sz a ∧ Path lab (Fol a n) p s q) ∧ (n + sz a ≤ p → n + sz a ≤ q ∧ Path lab (Fol b (n + sz a)) p s q)
  | [], p, q, h => by obtain rfl : p = q := h; exact ⟨fun h => ⟨h, rfl⟩, fun h => ⟨h, rfl⟩⟩
  | c :: s, p, q, ⟨p', h1, h2, h3⟩ => by
    obtain ⟨i1, i2⟩ := path_alt h3
    rcases h1 with h1 | h1
    · have := fol_in a n p p' h1
      refine ⟨fun h => ?_, fun h => by omega⟩
      obtain ⟨k1, k2⟩ := i1 (by omega)
      exact ⟨k1, p', h1, h2, k2⟩
    · have := fol_in b _ p p' h1
      refine ⟨fun h => by omega, fun h => ?_⟩
      obtain ⟨k1, k2⟩ := i2 (by omega)
      exact ⟨k1, p', h1, h2, k2⟩
theorem way_alt {a b : Re} {n : Nat} (s : List UInt8) : Way lab (.alt a b) n s ↔ Way lab a n s ∨ Way lab b (n + sz a) s := by
  cases s with
  | nil => simp [Way, emp]
  | cons c s =>
    constructor
    · rintro ⟨p, q, hp, hc, hpath, hq⟩
      obtain ⟨i1, i2⟩ := path_alt hpath
      simp only [fst] at hp
      simp only [lst] at hq
      rcases List.mem_append.1 hp with hp | hp
      · have := fst_in a n p hp
        obtain ⟨k1, k2⟩ := i1 (by omega)
        rcases List.mem_append.1 hq with hq | hq
        · exact .inl ⟨p, q, hp, hc, k2, hq⟩
        · have := lst_in b _ q hq; omega
      · have := fst_in b _ p hp
        obtain ⟨k1, k2⟩ := i2 (by omega)
        rcases List.mem_append.1 hq with hq | hq
        · have := lst_in a n q hq; omega
        · exact .inr ⟨p, q, hp, hc, k2, hq⟩
    · rintro (⟨p, q, hp, hc, hpath, hq⟩ | ⟨p, q, hp, hc, hpath, hq⟩)
      · exact ⟨p, q, List.mem_append_left _ hp, hc, hpath.mono (fun _ _ h => .inl h), List.mem_append_left _ hq⟩
      · exact ⟨p, q, List.mem_append_right _ hp, hc, hpath.mono (fun _ _ h => .inr h), List.mem_append_right _ hq⟩

/-! #### .. of any number -/
theorem path_star {a : Re} {n : Nat} : ∀ {s : List UInt8} {p q : Nat}, Path lab (Fol (.star a) n) p s q → q ∈ lst a n →
    ∃ (s1 : List UInt8) (q1 : Nat) (us : List (List UInt8)), s = s1 ++ us.flatten ∧ Path lab (Fol a n) p s1 q1 ∧ q1 ∈ lst a n ∧ ∀ u ∈ us, Way lab a n u
  | [], p, q, h, hq => by
    obtain rfl : p = q := h
    exact ⟨[], p, [], rfl, rfl, hq, by simp⟩
  | c :: s, p, q, ⟨p', h1, h2, h3⟩, hq => by
    obtain ⟨s1, q1, us, rfl, k1, k2, k3⟩ := path_star h3 hq
    rcases h1 with h1 | ⟨h1, h4⟩
    · exact ⟨c :: s1, q1, us, rfl, ⟨p', h1, h2, k1⟩, k2, k3⟩
    · refine ⟨[], p, (c :: s1) :: us, by simp, rfl, h1, fun u hu => ?_⟩
      rcases List.mem_cons.1 hu with rfl | hu
      · exact ⟨p', q1, h4, h2, k1, k2⟩
      · exact k3 u hu
theorem way_star {a : Re} {n : Nat} (s : List UInt8) : Way lab (.star a) n s ↔ ∃ us : List (List UInt8), s = us.flatten ∧ ∀ u ∈ us, Way lab a n u := by
  constructor
  · cases s with
    | nil => intro _; exact ⟨[], rfl, by simp⟩
    | cons c s =>
      rintro ⟨p, q, hp, hc, hpath, hq⟩
      obtain ⟨s1, q1, us, rfl, k1, k2, k3⟩ := path_star hpath hq
      refine ⟨(c :: s1) :: us, by simp, fun u hu => ?_⟩
      rcases List.mem_cons.1 hu with rfl | hu
      · exact ⟨p, q1, hp, hc, k1, k2⟩
      · exact k3 u hu
  · rintro ⟨us, rfl, hus⟩
    induction us with
    | nil => rfl
    | cons u us ih =>
      have hu := hus u (by simp)
      have ih := ih (fun v hv => hus v (by simp [hv]))
      rw [List.flatten_cons]
      cases u with
      | nil => exact ih
      | cons c u =>
        obtain ⟨p, q, hp, hc, hpath, hq⟩ := hu
        cases hf : us.flatten with
        | nil => exact ⟨p, q, hp, hc, by simpa using hpath.mono (fun _ _ h => .inl h), hq⟩
        | cons d v =>
          rw [hf] at ih
          obtain ⟨p2, q2, hp2, hd, hpath2, hq2⟩ := ih
          exact ⟨p, q2, hp, hc, (hpath.mono (fun _ _ h => .inl h)).append ⟨p2, .inr ⟨hq, hp2⟩, hd, hpath2⟩, hq2⟩

/-- A text fits just if there is a way through. -/
theorem way_iff : ∀ (r : Re) (n : Nat), Lab lab r n → ∀ s, Way lab r n s ↔ Mt r s
  | .nil, n, _, s => by
    cases s with
    | nil => simp [Way, emp, Mt]
    | cons c s =>
      refine ⟨fun h => ?_, fun h => by cases h⟩
      obtain ⟨p, q, hp, _⟩ := h
      simp [fst] at hp
  | .one x, n, hl, s => by
    have h0 := hl 0 x rfl
    cases s with
    | nil => simp [Way, emp, Mt]
    | cons c s =>
      constructor
      · rintro ⟨p, q, hp, hc, hpath, hq⟩
        simp only [fst, List.mem_singleton] at hp
        subst hp
        cases s with
        | nil => exact ⟨c, rfl, (h0 c).1 hc⟩
        | cons d s => obtain ⟨p', h1, _⟩ := hpath; exact h1.elim
      · rintro ⟨d, hd, hx⟩
        injection hd with h1 h2
        subst h1 h2
        exact ⟨n, n, by simp [fst], (h0 c).2 hx, rfl, by simp [lst]⟩
  | .thn a b, n, hl, s => by
    rw [way_thn]
    simp only [Mt]
    have ha := way_iff a n (Lab.left (b := b) hl)
    have hb := way_iff b (n + sz a) (Lab.right hl)
    constructor
    · rintro ⟨u, v, e, h1, h2⟩; exact ⟨u, v, e, (ha u).1 h1, (hb v).1 h2⟩
    · rintro ⟨u, v, e, h1, h2⟩; exact ⟨u, v, e, (ha u).2 h1, (hb v).2 h2⟩
  | .alt a b, n, hl, s => by
    rw [way_alt]
    simp only [Mt]
    rw [way_iff a n (Lab.left (b := b) hl), way_iff b (n + sz a) (Lab.right hl)]
  | .star a, n, hl, s => by
    rw [way_star]
    simp only [Mt]
    have ha := way_iff a n hl
    constructor
    · rintro ⟨us, e, h⟩; exact ⟨us, e, fun u hu => (ha u).1 (h u hu)⟩
    · rintro ⟨us, e, h⟩; exact ⟨us, e, fun u hu => (ha u).2 (h u hu)⟩
end


structure TbD where
  sets : List St
  groups : List (List Nat)
  leads : List (Nat × Nat)
structure Prt where
  e : Bool
  f : Nat
  l : Nat
def TbD.grp (T : TbD) (i : Nat) : List Nat := T.groups.getD i []
def TbD.push (T : TbD) (q : List Nat) : TbD := { T with groups := T.groups ++ [q] }
def tb0 : TbD := ⟨[], [], []⟩
def nothingF (T : TbD) : Prt × TbD := (⟨true, T.groups.length, T.groups.length⟩, T.push [])
def oneF (s : St) (T : TbD) : Prt × TbD := (⟨false, T.groups.length, T.groups.length⟩, { T.push [T.sets.length] with sets := T.sets ++ [s] })
def leadF (a b : Prt) (T : TbD) : TbD := { T with leads := T.leads ++ [(a.l, b.f)] }
def unionF (a b : Nat) (T : TbD) : Nat × TbD := (T.groups.length, T.push (T.grp a ++ T.grp b))
def unionIf (c : Bool) (a b d : Nat) (T : TbD) : Nat × TbD := if c then unionF a b T else (d, T)
def thenF (a b : Prt) (T : TbD) : Prt × TbD :=
  (⟨a.e && b.e, (unionIf a.e a.f b.f a.f (leadF a b T)).1, (unionIf b.e a.l b.l b.l (unionIf a.e a.f b.f a.f (leadF a b T)).2).1⟩, (unionIf b.e a.l b.l b.l (unionIf a.e a.f b.f a.f (leadF a b T)).2).2)
def eitherF (a b : Prt) (T : TbD) : Prt × TbD :=
  (⟨a.e || b.e, (unionF a.f b.f T).1, (unionF a.l b.l (unionF a.f b.f T).2).1⟩, (unionF a.l b.l (unionF a.f b.f T).2).2)
def starF (a : Prt) (T : TbD) : Prt × TbD := (⟨true, a.f, a.l⟩, leadF a a T)
def addF : Re → TbD → Prt × TbD
  | .nil, T => nothingF T
  | .one s, T => oneF s T
  | .thn a b, T => thenF (addF a T).1 (addF b (addF a T).2).1 (addF b (addF a T).2).2
  | .alt a b, T => eitherF (addF a T).1 (addF b (addF a T).2).1 (addF b (addF a T).2).2
  | .star a, T => starF (addF a T).1 (addF a T).2

/-! ### How it grows -/
def nds : Re → Nat
  | .nil => 1
  | .one _ => 1
  | .thn a b => nds a + nds b + 2
  | .alt a b => nds a + nds b + 2
  | .star a => nds a + 1
theorem sz_nds : ∀ r, sz r ≤ nds r
  | .nil => by simp [sz, nds]
  | .one _ => Nat.le_refl _
  | .thn a b => by have := sz_nds a; have := sz_nds b; simp only [sz, nds]; omega
  | .alt a b => by have := sz_nds a; have := sz_nds b; simp only [sz, nds]; omega
  | .star a => by have := sz_nds a; simp only [sz, nds]; omega
/-- T' is T and more groups (none longer than m), of which there are at most k more; the leads that are new have their groups, and lead so. -/
structure Up (T T' : TbD) (os : List St) (k m : Nat) (F : Nat → Nat → Prop) : Prop where
  sets : T'.sets = T.sets ++ os
  groups : ∃ gs, T'.groups = T.groups ++ gs ∧ gs.length ≤ k ∧ ∀ q ∈ gs, q.length ≤ m
  leads : ∃ ls, T'.leads = T.leads ++ ls ∧ ls.length ≤ k ∧ (∀ q ∈ ls, q.1 < T'.groups.length ∧ q.2 < T'.groups.length) ∧ ∀ x y, (∃ q ∈ ls, x ∈ T'.grp q.1 ∧ y ∈ T'.grp q.2) ↔ F x y
theorem grp_of {T : TbD} {i : Nat} {q : List Nat} (h : T.groups[i]? = some q) : T.grp i = q := by simp [TbD.grp, h]
theorem grp_keep {T T' : TbD} {gs : List (List Nat)} (h : T'.groups = T.groups ++ gs) {i : Nat} (hi : i < T.groups.length) : T'.groups[i]? = T.groups[i]? := by
  rw [h, List.getElem?_append_left hi]
theorem grp_keep' {T T' : TbD} {gs : List (List Nat)} (h : T'.groups = T.groups ++ gs) {i : Nat} (hi : i < T.groups.length) : T'.grp i = T.grp i := by
  simp [TbD.grp, grp_keep h hi]
theorem lt_of_get {α : Type} {l : List α} {i : Nat} {x : α} (h : l[i]? = some x) : i < l.length := by
  rcases Nat.lt_or_ge i l.length with h1 | h1
  · exact h1
  · rw [List.getElem?_eq_none h1] at h; cases h
namespace Up
variable {T T1 T' : TbD} {os ot : List St} {k k' m m' : Nat} {F G : Nat → Nat → Prop}
theorem len (h : Up T T' os k m F) : T.groups.length ≤ T'.groups.length := by
  obtain ⟨gs, h1, _⟩ := h.groups
  rw [h1, List.length_append]; omega
theorem keep (h : Up T T' os k m F) {i : Nat} {q : List Nat} (hi : T.groups[i]? = some q) : T'.groups[i]? = some q := by
  obtain ⟨gs, h1, _⟩ := h.groups
  rw [grp_keep h1 (lt_of_get hi)]; exact hi
theorem trans (h : Up T T1 os k m F) (g : Up T1 T' ot k' m' G) (hm : m ≤ m') : Up T T' (os ++ ot) (k + k') m' (fun x y => F x y ∨ G x y) := by
  refine ⟨by rw [g.sets, h.sets, List.append_assoc], ?_, ?_⟩
  · obtain ⟨gs, h1, h2, h3⟩ := h.groups
    obtain ⟨gt, g1, g2, g3⟩ := g.groups
    refine ⟨gs ++ gt, by rw [g1, h1, List.append_assoc], by rw [List.length_append]; omega, fun q hq => ?_⟩
    rcases List.mem_append.1 hq with hq | hq
    · exact Nat.le_trans (h3 q hq) hm
    · exact g3 q hq
  · have hlen := g.len
    obtain ⟨gt, g0, _⟩ := g.groups
    obtain ⟨ls, h1, h2, h3, h4⟩ := h.leads
    obtain ⟨lt, g1, g2, g3, g4⟩ := g.leads
    refine ⟨ls ++ lt, by rw [g1, h1, List.append_assoc], by rw [List.length_append]; omega, fun q hq => ?_, fun x y => ?_⟩
    · rcases List.mem_append.1 hq with hq | hq
      · have := h3 q hq; omega
      · exact g3 q hq
    · constructor
      · rintro ⟨q, hq, hx, hy⟩
        rcases List.mem_append.1 hq with hq | hq
        · have := h3 q hq
          rw [grp_keep' g0 (by omega)] at hx
          rw [grp_keep' g0 (by omega)] at hy
          exact .inl ((h4 x y).1 ⟨q, hq, hx, hy⟩)
        · exact .inr ((g4 x y).1 ⟨q, hq, hx, hy⟩)
      · rintro (hF | hG)
        · obtain ⟨q, hq, hx, hy⟩ := (h4 x y).2 hF
          have := h3 q hq
          exact ⟨q, List.mem_append_left _ hq, by rw [grp_keep' g0 (by omega)]; exact hx, by rw [grp_keep' g0 (by omega)]; exact hy⟩
        · obtain ⟨q, hq, hx, hy⟩ := (g4 x y).2 hG
          exact ⟨q, List.mem_append_right _ hq, hx, hy⟩
theorem weak (h : Up T T' os k m F) (hk : k ≤ k') (hm : m ≤ m') (hF : ∀ x y, F x y ↔ G x y) : Up T T' os k' m' G := by
  obtain ⟨h1, ⟨gs, h2, h3, h4⟩, ls, h5, h6, h7, h8⟩ := h
  exact ⟨h1, ⟨gs, h2, Nat.le_trans h3 hk, fun q hq => Nat.le_trans (h4 q hq) hm⟩, ls, h5, Nat.le_trans h6 hk, h7, fun x y => (h8 x y).trans (hF x y)⟩
theorem same (T : TbD) (m : Nat) : Up T T [] 0 m (fun _ _ => False) :=
  ⟨by simp, ⟨[], by simp, Nat.le_refl _, by simp⟩, [], by simp, Nat.le_refl _, by simp, by simp⟩
theorem push (T : TbD) (q : List Nat) (hq : q.length ≤ m) : Up T (T.push q) [] 1 m (fun _ _ => False) :=
  ⟨by simp [TbD.push], ⟨[q], rfl, Nat.le_refl _, by simpa using hq⟩, [], by simp [TbD.push], Nat.zero_le _, by simp, by simp⟩
theorem lead {a b : Prt} {T : TbD} {P Q : List Nat} (ha : T.groups[a.l]? = some P) (hb : T.groups[b.f]? = some Q) (m : Nat) : Up T (leadF a b T) [] 1 m (fun x y => x ∈ P ∧ y ∈ Q) :=
  ⟨by simp [leadF], ⟨[], by simp [leadF], Nat.zero_le _, by simp⟩, [(a.l, b.f)], rfl, Nat.le_refl _, by
    intro q hq
    simp only [List.mem_singleton] at hq
    subst hq
    exact ⟨lt_of_get ha, lt_of_get hb⟩, fun x y => by
    have e1 : (leadF a b T).grp a.l = P := by simp [TbD.grp, leadF, ha]
    have e2 : (leadF a b T).grp b.f = Q := by simp [TbD.grp, leadF, hb]
    constructor
    · rintro ⟨q, hq, hx, hy⟩
      simp only [List.mem_singleton] at hq
      subst hq
      rw [e1] at hx
      rw [e2] at hy
      exact ⟨hx, hy⟩
    · rintro ⟨hx, hy⟩
      exact ⟨(a.l, b.f), by simp, by rw [e1]; exact hx, by rw [e2]; exact hy⟩⟩
end Up
theorem push_last (T : TbD) (q : List Nat) : (T.push q).groups[T.groups.length]? = some q := by simp [TbD.push]
theorem up_union {a b : Nat} {T : TbD} {P Q : List Nat} (ha : T.groups[a]? = some P) (hb : T.groups[b]? = some Q) {m : Nat} (hm : (P ++ Q).length ≤ m) :
    Up T (unionF a b T).2 [] 1 m (fun _ _ => False) ∧ (unionF a b T).2.groups[(unionF a b T).1]? = some (P ++ Q) := by
  unfold unionF
  rw [grp_of ha, grp_of hb]
  exact ⟨Up.push T _ hm, push_last _ _⟩
theorem up_unionIf (c : Bool) {a b d : Nat} {T : TbD} {P Q R : List Nat} (ha : T.groups[a]? = some P) (hb : T.groups[b]? = some Q) (hd : T.groups[d]? = some R) {m : Nat} (hm : c = true → (P ++ Q).length ≤ m) :
    Up T (unionIf c a b d T).2 [] 1 m (fun _ _ => False) ∧ (unionIf c a b d T).2.groups[(unionIf c a b d T).1]? = some (if c then P ++ Q else R) := by
  unfold unionIf
  cases c
  · exact ⟨(Up.same T m).weak (Nat.zero_le _) (Nat.le_refl _) (fun _ _ => Iff.rfl), hd⟩
  · exact up_union ha hb (hm rfl)
/-- What is asked of the part of a pattern. -/
structure Grown (r : Re) (T : TbD) (p : Prt) (T' : TbD) : Prop where
  up : Up T T' (ones r) (3 * nds r) (sz r) (Fol r T.sets.length)
  e : p.e = emp r
  f : T'.groups[p.f]? = some (fst r T.sets.length)
  l : T'.groups[p.l]? = some (lst r T.sets.length)
theorem add_grown : ∀ (r : Re) (T : TbD), Grown r T (addF r T).1 (addF r T).2
  | .nil, T => ⟨(Up.push T [] (Nat.le_refl _)).weak (by simp [nds]) (Nat.le_refl _) (fun _ _ => Iff.rfl), rfl, push_last T [], push_last T []⟩
  | .one s, T => by
    have h := Up.push (m := 1) T [T.sets.length] (Nat.le_refl _)
    refine ⟨?_, rfl, push_last T _, push_last T _⟩
    obtain ⟨h1, ⟨gs, h2, h3, h4⟩, ls, h5, h6, h7, h8⟩ := h
    exact ⟨rfl, ⟨gs, h2, Nat.le_trans h3 (by simp [nds]), h4⟩, ls, h5, Nat.le_trans h6 (by simp [nds]), h7, h8⟩
  | .thn a b, T => by
    have ha := add_grown a T
    have hb := add_grown b (addF a T).2
    have e1 : (addF a T).2.sets.length = T.sets.length + sz a := by rw [ha.up.sets, List.length_append, ones_len]
    rw [show addF (.thn a b) T = thenF (addF a T).1 (addF b (addF a T).2).1 (addF b (addF a T).2).2 from rfl]
    generalize (addF a T).1 = p at *
    generalize hT1 : (addF a T).2 = T1 at *
    generalize (addF b T1).1 = q at *
    generalize (addF b T1).2 = T2 at *
    have hbf := hb.f
    have hbl := hb.l
    have hbu := hb.up
    rw [e1] at hbf hbl hbu
    have haf := hb.up.keep ha.f
    have hal := hb.up.keep ha.l
    have u1 := Up.lead (a := p) (b := q) hal hbf (sz a + sz b)
    have l1 := lst_len a T.sets.length
    have l2 := lst_len b (T.sets.length + sz a)
    have f1 := fst_len a T.sets.length
    have f2 := fst_len b (T.sets.length + sz a)
    obtain ⟨u2, g2⟩ := up_unionIf (m := sz a + sz b) p.e (u1.keep haf) (u1.keep hbf) (u1.keep haf) (fun _ => by rw [List.length_append]; omega)
    obtain ⟨u3, g3⟩ := up_unionIf (m := sz a + sz b) q.e (u2.keep (u1.keep hal)) (u2.keep (u1.keep hbl)) (u2.keep (u1.keep hbl)) (fun _ => by rw [List.length_append]; omega)
    have hup := (((ha.up.trans (hbu.weak (Nat.le_refl _) (Nat.le_add_left (sz b) (sz a)) (fun _ _ => Iff.rfl)) (Nat.le_add_right _ _)).trans u1 (Nat.le_refl _)).trans u2 (Nat.le_refl _)).trans u3 (Nat.le_refl _)
    refine ⟨?_, ?_, ?_, ?_⟩
    · have := hup.weak (k' := 3 * nds (.thn a b)) (m' := sz (.thn a b)) (G := Fol (.thn a b) T.sets.length) (by simp only [nds]; omega) (Nat.le_refl _) (fun x y => by simp only [Fol, or_false, or_assoc])
      simpa [ones, thenF] using this
    · show (p.e && q.e) = _
      rw [ha.e, hb.e]; rfl
    · have := u3.keep g2
      rw [ha.e] at this
      show (thenF p q T2).2.groups[(thenF p q T2).1.f]? = _
      unfold thenF
      simp only [fst]
      rw [ha.e]
      exact this
    · have := g3
      show (thenF p q T2).2.groups[(thenF p q T2).1.l]? = _
      unfold thenF
      simp only [lst]
      rw [hb.e] at this ⊢
      exact this
  | .alt a b, T => by
    have ha := add_grown a T
    have hb := add_grown b (addF a T).2
    have e1 : (addF a T).2.sets.length = T.sets.length + sz a := by rw [ha.up.sets, List.length_append, ones_len]
    rw [show addF (.alt a b) T = eitherF (addF a T).1 (addF b (addF a T).2).1 (addF b (addF a T).2).2 from rfl]
    generalize (addF a T).1 = p at *
    generalize hT1 : (addF a T).2 = T1 at *
    generalize (addF b T1).1 = q at *
    generalize (addF b T1).2 = T2 at *
    have hbf := hb.f
    have hbl := hb.l
    have hbu := hb.up
    rw [e1] at hbf hbl hbu
    have haf := hb.up.keep ha.f
    have hal := hb.up.keep ha.l
    have l1 := lst_len a T.sets.length
    have l2 := lst_len b (T.sets.length + sz a)
    have f1 := fst_len a T.sets.length
    have f2 := fst_len b (T.sets.length + sz a)
    obtain ⟨u2, g2⟩ := up_union (m := sz a + sz b) haf hbf (by rw [List.length_append]; omega)
    obtain ⟨u3, g3⟩ := up_union (m := sz a + sz b) (u2.keep hal) (u2.keep hbl) (by rw [List.length_append]; omega)
    have hup := ((ha.up.trans (hbu.weak (Nat.le_refl _) (Nat.le_add_left (sz b) (sz a)) (fun _ _ => Iff.rfl)) (Nat.le_add_right _ _)).trans u2 (Nat.le_refl _)).trans u3 (Nat.le_refl _)
    refine ⟨?_, ?_, ?_, ?_⟩
    · have := hup.weak (k' := 3 * nds (.alt a b)) (m' := sz (.alt a b)) (G := Fol (.alt a b) T.sets.length) (by simp only [nds]; omega) (Nat.le_refl _) (fun x y => by simp only [Fol, or_false])
      simpa [ones, eitherF] using this
    · show (p.e || q.e) = _
      rw [ha.e, hb.e]; rfl
    · exact u3.keep g2
    · exact g3
  | .star a, T => by
    have ha := add_grown a T
    rw [show addF (.star a) T = starF (addF a T).1 (addF a T).2 from rfl]
    generalize (addF a T).1 = p at *
    generalize (addF a T).2 = T1 at *
    have u1 := Up.lead (a := p) (b := p) ha.l ha.f (sz a)
    have hup := ha.up.trans u1 (Nat.le_refl _)
    refine ⟨?_, rfl, u1.keep ha.f, u1.keep ha.l⟩
    have := hup.weak (k' := 3 * nds (.star a)) (m' := sz (.star a)) (G := Fol (.star a) T.sets.length) (by simp only [nds]; omega) (Nat.le_refl _) (fun x y => Iff.rfl)
    simpa [ones, starF] using this

/-! ### Steps -/
structure Au where
  T : TbD
  first : List Nat
  last : List Nat
  e : Bool
def auOf (r : Re) : Au := ⟨(addF r tb0).2, (addF r tb0).2.grp (addF r tb0).1.f, (addF r tb0).2.grp (addF r tb0).1.l, (addF r tb0).1.e⟩
def anyB (at_ : List Bool) (g : List Nat) : Bool := g.any fun p => at_.getD p false
def toB (A : Au) (at_ : List Bool) (b : Bool) (q : Nat) : Bool := (b && A.first.contains q) || A.T.leads.any fun p => anyB at_ (A.T.grp p.1) && (A.T.grp p.2).contains q
def stepB (A : Au) (at_ : List Bool) (c : UInt8) (b : Bool) : List Bool :=
  (List.range A.T.sets.length).map fun q => toB A at_ b q && hasS (A.T.sets.getD q st0) c.toNat
def runB (A : Au) (s : List UInt8) : List Bool := (s.foldl (fun p c => (stepB A p.1 c p.2, false)) (([] : List Bool), true)).1
def fitsB (A : Au) (s : List UInt8) : Bool := if s.isEmpty then A.e else anyB (runB A s) A.last
theorem run_flag (A : Au) : ∀ (s : List UInt8) (p : List Bool × Bool), (s.foldl (fun p c => (stepB A p.1 c p.2, false)) p).2 = (s.isEmpty && p.2)
  | [], p => by simp
  | c :: s, p => by rw [List.foldl_cons, run_flag A s]; simp
theorem run_snoc (A : Au) (s : List UInt8) (c : UInt8) : runB A (s ++ [c]) = stepB A (runB A s) c s.isEmpty := by
  unfold runB
  rw [List.foldl_append]
  simp only [List.foldl_cons, List.foldl_nil]
  rw [run_flag]
  simp
theorem step_get (A : Au) (at_ : List Bool) (c : UInt8) (b : Bool) (q : Nat) : (stepB A at_ c b).getD q false = (decide (q < A.T.sets.length) && (toB A at_ b q && hasS (A.T.sets.getD q st0) c.toNat)) := by
  unfold stepB
  by_cases h : q < A.T.sets.length
  · simp [List.getD, h]
  · simp [List.getD, h]
theorem step_len (A : Au) (at_ : List Bool) (c : UInt8) (b : Bool) : (stepB A at_ c b).length = A.T.sets.length := by simp [stepB]
theorem any_iff (at_ : List Bool) (g : List Nat) : anyB at_ g = true ↔ ∃ p ∈ g, at_.getD p false = true := by simp [anyB]

/-- A table's places are a pattern's. -/
structure AuOk (r : Re) (A : Au) : Prop where
  sets : A.T.sets = ones r
  first : A.first = fst r 0
  last : A.last = lst r 0
  e : A.e = emp r
  fol : ∀ x y, (∃ q ∈ A.T.leads, x ∈ A.T.grp q.1 ∧ y ∈ A.T.grp q.2) ↔ Fol r 0 x y
theorem auOf_ok (r : Re) : AuOk r (auOf r) := by
  have h := add_grown r tb0
  have h1 := h.up.sets
  obtain ⟨ls, e1, _, _, e2⟩ := h.up.leads
  refine ⟨by simpa [auOf, tb0] using h1, grp_of h.f, grp_of h.l, h.e, fun x y => ?_⟩
  have : (auOf r).T.leads = ls := by simpa [auOf, tb0] using e1
  rw [this]
  exact e2 x y
section
variable {r : Re} {A : Au}
/-- The byte c is one of place p's. -/
def labR (r : Re) (p : Nat) (c : UInt8) : Prop := p < sz r ∧ hasS ((ones r).getD p st0) c.toNat = true
theorem labR_ok (r : Re) : Lab (labR r) r 0 := fun i s hi c => by
  have := lt_of_get hi
  rw [ones_len] at this
  simp [labR, Nat.zero_add, List.getD, hi, this]
theorem to_iff (ok : AuOk r A) (at_ : List Bool) (b : Bool) (q : Nat) : toB A at_ b q = true ↔ (b = true ∧ q ∈ fst r 0) ∨ ∃ p, at_.getD p false = true ∧ Fol r 0 p q := by
  unfold toB
  rw [Bool.or_eq_true, Bool.and_eq_true, ok.first, List.contains_iff_mem, List.any_eq_true]
  constructor
  · rintro (h | ⟨p, hp, h⟩)
    · exact .inl h
    · rw [Bool.and_eq_true, any_iff, List.contains_iff_mem] at h
      obtain ⟨⟨x, h1, h2⟩, h3⟩ := h
      exact .inr ⟨x, h2, (ok.fol x q).1 ⟨p, hp, h1, h3⟩⟩
  · rintro (h | ⟨x, h2, h3⟩)
    · exact .inl h
    · obtain ⟨p, hp, h1, h3⟩ := (ok.fol x q).2 h3
      exact .inr ⟨p, hp, by rw [Bool.and_eq_true, any_iff, List.contains_iff_mem]; exact ⟨⟨x, h1, h2⟩, h3⟩⟩
theorem stepB_iff (ok : AuOk r A) (at_ : List Bool) (c : UInt8) (b : Bool) (q : Nat) : (stepB A at_ c b).getD q false = true ↔ labR r q c ∧ ((b = true ∧ q ∈ fst r 0) ∨ ∃ p, at_.getD p false = true ∧ Fol r 0 p q) := by
  rw [step_get, Bool.and_eq_true, Bool.and_eq_true, to_iff ok, decide_eq_true_eq, ok.sets, ones_len]
  unfold labR
  constructor
  · rintro ⟨h1, h2, h3⟩; exact ⟨⟨h1, h3⟩, h2⟩
  · rintro ⟨⟨h1, h3⟩, h2⟩; exact ⟨h1, h2, h3⟩
theorem run_iff (ok : AuOk r A) (c : UInt8) : ∀ (n : Nat) (s : List UInt8), s.length = n → ∀ q, (runB A (c :: s)).getD q false = true ↔ ∃ p, p ∈ fst r 0 ∧ labR r p c ∧ Path (labR r) (Fol r 0) p s q
  | 0, s, hs, q => by
    obtain rfl : s = [] := List.eq_nil_of_length_eq_zero hs
    have := stepB_iff ok [] c true q
    rw [show runB A [c] = stepB A [] c true from rfl, this]
    constructor
    · rintro ⟨h1, ⟨_, h2⟩ | ⟨p, h2, _⟩⟩
      · exact ⟨q, h2, h1, rfl⟩
      · simp at h2
    · rintro ⟨p, h1, h2, h3⟩
      obtain rfl : p = q := h3
      exact ⟨h2, .inl ⟨rfl, h1⟩⟩
  | n + 1, s, hs, q => by
    have hne : s ≠ [] := by rintro rfl; cases hs
    obtain ⟨t, d, rfl⟩ : ∃ t d, s = t ++ [d] := ⟨s.dropLast, s.getLast hne, (List.dropLast_concat_getLast hne).symm⟩
    have ht : t.length = n := by simpa using hs
    have ih := run_iff ok c n t ht
    rw [show c :: (t ++ [d]) = (c :: t) ++ [d] from rfl, run_snoc, stepB_iff ok]
    constructor
    · rintro ⟨h1, ⟨h2, _⟩ | ⟨p, h2, h3⟩⟩
      · cases h2
      · obtain ⟨x, k1, k2, k3⟩ := (ih p).1 h2
        exact ⟨x, k1, k2, Path.snoc.2 ⟨p, k3, h3, h1⟩⟩
    · rintro ⟨x, k1, k2, k3⟩
      obtain ⟨p, h1, h2, h3⟩ := Path.snoc.1 k3
      exact ⟨h3, .inr ⟨p, (ih p).2 ⟨x, k1, k2, h1⟩, h2⟩⟩
theorem fits_iff (ok : AuOk r A) (s : List UInt8) : fitsB A s = true ↔ Mt r s := by
  rw [← way_iff r 0 (labR_ok r) s]
  unfold fitsB
  cases s with
  | nil => simp [Way, ok.e]
  | cons c s =>
    rw [show (c :: s).isEmpty = false from rfl]
    simp only [Bool.false_eq_true, if_false]
    rw [any_iff, ok.last]
    constructor
    · rintro ⟨q, hq, h⟩
      obtain ⟨p, h1, h2, h3⟩ := (run_iff ok c _ s rfl q).1 h
      exact ⟨p, q, h1, h2, h3, hq⟩
    · rintro ⟨p, q, h1, h2, h3, hq⟩
      exact ⟨q, hq, (run_iff ok c _ s rfl q).2 ⟨p, h1, h2, h3⟩⟩
end


theorem mt_thn {a b : Re} {s : List UInt8} : Mt (.thn a b) s ↔ ∃ k, k ≤ s.length ∧ Mt a (s.take k) ∧ Mt b (s.drop k) := by
  constructor
  · rintro ⟨u, v, rfl, h1, h2⟩
    exact ⟨u.length, by simp, by simpa using h1, by simpa using h2⟩
  · rintro ⟨k, hk, h1, h2⟩
    exact ⟨s.take k, s.drop k, (List.take_append_drop k s).symm, h1, h2⟩
theorem mt_star {a : Re} {s : List UInt8} (hs : s ≠ []) : Mt (.star a) s ↔ ∃ k, 1 ≤ k ∧ k ≤ s.length ∧ Mt a (s.take k) ∧ Mt (.star a) (s.drop k) := by
  constructor
  · rintro ⟨us, rfl, h⟩
    induction us with
    | nil => exact absurd rfl hs
    | cons u us ih =>
      cases u with
      | nil =>
        have e : (([] : List UInt8) :: us).flatten = us.flatten := by simp
        rw [e] at hs ⊢
        exact ih (fun v hv => h v (by simp [hv])) hs
      | cons c u =>
        refine ⟨(c :: u).length, by simp, by simp, by simpa using h (c :: u) (by simp), us, by simp, fun v hv => h v (by simp [hv])⟩
  · rintro ⟨k, _, hk, h1, us, h2, h3⟩
    refine ⟨s.take k :: us, ?_, fun u hu => ?_⟩
    · rw [List.flatten_cons, ← h2, List.take_append_drop]
    · rcases List.mem_cons.1 hu with rfl | hu
      · exact h1
      · exact h3 u hu


/-- A pattern, and at each of its sets whether the byte that was read last was a text's of it. -/
inductive Pt
  | nil
  | one (s : St) (x : Bool)
  | thn (a b : Pt)
  | alt (a b : Pt)
  | star (a : Pt)
def ini : Re → Pt
  | .nil => .nil
  | .one s => .one s false
  | .thn a b => .thn (ini a) (ini b)
  | .alt a b => .alt (ini a) (ini b)
  | .star a => .star (ini a)
def em : Pt → Bool
  | .nil => true
  | .one _ _ => false
  | .thn a b => em a && em b
  | .alt a b => em a || em b
  | .star _ => true
def lv : Pt → Bool
  | .nil => false
  | .one _ x => x
  | .thn a b => lv a || lv b
  | .alt a b => lv a || lv b
  | .star a => lv a
def en : Pt → Bool
  | .nil => false
  | .one _ x => x
  | .thn a b => en b || em b && en a
  | .alt a b => en a || en b
  | .star a => en a
def stp : Pt → UInt8 → Bool → Pt
  | .nil, _, _ => .nil
  | .one s _, c, g => .one s (g && hasS s c.toNat)
  | .thn a b, c, g => .thn (stp a c g) (stp b c (en a || g && em a))
  | .alt a b, c, g => .alt (stp a c g) (stp b c g)
  | .star a, c, g => .star (stp a c (g || en a))
theorem em_ini : ∀ r, em (ini r) = emp r
  | .nil => rfl
  | .one _ => rfl
  | .thn a b => by simp [ini, em, emp, em_ini a, em_ini b]
  | .alt a b => by simp [ini, em, emp, em_ini a, em_ini b]
  | .star _ => rfl
theorem em_stp : ∀ (t : Pt) (c : UInt8) (g : Bool), em (stp t c g) = em t
  | .nil, _, _ => rfl
  | .one _ _, _, _ => rfl
  | .thn a b, c, g => by simp [stp, em, em_stp a, em_stp b]
  | .alt a b, c, g => by simp [stp, em, em_stp a, em_stp b]
  | .star _, _, _ => rfl
theorem lv_ini : ∀ r, lv (ini r) = false
  | .nil => rfl
  | .one _ => rfl
  | .thn a b => by simp [ini, lv, lv_ini a, lv_ini b]
  | .alt a b => by simp [ini, lv, lv_ini a, lv_ini b]
  | .star a => by simp [ini, lv, lv_ini a]
theorem en_lv : ∀ (t : Pt), lv t = false → en t = false
  | .nil, _ => rfl
  | .one _ _, h => h
  | .thn a b, h => by
    simp only [lv, Bool.or_eq_false_iff] at h
    simp [en, en_lv a h.1, en_lv b h.2]
  | .alt a b, h => by
    simp only [lv, Bool.or_eq_false_iff] at h
    simp [en, en_lv a h.1, en_lv b h.2]
  | .star a, h => en_lv a h
theorem en_ini (r : Re) : en (ini r) = false := en_lv _ (lv_ini r)
/-- Where nothing is under way, and nothing begins, all stays. -/
theorem stp_dead : ∀ (t : Pt) (c : UInt8), lv t = false → stp t c false = t
  | .nil, _, _ => rfl
  | .one _ x, _, h => by
    obtain rfl : x = false := h
    rfl
  | .thn a b, c, h => by
    simp only [lv, Bool.or_eq_false_iff] at h
    simp [stp, en_lv a h.1, stp_dead a c h.1, stp_dead b c h.2]
  | .alt a b, c, h => by
    simp only [lv, Bool.or_eq_false_iff] at h
    simp [stp, stp_dead a c h.1, stp_dead b c h.2]
  | .star a, c, h => by
    simp only [lv] at h
    simp [stp, en_lv a h, stp_dead a c h]

/-! ### Bytes, one behind the other; with each whether a text may begin with it -/
def runP (t : Pt) (l : List (UInt8 × Bool)) : Pt := l.foldl (fun t x => stp t x.1 x.2) t
theorem runP_snoc (t : Pt) (l : List (UInt8 × Bool)) (c : UInt8) (g : Bool) : runP t (l ++ [(c, g)]) = stp (runP t l) c g := by simp [runP]
theorem em_run : ∀ (l : List (UInt8 × Bool)) (t : Pt), em (runP t l) = em t
  | [], _ => rfl
  | x :: l, t => by
    show em (runP (stp t x.1 x.2) l) = _
    rw [em_run l, em_stp]
theorem run_dead : ∀ (s : List UInt8) (t : Pt), lv t = false → runP t (s.map fun c => (c, false)) = t
  | [], _, _ => rfl
  | c :: s, t, h => by
    show runP (stp t c false) (s.map fun c => (c, false)) = t
    rw [stp_dead t c h, run_dead s t h]
def nx_ : Pt → List (UInt8 × Bool) → List (UInt8 × Bool)
  | _, [] => []
  | t, (c, g) :: l => (c, en t || g && em t) :: nx_ (stp t c g) l
def sx_ : Pt → List (UInt8 × Bool) → List (UInt8 × Bool)
  | _, [] => []
  | t, (c, g) :: l => (c, g || en t) :: sx_ (stp t c (g || en t)) l
theorem nx_fst : ∀ (l : List (UInt8 × Bool)) (t : Pt), (nx_ t l).map Prod.fst = l.map Prod.fst
  | [], _ => rfl
  | (c, g) :: l, t => by simp [nx_, nx_fst l]
theorem sx_fst : ∀ (l : List (UInt8 × Bool)) (t : Pt), (sx_ t l).map Prod.fst = l.map Prod.fst
  | [], _ => rfl
  | (c, g) :: l, t => by simp [sx_, sx_fst l]
theorem run_thn : ∀ (l : List (UInt8 × Bool)) (a b : Pt), runP (.thn a b) l = .thn (runP a l) (runP b (nx_ a l))
  | [], _, _ => rfl
  | (c, g) :: l, a, b => by
    show runP (.thn (stp a c g) (stp b c (en a || g && em a))) l = _
    rw [run_thn l]
    rfl
theorem run_alt : ∀ (l : List (UInt8 × Bool)) (a b : Pt), runP (.alt a b) l = .alt (runP a l) (runP b l)
  | [], _, _ => rfl
  | (c, g) :: l, a, b => by
    show runP (.alt (stp a c g) (stp b c g)) l = _
    rw [run_alt l]
    rfl
theorem run_star : ∀ (l : List (UInt8 × Bool)) (a : Pt), runP (.star a) l = .star (runP a (sx_ a l))
  | [], _ => rfl
  | (c, g) :: l, a => by
    show runP (.star (stp a c (g || en a))) l = _
    rw [run_star l]
    rfl
theorem run_nil : ∀ (l : List (UInt8 × Bool)), runP .nil l = .nil
  | [] => rfl
  | x :: l => run_nil l
theorem nx_get : ∀ (l : List (UInt8 × Bool)) (t : Pt) (j : Nat), (nx_ t l)[j]? = (l[j]?).map fun x => (x.1, en (runP t (l.take j)) || x.2 && em t)
  | [], _, _ => by simp [nx_]
  | (c, g) :: l, t, 0 => by simp [nx_, runP]
  | (c, g) :: l, t, j + 1 => by
    simp only [nx_, List.getElem?_cons_succ, List.take_succ_cons]
    rw [nx_get l, em_stp]
    rfl
theorem sx_get : ∀ (l : List (UInt8 × Bool)) (t : Pt) (j : Nat), (sx_ t l)[j]? = (l[j]?).map fun x => (x.1, x.2 || en (runP (.star t) (l.take j)))
  | [], _, _ => by simp [sx_]
  | (c, g) :: l, t, 0 => by simp [sx_, runP, en]
  | (c, g) :: l, t, j + 1 => by
    simp only [sx_, List.getElem?_cons_succ, List.take_succ_cons]
    rw [sx_get l]
    rfl

/-! ### What ends with the last byte -/
/-- Some text that may begin, and that ends with the last byte, fits. -/
def Fit (r : Re) (l : List (UInt8 × Bool)) : Prop := ∃ j, (∃ x, l[j]? = some x ∧ x.2 = true) ∧ Mt r ((l.drop j).map Prod.fst)
theorem get_lt {α : Type} {l : List α} {j : Nat} {x : α} (h : l[j]? = some x) : j < l.length := by
  rcases Nat.lt_or_ge j l.length with hl | hl
  · exact hl
  · rw [List.getElem?_eq_none hl] at h; cases h
theorem mt_nil (r : Re) : Mt r [] ↔ emp r = true := by
  rw [← way_iff r 0 (labR_ok r) []]
  exact Iff.rfl
theorem mt_star_snoc {a : Re} {u v : List UInt8} (h : Mt (.star a) u) (k : Mt a v) : Mt (.star a) (u ++ v) := by
  obtain ⟨us, rfl, hu⟩ := h
  refine ⟨us ++ [v], by simp, fun x hx => ?_⟩
  rcases List.mem_append.1 hx with hx | hx
  · exact hu x hx
  · obtain rfl : x = v := by simpa using hx
    exact k
theorem mt_star_last_aux {a : Re} : ∀ (n : Nat) (us : List (List UInt8)), us.length = n → us.flatten ≠ [] → (∀ u ∈ us, Mt a u) → ∃ k, k < us.flatten.length ∧ Mt (.star a) (us.flatten.take k) ∧ Mt a (us.flatten.drop k)
  | 0, us, hn, hs, _ => by
    obtain rfl : us = [] := List.eq_nil_of_length_eq_zero hn
    exact absurd rfl hs
  | n + 1, us, hn, hs, h => by
    rcases List.eq_nil_or_concat us with rfl | ⟨vs, u, rfl⟩
    · cases hn
    · rw [List.concat_eq_append] at *
      have hvs : vs.length = n := by simpa using hn
      have e : (vs ++ [u]).flatten = vs.flatten ++ u := by simp
      rw [e] at hs ⊢
      have hv : ∀ x ∈ vs, Mt a x := fun x hx => h x (List.mem_append_left _ hx)
      by_cases hu : u = []
      · subst hu
        rw [List.append_nil] at hs ⊢
        exact mt_star_last_aux n vs hvs hs hv
      · refine ⟨vs.flatten.length, ?_, ?_, ?_⟩
        · have : 0 < u.length := List.length_pos_iff.2 hu
          rw [List.length_append]; omega
        · rw [List.take_left]
          exact ⟨vs, rfl, hv⟩
        · rw [List.drop_left]
          exact h u (by simp)
theorem mt_star_last {a : Re} {s : List UInt8} (hs : s ≠ []) (h : Mt (.star a) s) : ∃ k, k < s.length ∧ Mt (.star a) (s.take k) ∧ Mt a (s.drop k) := by
  obtain ⟨us, rfl, hu⟩ := h
  exact mt_star_last_aux _ us rfl hs hu
theorem take_drop_fst (l : List (UInt8 × Bool)) (i k : Nat) : ((l.take (i + k)).drop i).map Prod.fst = ((l.drop i).map Prod.fst).take k := by
  rw [← List.map_take, List.take_drop]
theorem drop_drop_fst (l : List (UInt8 × Bool)) (i k : Nat) : (l.drop (i + k)).map Prod.fst = ((l.drop i).map Prod.fst).drop k := by
  rw [← List.map_drop, List.drop_drop]
theorem split_at (l : List (UInt8 × Bool)) (i j : Nat) (h : i ≤ j) : ((l.take j).drop i).map Prod.fst ++ (l.drop j).map Prod.fst = (l.drop i).map Prod.fst := by
  obtain ⟨k, rfl⟩ := Nat.exists_eq_add_of_le h
  rw [take_drop_fst, drop_drop_fst, List.take_append_drop]
theorem take_get {l : List (UInt8 × Bool)} {i j : Nat} (h : i < j) : (l.take j)[i]? = l[i]? := by rw [List.getElem?_take_of_lt h]
theorem nx_drop (l : List (UInt8 × Bool)) (t : Pt) (i : Nat) : ((nx_ t l).drop i).map Prod.fst = (l.drop i).map Prod.fst := by
  rw [List.map_drop, nx_fst, List.map_drop]
theorem sx_drop (l : List (UInt8 × Bool)) (t : Pt) (i : Nat) : ((sx_ t l).drop i).map Prod.fst = (l.drop i).map Prod.fst := by
  rw [List.map_drop, sx_fst, List.map_drop]
def EnSpec (r : Re) : Prop := ∀ l, en (runP (ini r) l) = true ↔ Fit r l
theorem en_nil : EnSpec .nil := fun l => by
  rw [show ini .nil = .nil from rfl, run_nil]
  constructor
  · intro h; cases h
  · rintro ⟨j, ⟨x, hx, _⟩, h⟩
    have := get_lt hx
    have h0 : ((l.drop j).map Prod.fst).length = 0 := by
      rw [show (l.drop j).map Prod.fst = [] from h]; rfl
    simp at h0
    omega
theorem en_one (s : St) : EnSpec (.one s) := fun l => by
  rcases List.eq_nil_or_concat l with rfl | ⟨k, ⟨c, g⟩, rfl⟩
  · constructor
    · intro h; cases h
    · rintro ⟨j, ⟨x, hx, _⟩, _⟩; simp at hx
  · rw [List.concat_eq_append, runP_snoc]
    have hsh : ∀ (k : List (UInt8 × Bool)) (x : Bool), ∃ y, runP (.one s x) k = .one s y := by
      intro k
      induction k with
      | nil => intro x; exact ⟨x, rfl⟩
      | cons z k ih => intro x; exact ih _
    obtain ⟨y, hy⟩ := hsh k false
    rw [show ini (.one s) = .one s false from rfl, hy]
    show (g && hasS s c.toNat) = true ↔ _
    rw [Bool.and_eq_true]
    constructor
    · rintro ⟨hg, hc⟩
      exact ⟨k.length, ⟨(c, g), by simp, hg⟩, c, by simp, hc⟩
    · rintro ⟨j, ⟨x, hx, hx2⟩, d, hd, hds⟩
      have hlen : ((k ++ [(c, g)]).drop j).length = 1 := by
        have := congrArg List.length hd
        simpa using this
      have hj : j = k.length := by
        have := get_lt hx
        simp at hlen this
        omega
      subst hj
      simp at hx hd
      subst hx
      subst hd
      exact ⟨hx2, hds⟩
theorem en_alt {a b : Re} (HA : EnSpec a) (HB : EnSpec b) : EnSpec (.alt a b) := fun l => by
  rw [show ini (.alt a b) = .alt (ini a) (ini b) from rfl, run_alt]
  show (en (runP (ini a) l) || en (runP (ini b) l)) = true ↔ _
  rw [Bool.or_eq_true, HA, HB]
  constructor
  · rintro (⟨j, h1, h2⟩ | ⟨j, h1, h2⟩)
    · exact ⟨j, h1, .inl h2⟩
    · exact ⟨j, h1, .inr h2⟩
  · rintro ⟨j, h1, h2 | h2⟩
    · exact .inl ⟨j, h1, h2⟩
    · exact .inr ⟨j, h1, h2⟩
theorem en_thn {a b : Re} (HA : EnSpec a) (HB : EnSpec b) : EnSpec (.thn a b) := fun l => by
  rw [show ini (.thn a b) = .thn (ini a) (ini b) from rfl, run_thn]
  show (en (runP (ini b) (nx_ (ini a) l)) || em (runP (ini b) (nx_ (ini a) l)) && en (runP (ini a) l)) = true ↔ _
  rw [em_run, em_ini, Bool.or_eq_true, Bool.and_eq_true, HA, HB]
  constructor
  · rintro (⟨i, ⟨x, hx, hx2⟩, hb⟩ | ⟨he, ⟨j, h1, h2⟩⟩)
    · rw [nx_get] at hx
      obtain ⟨y, hy, rfl⟩ := Option.map_eq_some_iff.1 hx
      rw [nx_drop] at hb
      rw [Bool.or_eq_true, HA, Bool.and_eq_true, em_ini] at hx2
      rcases hx2 with ⟨j, ⟨z, hz, hz2⟩, ha⟩ | ⟨hy2, he⟩
      · have hji : j < i := by
          have := get_lt hz
          simp at this
          omega
        rw [take_get hji] at hz
        exact ⟨j, ⟨z, hz, hz2⟩, _, _, (split_at l j i (by omega)).symm, ha, hb⟩
      · exact ⟨i, ⟨y, hy, hy2⟩, [], _, rfl, (mt_nil a).2 he, hb⟩
    · exact ⟨j, h1, _, [], by simp, h2, (mt_nil b).2 he⟩
  · rintro ⟨j, ⟨x, hx, hx2⟩, h⟩
    obtain ⟨k, hk, ha, hb⟩ := mt_thn.1 h
    rcases Nat.eq_or_lt_of_le hk with hk | hk
    · refine .inr ⟨?_, j, ⟨x, hx, hx2⟩, ?_⟩
      · rw [List.drop_of_length_le (by omega)] at hb
        exact (mt_nil b).1 hb
      · rw [List.take_of_length_le (by omega)] at ha
        exact ha
    · have hlt : j + k < l.length := by
        simp at hk
        omega
      obtain ⟨y, hy⟩ : ∃ y, l[j + k]? = some y := ⟨_, List.getElem?_eq_getElem hlt⟩
      refine .inl ⟨j + k, ⟨(y.1, en (runP (ini a) (l.take (j + k))) || y.2 && em (ini a)), by rw [nx_get, hy]; rfl, ?_⟩, ?_⟩
      · show (en (runP (ini a) (l.take (j + k))) || y.2 && em (ini a)) = true
        rw [Bool.or_eq_true, Bool.and_eq_true, HA, em_ini]
        rcases Nat.eq_zero_or_pos k with h0 | h0
        · subst h0
          rw [Nat.add_zero, hx] at hy
          obtain rfl := Option.some.inj hy
          exact .inr ⟨hx2, (mt_nil a).1 (by simpa using ha)⟩
        · exact .inl ⟨j, ⟨x, by rw [take_get (by omega)]; exact hx, hx2⟩, by rw [take_drop_fst]; exact ha⟩
      · rw [nx_drop, drop_drop_fst]
        exact hb
theorem en_star {a : Re} (HA : EnSpec a) : ∀ (n : Nat) (l : List (UInt8 × Bool)), l.length ≤ n → (en (runP (ini (.star a)) l) = true ↔ Fit (.star a) l)
  | n, l, hn => by
    rw [show ini (.star a) = .star (ini a) from rfl, run_star]
    show en (runP (ini a) (sx_ (ini a) l)) = true ↔ _
    rw [HA]
    constructor
    · rintro ⟨j, ⟨x, hx, hx2⟩, h⟩
      rw [sx_get] at hx
      obtain ⟨y, hy, rfl⟩ := Option.map_eq_some_iff.1 hx
      rw [sx_drop] at h
      have hj := get_lt hy
      rw [Bool.or_eq_true] at hx2
      rcases hx2 with hy2 | he
      · exact ⟨j, ⟨y, hy, hy2⟩, [(l.drop j).map Prod.fst], by rw [List.flatten_cons, List.flatten_nil, List.append_nil], fun u hu => by
          obtain rfl := List.mem_singleton.1 hu
          exact h⟩
      · match n, hn with
        | 0, hn => omega
        | n + 1, hn =>
          obtain ⟨i, ⟨z, hz, hz2⟩, hs⟩ := (en_star HA n (l.take j) (by simp; omega)).1 he
          have hij : i < j := by
            have := get_lt hz
            simp at this
            omega
          rw [take_get hij] at hz
          refine ⟨i, ⟨z, hz, hz2⟩, ?_⟩
          rw [← split_at l i j (by omega)]
          exact mt_star_snoc hs h
    · rintro ⟨i, ⟨x, hx, hx2⟩, h⟩
      have hi := get_lt hx
      have hne : (l.drop i).map Prod.fst ≠ [] := by
        intro e
        have := congrArg List.length e
        simp at this
        omega
      obtain ⟨k, hk, h1, h2⟩ := mt_star_last hne h
      have hlt : i + k < l.length := by
        simp at hk
        omega
      obtain ⟨y, hy⟩ : ∃ y, l[i + k]? = some y := ⟨_, List.getElem?_eq_getElem hlt⟩
      refine ⟨i + k, ⟨(y.1, y.2 || en (runP (.star (ini a)) (l.take (i + k)))), by rw [sx_get, hy]; rfl, ?_⟩, ?_⟩
      · show (y.2 || en (runP (.star (ini a)) (l.take (i + k)))) = true
        rw [Bool.or_eq_true]
        rcases Nat.eq_zero_or_pos k with h0 | h0
        · subst h0
          rw [Nat.add_zero, hx] at hy
          obtain rfl := Option.some.inj hy
          exact .inl hx2
        · match n, hn with
          | 0, hn => omega
          | n + 1, hn =>
            exact .inr ((en_star HA n (l.take (i + k)) (by simp; omega)).2 ⟨i, ⟨x, by rw [take_get (by omega)]; exact hx, hx2⟩, by rw [take_drop_fst]; exact h1⟩)
      · rw [sx_drop, drop_drop_fst]
        exact h2
theorem en_run : ∀ r, EnSpec r
  | .nil => en_nil
  | .one s => en_one s
  | .thn a b => en_thn (en_run a) (en_run b)
  | .alt a b => en_alt (en_run a) (en_run b)
  | .star a => fun l => en_star (en_run a) l.length l (Nat.le_refl _)

/-! ### Where a pattern ends -/
def mtB (r : Re) (s : List UInt8) : Bool := fitsB (auOf r) s
theorem mtB_iff (r : Re) (s : List UInt8) : mtB r s = true ↔ Mt r s := fits_iff (auOf_ok r) s
theorem mtB_nil (r : Re) : mtB r [] = emp r := by
  rw [Bool.eq_iff_iff, mtB_iff, mt_nil]
/-- The bytes of a text, which begins with the first one alone. -/
def flA : List UInt8 → List (UInt8 × Bool)
  | [] => []
  | c :: s => (c, true) :: s.map fun c => (c, false)
/-- .. which may begin with each. -/
def flE (s : List UInt8) : List (UInt8 × Bool) := s.map fun c => (c, true)
theorem flA_snoc (s : List UInt8) (c : UInt8) : flA (s ++ [c]) = flA s ++ [(c, s.isEmpty)] := by
  cases s <;> simp [flA]
theorem flA_more (s u : List UInt8) (hs : s ≠ []) : flA (s ++ u) = flA s ++ u.map fun c => (c, false) := by
  cases s with
  | nil => exact absurd rfl hs
  | cons c s => simp [flA]
theorem flA_fst (s : List UInt8) : (flA s).map Prod.fst = s := by
  cases s with
  | nil => rfl
  | cons c s =>
    show c :: ((s.map fun c => (c, false)).map Prod.fst) = c :: s
    rw [List.map_map]
    congr 1
    exact List.map_id s
theorem flE_fst (s : List UInt8) : (flE s).map Prod.fst = s := by
  unfold flE
  rw [List.map_map]
  exact List.map_id s
theorem en_flA (r : Re) (s : List UInt8) : en (runP (ini r) (flA s)) = (!s.isEmpty && mtB r s) := by
  rw [Bool.eq_iff_iff, en_run r, Bool.and_eq_true, mtB_iff]
  constructor
  · rintro ⟨j, ⟨x, hx, hx2⟩, h⟩
    cases s with
    | nil => simp [flA] at hx
    | cons c s =>
      cases j with
      | zero => exact ⟨rfl, by rw [List.drop_zero, flA_fst] at h; exact h⟩
      | succ j =>
        simp only [flA, List.getElem?_cons_succ, List.getElem?_map] at hx
        obtain ⟨y, _, rfl⟩ := Option.map_eq_some_iff.1 hx
        cases hx2
  · rintro ⟨h1, h2⟩
    cases s with
    | nil => cases h1
    | cons c s => exact ⟨0, ⟨(c, true), rfl, rfl⟩, by rw [List.drop_zero, flA_fst]; exact h2⟩
theorem en_flE (r : Re) (s : List UInt8) : en (runP (ini r) (flE s)) = true ↔ ∃ j, j < s.length ∧ Mt r (s.drop j) := by
  rw [en_run r]
  have e : ∀ j, ((flE s).drop j).map Prod.fst = s.drop j := fun j => by rw [List.map_drop, flE_fst]
  constructor
  · rintro ⟨j, ⟨x, hx, _⟩, h⟩
    rw [e] at h
    exact ⟨j, by have := get_lt hx; simpa [flE] using this, h⟩
  · rintro ⟨j, hj, h⟩
    exact ⟨j, ⟨(s[j], true), by simp [flE, List.getElem?_map, List.getElem?_eq_getElem hj], rfl⟩, by rw [e]; exact h⟩
/-- The bytes from one place to another one. -/
def mid (s : List UInt8) (f k : Nat) : List UInt8 := (s.take k).drop f
theorem mid_self (s : List UInt8) (f : Nat) : mid s f f = [] := by
  unfold mid
  exact List.drop_of_length_le (by simp; omega)
theorem mid_len {s : List UInt8} {f k : Nat} (hk : k ≤ s.length) : (mid s f k).length = k - f := by simp [mid]; omega
theorem mid_snoc {s : List UInt8} {f k : Nat} {c : UInt8} (hf : f ≤ k) (hc : s[k]? = some c) : mid s f (k + 1) = mid s f k ++ [c] := by
  have hk := get_lt hc
  unfold mid
  have e : s.take (k + 1) = s.take k ++ [c] := by
    rw [List.take_succ_eq_append_getElem hk]
    rw [List.getElem?_eq_getElem hk] at hc
    rw [Option.some.inj hc]
  rw [e, List.drop_append_of_le_length (by simp; omega)]
theorem mid_more {s : List UInt8} {f j k : Nat} (hf : f ≤ j) (hj : j ≤ k) (hk : k ≤ s.length) : ∃ u, mid s f k = mid s f j ++ u := by
  refine ⟨(s.take k).drop j, ?_⟩
  unfold mid
  have e : s.take k = s.take j ++ (s.take k).drop j := by
    have := List.take_append_drop j (s.take k)
    rw [List.take_take, Nat.min_eq_left hj] at this
    exact this.symm
  conv => lhs; rw [e]
  rw [List.drop_append_of_le_length (by simp; omega)]
/-- The places up to k at which it ends, that began at f. -/
def endsTo (r : Re) (s : List UInt8) (f k : Nat) : List Nat := (List.range' f (k + 1 - f)).filter fun i => mtB r (mid s f i)
def endsL (r : Re) (s : List UInt8) (f : Nat) : List Nat := endsTo r s f s.length
theorem endsTo_start (r : Re) (s : List UInt8) (f : Nat) : endsTo r s f f = if emp r then [f] else [] := by
  unfold endsTo
  rw [show f + 1 - f = 1 by omega]
  simp only [List.range'_one, List.filter_cons, List.filter_nil]
  rw [mid_self, mtB_nil]
theorem endsTo_succ (r : Re) (s : List UInt8) {f k : Nat} (hf : f ≤ k) : endsTo r s f (k + 1) = endsTo r s f k ++ (if mtB r (mid s f (k + 1)) then [k + 1] else []) := by
  unfold endsTo
  rw [show k + 1 + 1 - f = (k + 1 - f) + 1 by omega, List.range'_1_concat, List.filter_append]
  congr 1
  rw [show f + (k + 1 - f) = k + 1 by omega]
  simp only [List.filter_cons, List.filter_nil]
theorem endsTo_same (r : Re) (s : List UInt8) {f : Nat} : ∀ (d k : Nat), f ≤ k → (∀ i, k < i → i ≤ k + d → mtB r (mid s f i) = false) → endsTo r s f (k + d) = endsTo r s f k
  | 0, k, _, _ => rfl
  | d + 1, k, hf, h => by
    rw [← Nat.add_assoc, endsTo_succ r s (by omega), h (k + d + 1) (by omega) (by omega)]
    simp
    exact endsTo_same r s d k hf fun i h1 h2 => h i h1 (by omega)
/-- Where nothing is under way nothing more ends. -/
theorem ends_dead {r : Re} {s : List UInt8} {f k : Nat} (hf : f < k) (hk : k ≤ s.length) (h : lv (runP (ini r) (flA (mid s f k))) = false) : endsL r s f = endsTo r s f k := by
  have hd : ∀ i, k < i → i ≤ k + (s.length - k) → mtB r (mid s f i) = false := fun i h1 h2 => by
    obtain ⟨u, hu⟩ := mid_more (s := s) (f := f) (j := k) (k := i) (by omega) (by omega) (by omega)
    have hne : mid s f k ≠ [] := by
      intro e
      have := mid_len (s := s) (f := f) (k := k) hk
      rw [e] at this
      simp at this
      omega
    have h3 := en_flA r (mid s f i)
    have h4 : (mid s f i).isEmpty = false := by
      cases hm : mid s f i with
      | nil =>
        have := mid_len (s := s) (f := f) (k := i) (by omega)
        rw [hm] at this
        simp at this
        omega
      | cons c l => rfl
    rw [h4] at h3
    rw [hu, flA_more _ _ hne] at h3
    have h5 : runP (ini r) (flA (mid s f k) ++ u.map fun c => (c, false)) = runP (ini r) (flA (mid s f k)) := by
      unfold runP
      rw [List.foldl_append]
      exact run_dead u _ h
    rw [h5, en_lv _ h] at h3
    rw [hu]
    simpa using h3.symm
  have := endsTo_same r s (s.length - k) k (by omega) hd
  rw [show k + (s.length - k) = s.length by omega] at this
  exact this
theorem endsL_mem {r : Re} {s : List UInt8} {f k : Nat} : k ∈ endsL r s f ↔ f ≤ k ∧ k ≤ s.length ∧ Mt r (mid s f k) := by
  unfold endsL endsTo
  rw [List.mem_filter, List.mem_range'_1, mtB_iff]
  constructor
  · rintro ⟨⟨h1, h2⟩, h3⟩; exact ⟨h1, by omega, h3⟩
  · rintro ⟨h1, h2, h3⟩; exact ⟨⟨h1, by omega⟩, h3⟩

/-! ### .. first -/
/-- Some text that ends at k fits. -/
def hitB (r : Re) (s : List UInt8) (k : Nat) : Bool := (List.range (k + 1)).any fun i => mtB r (mid s i k)
theorem hit_iff {r : Re} {s : List UInt8} {k : Nat} : hitB r s k = true ↔ ∃ i, i ≤ k ∧ Mt r (mid s i k) := by
  unfold hitB
  rw [List.any_eq_true]
  constructor
  · rintro ⟨i, hi, h⟩
    rw [mtB_iff] at h
    exact ⟨i, by have := List.mem_range.1 hi; omega, h⟩
  · rintro ⟨i, hi, h⟩
    exact ⟨i, List.mem_range.2 (by omega), (mtB_iff _ _).2 h⟩
theorem hit_zero (r : Re) (s : List UInt8) : hitB r s 0 = emp r := by
  unfold hitB
  simp [mid, mtB_nil]
theorem hit_succ {r : Re} {s : List UInt8} {k : Nat} (hk : k < s.length) (he : emp r = false) : hitB r s (k + 1) = en (runP (ini r) (flE (s.take (k + 1)))) := by
  rw [Bool.eq_iff_iff, en_flE, hit_iff]
  constructor
  · rintro ⟨i, hi, h⟩
    have hne : i ≠ k + 1 := by
      rintro rfl
      rw [mid_self, mt_nil, he] at h
      cases h
    exact ⟨i, by simp; omega, h⟩
  · rintro ⟨i, hi, h⟩
    exact ⟨i, by simp at hi; omega, h⟩
/-- The least place at which one ends; whether there is any. -/
def firstL (r : Re) (s : List UInt8) : Nat × Bool :=
  match (List.range (s.length + 1)).find? (hitB r s) with
  | some k => (k, true)
  | none => (0, false)
theorem first_hit {r : Re} {s : List UInt8} {k : Nat} (hk : k ≤ s.length) (h : hitB r s k = true) (hno : ∀ i, i < k → hitB r s i = false) : firstL r s = (k, true) := by
  have : (List.range (s.length + 1)).find? (hitB r s) = some k := by
    rw [List.find?_range_eq_some]
    exact ⟨h, List.mem_range.2 (by omega), fun j hj => by rw [hno j hj]; rfl⟩
  unfold firstL
  rw [this]
theorem first_none {r : Re} {s : List UInt8} (hno : ∀ i, i ≤ s.length → hitB r s i = false) : firstL r s = (0, false) := by
  have : (List.range (s.length + 1)).find? (hitB r s) = none := by
    rw [List.find?_range_eq_none]
    exact fun j hj => by rw [hno j (by omega)]; rfl
  unfold firstL
  rw [this]


/-- The places behind a text, when one may begin at any byte. -/
def srch (A : Au) (s : List UInt8) : List Bool := s.foldl (fun p c => stepB A p c true) []
theorem srch_snoc (A : Au) (s : List UInt8) (c : UInt8) : srch A (s ++ [c]) = stepB A (srch A s) c true := by simp [srch]
theorem srch_len (A : Au) : ∀ l : List UInt8, (srch A l.reverse).length = if l.isEmpty then 0 else A.T.sets.length
  | [] => rfl
  | c :: l => by rw [List.reverse_cons, srch_snoc, step_len]; rfl
theorem srch_iff {r : Re} {A : Au} (ok : AuOk r A) : ∀ (l : List UInt8) (q : Nat), (srch A l.reverse).getD q false = true ↔ ∃ j, j < l.reverse.length ∧ (runB A (l.reverse.drop j)).getD q false = true
  | [], q => by simp [srch]
  | c :: l, q => by
    have ih := srch_iff ok l
    rw [List.reverse_cons]
    generalize l.reverse = s at *
    rw [srch_snoc, stepB_iff ok]
    have e : ∀ j, j ≤ s.length → ((runB A ((s ++ [c]).drop j)).getD q false = true ↔ (labR r q c ∧ (((s.drop j).isEmpty = true ∧ q ∈ fst r 0) ∨ ∃ p, (runB A (s.drop j)).getD p false = true ∧ Fol r 0 p q))) := by
      intro j hj
      rw [List.drop_append_of_le_length hj, run_snoc, stepB_iff ok]
    constructor
    · rintro ⟨h1, h2⟩
      rcases h2 with ⟨_, h2⟩ | ⟨p, h2, h3⟩
      · refine ⟨s.length, by simp, (e _ (Nat.le_refl _)).2 ⟨h1, .inl ⟨by simp, h2⟩⟩⟩
      · obtain ⟨j, hj, h4⟩ := (ih p).1 h2
        exact ⟨j, by simp; omega, (e j (by omega)).2 ⟨h1, .inr ⟨p, h4, h3⟩⟩⟩
    · rintro ⟨j, hj, h⟩
      have hj' : j ≤ s.length := by simp at hj; omega
      obtain ⟨h1, h2⟩ := (e j hj').1 h
      refine ⟨h1, ?_⟩
      rcases h2 with ⟨_, h2⟩ | ⟨p, h2, h3⟩
      · exact .inl ⟨rfl, h2⟩
      · refine .inr ⟨p, (ih p).2 ⟨j, ?_, h2⟩, h3⟩
        rcases Nat.lt_or_ge j s.length with h | h
        · exact h
        · rw [List.drop_of_length_le h] at h2
          simp [runB] at h2
theorem srch_any {r : Re} {A : Au} (ok : AuOk r A) (s : List UInt8) : anyB (srch A s) A.last = true ↔ ∃ j, j < s.length ∧ Mt r (s.drop j) := by
  obtain ⟨l, rfl⟩ : ∃ l : List UInt8, s = l.reverse := ⟨s.reverse, by simp⟩
  rw [any_iff]
  have f : ∀ j, j < l.reverse.length → (anyB (runB A (l.reverse.drop j)) A.last = true ↔ Mt r (l.reverse.drop j)) := by
    intro j hj
    rw [← fits_iff ok]
    unfold fitsB
    rw [if_neg (by simp only [List.isEmpty_iff]; intro h; rw [List.drop_eq_nil_iff] at h; omega)]
  constructor
  · rintro ⟨p, hp, h⟩
    obtain ⟨j, hj, h2⟩ := (srch_iff ok l p).1 h
    exact ⟨j, hj, (f j hj).1 ((any_iff _ _).2 ⟨p, hp, h2⟩)⟩
  · rintro ⟨j, hj, h⟩
    obtain ⟨p, hp, h2⟩ := (any_iff _ _).1 ((f j hj).2 h)
    exact ⟨p, hp, (srch_iff ok l p).2 ⟨j, hj, h2⟩⟩
/-- Whether a pattern ends with the last byte. -/
def endA (A : Au) (s : List UInt8) : Bool := anyB (srch A s) A.last
theorem end_hit {r : Re} (he : emp r = false) {s : List UInt8} {k : Nat} (hk : k ≤ s.length) : endA (auOf r) (s.take k) = hitB r s k := by
  rw [Bool.eq_iff_iff, hit_iff]
  unfold endA
  rw [srch_any (auOf_ok r)]
  have hl : (s.take k).length = k := by simp; omega
  constructor
  · rintro ⟨j, hj, h⟩
    exact ⟨j, by omega, h⟩
  · rintro ⟨i, hi, h⟩
    refine ⟨i, ?_, h⟩
    rcases Nat.lt_or_ge i (s.take k).length with h' | h'
    · exact h'
    · have e : mid s i k = [] := by unfold mid; exact List.drop_of_length_le h'
      rw [e, mt_nil, he] at h
      cases h
/-- Which of several patterns ends first. -/
def armA : List Au → List UInt8 → Option Nat
  | [], _ => none
  | A :: l, s => if endA A s then some 0 else (armA l s).map (· + 1)
theorem arm_none : ∀ {As : List Au} {s : List UInt8}, armA As s = none ↔ ∀ A ∈ As, endA A s = false
  | [], s => by simp [armA]
  | A :: l, s => by
    unfold armA
    cases h : endA A s
    · have := @arm_none l s
      simp [h, this]
    · simp [h]
theorem arm_some : ∀ {As : List Au} {s : List UInt8} {i : Nat}, armA As s = some i ↔ (∃ A, As[i]? = some A ∧ endA A s = true) ∧ ∀ j A, j < i → As[j]? = some A → endA A s = false
  | [], s, i => by simp [armA]
  | A :: l, s, i => by
    unfold armA
    cases h : endA A s
    · cases i with
      | zero => simp [h]
      | succ i =>
        have := @arm_some l s i
        simp only [Bool.false_eq_true, if_false, Option.map_eq_some_iff, List.getElem?_cons_succ]
        constructor
        · rintro ⟨k, hk, e⟩
          have : k = i := by omega
          subst this
          obtain ⟨h1, h2⟩ := (@arm_some l s k).1 hk
          refine ⟨h1, fun j A' hj hA => ?_⟩
          cases j with
          | zero => simp at hA; subst hA; exact h
          | succ j => exact h2 j A' (by omega) (by simpa using hA)
        · rintro ⟨h1, h2⟩
          exact ⟨i, this.2 ⟨h1, fun j A' hj hA => h2 (j + 1) A' (by omega) (by simpa using hA)⟩, rfl⟩
    · cases i with
      | zero => simp [h]
      | succ i =>
        simp only [if_true, Option.some.injEq]
        constructor
        · intro e; omega
        · rintro ⟨_, h2⟩
          have := h2 0 A (by omega) (by simp)
          rw [h] at this
          cases this
end Go.Proofs.YtgndcgknedmalaaGreatDoor
