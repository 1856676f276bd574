/-
  A pattern that is read along a text, byte by byte, plain: what ends with a byte, and what is under way; where a pattern ends, and where first.
-/
import Derived.Test.YtgidoieppplhpaaDoorNfaParts
namespace Go.Proofs.YtgidoieppplhpaaDoor
set_option linter.unusedVariables false

/-- A pattern, and at each of its sets whether the byte that was read last was a text's of it. -/
inductive Pt
  | nil
  | one (s : St) (x : Bool)
  | thn (a b : Pt)
  | alt (a b : Pt)
  | star (a : Pt)
def ini : Re → Pt
  | .nil => .nil
  | .one s => .one s false
  | .thn a b => .thn (ini a) (ini b)
  | .alt a b => .alt (ini a) (ini b)
  | .star a => .star (ini a)
def em : Pt → Bool
  | .nil => true
  | .one _ _ => false
  | .thn a b => em a && em b
  | .alt a b => em a || em b
  | .star _ => true
def lv : Pt → Bool
  | .nil => false
  | .one _ x => x
  | .thn a b => lv a || lv b
  | .alt a b => lv a || lv b
  | .star a => lv a
def en : Pt → Bool
  | .nil => false
  | .one _ x => x
  | .thn a b => en b || em b && en a
  | .alt a b => en a || en b
  | .star a => en a
def stp : Pt → UInt8 → Bool → Pt
  | .nil, _, _ => .nil
  | .one s _, c, g => .one s (g && hasS s c.toNat)
  | .thn a b, c, g => .thn (stp a c g) (stp b c (en a || g && em a))
  | .alt a b, c, g => .alt (stp a c g) (stp b c g)
  | .star a, c, g => .star (stp a c (g || en a))
theorem em_ini : ∀ r, em (ini r) = emp r
  | .nil => rfl
  | .one _ => rfl
  | .thn a b => by simp [ini, em, emp, em_ini a, em_ini b]
  | .alt a b => by simp [ini, em, emp, em_ini a, em_ini b]
  | .star _ => rfl
theorem em_stp : ∀ (t : Pt) (c : UInt8) (g : Bool), em (stp t c g) = em t
  | .nil, _, _ => rfl
  | .one _ _, _, _ => rfl
  | .thn a b, c, g => by simp [stp, em, em_stp a, em_stp b]
  | .alt a b, c, g => by simp [stp, em, em_stp a, em_stp b]
  | .star _, _, _ => rfl
theorem lv_ini : ∀ r, lv (ini r) = false
  | .nil => rfl
  | .one _ => rfl
  | .thn a b => by simp [ini, lv, lv_ini a, lv_ini b]
  | .alt a b => by simp [ini, lv, lv_ini a, lv_ini b]
  | .star a => by simp [ini, lv, lv_ini a]
theorem en_lv : ∀ (t : Pt), lv t = false → en t = false
  | .nil, _ => rfl
  | .one _ _, h => h
  | .thn a b, h => by
    simp only [lv, Bool.or_eq_false_iff] at h
    simp [en, en_lv a h.1, en_lv b h.2]
  | .alt a b, h => by
    simp only [lv, Bool.or_eq_false_iff] at h
    simp [en, en_lv a h.1, en_lv b h.2]
  | .star a, h => en_lv a h
theorem en_ini (r : Re) : en (ini r) = false := en_lv _ (lv_ini r)
/-- Where nothing is under way, and nothing begins, all stays. -/
theorem stp_dead : ∀ (t : Pt) (c : UInt8), lv t = false → stp t c false = t
  | .nil, _, _ => rfl
  | .one _ x, _, h => by
    obtain rfl : x = false := h
    rfl
  | .thn a b, c, h => by
    simp only [lv, Bool.or_eq_false_iff] at h
    simp [stp, en_lv a h.1, stp_dead a c h.1, stp_dead b c h.2]
  | .alt a b, c, h => by
    simp only [lv, Bool.or_eq_false_iff] at h
    simp [stp, stp_dead a c h.1, stp_dead b c h.2]
  | .star a, c, h => by
    simp only [lv] at h
    simp [stp, en_lv a h, stp_dead a c h]

/-! ### Bytes, one behind the other; with each whether a text may begin with it -/
def runP (t : Pt) (l : List (UInt8 × Bool)) : Pt := l.foldl (fun t x => stp t x.1 x.2) t
theorem runP_snoc (t : Pt) (l : List (UInt8 × Bool)) (c : UInt8) (g : Bool) : runP t (l ++ [(c, g)]) = stp (runP t l) c g := by simp [runP]
theorem em_run : ∀ (l : List (UInt8 × Bool)) (t : Pt), em (runP t l) = em t
  | [], _ => rfl
  | x :: l, t => by
    show em (runP (stp t x.1 x.2) l) = _
    rw [em_run l, em_stp]
theorem run_dead : ∀ (s : List UInt8) (t : Pt), lv t = false → runP t (s.map fun c => (c, false)) = t
  | [], _, _ => rfl
  | c :: s, t, h => by
    show runP (stp t c false) (s.map fun c => (c, false)) = t
    rw [stp_dead t c h, run_dead s t h]
def nx_ : Pt → List (UInt8 × Bool) → List (UInt8 × Bool)
  | _, [] => []
  | t, (c, g) :: l => (c, en t || g && em t) :: nx_ (stp t c g) l
def sx_ : Pt → List (UInt8 × Bool) → List (UInt8 × Bool)
  | _, [] => []
  | t, (c, g) :: l => (c, g || en t) :: sx_ (stp t c (g || en t)) l
theorem nx_fst : ∀ (l : List (UInt8 × Bool)) (t : Pt), (nx_ t l).map Prod.fst = l.map Prod.fst
  | [], _ => rfl
  | (c, g) :: l, t => by simp [nx_, nx_fst l]
theorem sx_fst : ∀ (l : List (UInt8 × Bool)) (t : Pt), (sx_ t l).map Prod.fst = l.map Prod.fst
  | [], _ => rfl
  | (c, g) :: l, t => by simp [sx_, sx_fst l]
theorem run_thn : ∀ (l : List (UInt8 × Bool)) (a b : Pt), runP (.thn a b) l = .thn (runP a l) (runP b (nx_ a l))
  | [], _, _ => rfl
  | (c, g) :: l, a, b => by
    show runP (.thn (stp a c g) (stp b c (en a || g && em a))) l = _
    rw [run_thn l]
    rfl
theorem run_alt : ∀ (l : List (UInt8 × Bool)) (a b : Pt), runP (.alt a b) l = .alt (runP a l) (runP b l)
  | [], _, _ => rfl
  | (c, g) :: l, a, b => by
    show runP (.alt (stp a c g) (stp b c g)) l = _
    rw [run_alt l]
    rfl
theorem run_star : ∀ (l : List (UInt8 × Bool)) (a : Pt), runP (.star a) l = .star (runP a (sx_ a l))
  | [], _ => rfl
  | (c, g) :: l, a => by
    show runP (.star (stp a c (g || en a))) l = _
    rw [run_star l]
    rfl
theorem run_nil : ∀ (l : List (UInt8 × Bool)), runP .nil l = .nil
  | [] => rfl
  | x :: l => run_nil l
theorem nx_get : ∀ (l : List (UInt8 × Bool)) (t : Pt) (j : Nat), (nx_ t l)[j]? = (l[j]?).map fun x => (x.1, en (runP t (l.take j)) || x.2 && em t)
  | [], _, _ => by simp [nx_]
  | (c, g) :: l, t, 0 => by simp [nx_, runP]
  | (c, g) :: l, t, j + 1 => by
    simp only [nx_, List.getElem?_cons_succ, List.take_succ_cons]
    rw [nx_get l, em_stp]
    rfl
theorem sx_get : ∀ (l : List (UInt8 × Bool)) (t : Pt) (j : Nat), (sx_ t l)[j]? = (l[j]?).map fun x => (x.1, x.2 || en (runP (.star t) (l.take j)))
  | [], _, _ => by simp [sx_]
  | (c, g) :: l, t, 0 => by simp [sx_, runP, en]
  | (c, g) :: l, t, j + 1 => by
    simp only [sx_, List.getElem?_cons_succ, List.take_succ_cons]
    rw [sx_get l]
    rfl

/-! ### What ends with the last byte -/
/-- Some text that may begin, and that ends with the last byte, fits. -/
def Fit (r : Re) (l : List (UInt8 × Bool)) : Prop := ∃ j, (∃ x, l[j]? = some x ∧ x.2 = true) ∧ Mt r ((l.drop j).map Prod.fst)
theorem get_lt {α : Type} {l : List α} {j : Nat} {x : α} (h : l[j]? = some x) : j < l.length := by
  rcases Nat.lt_or_ge j l.length with hl | hl
  · exact hl
  · rw [List.getElem?_eq_none hl] at h; cases h
theorem mt_nil (r : Re) : Mt r [] ↔ emp r = true := by
  rw [← way_iff r 0 (labR_ok r) []]
  exact Iff.rfl
theorem mt_star_snoc {a : Re} {u v : List UInt8} (h : Mt (.star a) u) (k : Mt a v) : Mt (.star a) (u ++ v) := by
  obtain ⟨us, rfl, hu⟩ := h
  refine ⟨us ++ [v], by simp, fun x hx => ?_⟩
  rcases List.mem_append.1 hx with hx | hx
  · exact hu x hx
  · obtain rfl : x = v := by simpa using hx
    exact k
theorem mt_star_last_aux {a : Re} : ∀ (n : Nat) (us : List (List UInt8)), us.length = n → us.flatten ≠ [] → (∀ u ∈ us, Mt a u) → ∃ k, k < us.flatten.length ∧ Mt (.star a) (us.flatten.take k) ∧ Mt a (us.flatten.drop k)
  | 0, us, hn, hs, _ => by
    obtain rfl : us = [] := List.eq_nil_of_length_eq_zero hn
    exact absurd rfl hs
  | n + 1, us, hn, hs, h => by
    rcases List.eq_nil_or_concat us with rfl | ⟨vs, u, rfl⟩
    · cases hn
    · rw [List.concat_eq_append] at *
      have hvs : vs.length = n := by simpa using hn
      have e : (vs ++ [u]).flatten = vs.flatten ++ u := by simp
      rw [e] at hs ⊢
      have hv : ∀ x ∈ vs, Mt a x := fun x hx => h x (List.mem_append_left _ hx)
      by_cases hu : u = []
      · subst hu
        rw [List.append_nil] at hs ⊢
        exact mt_star_last_aux n vs hvs hs hv
      · refine ⟨vs.flatten.length, ?_, ?_, ?_⟩
        · have : 0 < u.length := List.length_pos_iff.2 hu
          rw [List.length_append]; omega
        · rw [List.take_left]
          exact ⟨vs, rfl, hv⟩
        · rw [List.drop_left]
          exact h u (by simp)
theorem mt_star_last {a : Re} {s : List UInt8} (hs : s ≠ []) (h : Mt (.star a) s) : ∃ k, k < s.length ∧ Mt (.star a) (s.take k) ∧ Mt a (s.drop k) := by
  obtain ⟨us, rfl, hu⟩ := h
  exact mt_star_last_aux _ us rfl hs hu
theorem take_drop_fst (l : List (UInt8 × Bool)) (i k : Nat) : ((l.take (i + k)).drop i).map Prod.fst = ((l.drop i).map Prod.fst).take k := by
  rw [← List.map_take, List.take_drop]
theorem drop_drop_fst (l : List (UInt8 × Bool)) (i k : Nat) : (l.drop (i + k)).map Prod.fst = ((l.drop i).map Prod.fst).drop k := by
  rw [← List.map_drop, List.drop_drop]
theorem split_at (l : List (UInt8 × Bool)) (i j : Nat) (h : i ≤ j) : ((l.take j).drop i).map Prod.fst ++ (l.drop j).map Prod.fst = (l.drop i).map Prod.fst := by
  obtain ⟨k, rfl⟩ := Nat.exists_eq_add_of_le h
  rw [take_drop_fst, drop_drop_fst, List.take_append_drop]
theorem take_get {l : List (UInt8 × Bool)} {i j : Nat} (h : i < j) : (l.take j)[i]? = l[i]? := by rw [List.getElem?_take_of_lt h]
theorem nx_drop (l : List (UInt8 × Bool)) (t : Pt) (i : Nat) : ((nx_ t l).drop i).map Prod.fst = (l.drop i).map Prod.fst := by
  rw [List.map_drop, nx_fst, List.map_drop]
theorem sx_drop (l : List (UInt8 × Bool)) (t : Pt) (i : Nat) : ((sx_ t l).drop i).map Prod.fst = (l.drop i).map Prod.fst := by
  rw [List.map_drop, sx_fst, List.map_drop]
def EnSpec (r : Re) : Prop := ∀ l, en (runP (ini r) l) = true ↔ Fit r l
theorem en_nil : EnSpec .nil := fun l => by
  rw [show ini .nil = .nil from rfl, run_nil]
  constructor
  · intro h; cases h
  · rintro ⟨j, ⟨x, hx, _⟩, h⟩
    have := get_lt hx
    have h0 : ((l.drop j).map Prod.fst).length = 0 := by
      rw [show (l.drop j).map Prod.fst = [] from h]; rfl
    simp at h0
    omega
theorem en_one (s : St) : EnSpec (.one s) := fun l => by
  rcases List.eq_nil_or_concat l with rfl | ⟨k, ⟨c, g⟩, rfl⟩
  · constructor
    · intro h; cases h
    · rintro ⟨j, ⟨x, hx, _⟩, _⟩; simp at hx
  · rw [List.concat_eq_append, runP_snoc]
    have hsh : ∀ (k : List (UInt8 × Bool)) (x : Bool), ∃ y, runP (.one s x) k = .one s y := by
      intro k
      induction k with
      | nil => intro x; exact ⟨x, rfl⟩
      | cons z k ih => intro x; exact ih _
    obtain ⟨y, hy⟩ := hsh k false
    rw [show ini (.one s) = .one s false from rfl, hy]
    show (g && hasS s c.toNat) = true ↔ _
    rw [Bool.and_eq_true]
    constructor
    · rintro ⟨hg, hc⟩
      exact ⟨k.length, ⟨(c, g), by simp, hg⟩, c, by simp, hc⟩
    · rintro ⟨j, ⟨x, hx, hx2⟩, d, hd, hds⟩
      have hlen : ((k ++ [(c, g)]).drop j).length = 1 := by
        have := congrArg List.length hd
        simpa using this
      have hj : j = k.length := by
        have := get_lt hx
        simp at hlen this
        omega
      subst hj
      simp at hx hd
      subst hx
      subst hd
      exact ⟨hx2, hds⟩
theorem en_alt {a b : Re} (HA : EnSpec a) (HB : EnSpec b) : EnSpec (.alt a b) := fun l => by
  rw [show ini (.alt a b) = .alt (ini a) (ini b) from rfl, run_alt]
  show (en (runP (ini a) l) || en (runP (ini b) l)) = true ↔ _
  rw [Bool.or_eq_true, HA, HB]
  constructor
  · rintro (⟨j, h1, h2⟩ | ⟨j, h1, h2⟩)
    · exact ⟨j, h1, .inl h2⟩
    · exact ⟨j, h1, .inr h2⟩
  · rintro ⟨j, h1, h2 | h2⟩
    · exact .inl ⟨j, h1, h2⟩
    · exact .inr ⟨j, h1, h2⟩
theorem en_thn {a b : Re} (HA : EnSpec a) (HB : EnSpec b) : EnSpec (.thn a b) := fun l => by
  rw [show ini (.thn a b) = .thn (ini a) (ini b) from rfl, run_thn]
  show (en (runP (ini b) (nx_ (ini a) l)) || em (runP (ini b) (nx_ (ini a) l)) && en (runP (ini a) l)) = true ↔ _
  rw [em_run, em_ini, Bool.or_eq_true, Bool.and_eq_true, HA, HB]
  constructor
  · rintro (⟨i, ⟨x, hx, hx2⟩, hb⟩ | ⟨he, ⟨j, h1, h2⟩⟩)
    · rw [nx_get] at hx
      obtain ⟨y, hy, rfl⟩ := Option.map_eq_some_iff.1 hx
      rw [nx_drop] at hb
      rw [Bool.or_eq_true, HA, Bool.and_eq_true, em_ini] at hx2
      rcases hx2 with ⟨j, ⟨z, hz, hz2⟩, ha⟩ | ⟨hy2, he⟩
      · have hji : j < i := by
          have := get_lt hz
          simp at this
          omega
        rw [take_get hji] at hz
        exact ⟨j, ⟨z, hz, hz2⟩, _, _, (split_at l j i (by omega)).symm, ha, hb⟩
      · exact ⟨i, ⟨y, hy, hy2⟩, [], _, rfl, (mt_nil a).2 he, hb⟩
    · exact ⟨j, h1, _, [], by simp, h2, (mt_nil b).2 he⟩
  · rintro ⟨j, ⟨x, hx, hx2⟩, h⟩
    obtain ⟨k, hk, ha, hb⟩ := mt_thn.1 h
    rcases Nat.eq_or_lt_of_le hk with hk | hk
    · refine .inr ⟨?_, j, ⟨x, hx, hx2⟩, ?_⟩
      · rw [List.drop_of_length_le (by omega)] at hb
        exact (mt_nil b).1 hb
      · rw [List.take_of_length_le (by omega)] at ha
        exact ha
    · have hlt : j + k < l.length := by
        simp at hk
        omega
      obtain ⟨y, hy⟩ : ∃ y, l[j + k]? = some y := ⟨_, List.getElem?_eq_getElem hlt⟩
      refine .inl ⟨j + k, ⟨(y.1, en (runP (ini a) (l.take (j + k))) || y.2 && em (ini a)), by rw [nx_get, hy]; rfl, ?_⟩, ?_⟩
      · show (en (runP (ini a) (l.take (j + k))) || y.2 && em (ini a)) = true
        rw [Bool.or_eq_true, Bool.and_eq_true, HA, em_ini]
        rcases Nat.eq_zero_or_pos k with h0 | h0
        · subst h0
          rw [Nat.add_zero, hx] at hy
          obtain rfl := Option.some.inj hy
          exact .inr ⟨hx2, (mt_nil a).1 (by simpa using ha)⟩
        · exact .inl ⟨j, ⟨x, by rw [take_get (by omega)]; exact hx, hx2⟩, by rw [take_drop_fst]; exact ha⟩
      · rw [nx_drop, drop_drop_fst]
        exact hb
theorem en_star {a : Re} (HA : EnSpec a) : ∀ (n : Nat) (l : List (UInt8 × Bool)), l.length ≤ n → (en (runP (ini (.star a)) l) = true ↔ Fit (.star a) l)
  | n, l, hn => by
    rw [show ini (.star a) = .star (ini a) from rfl, run_star]
    show en (runP (ini a) (sx_ (ini a) l)) = true ↔ _
    rw [HA]
    constructor
    · rintro ⟨j, ⟨x, hx, hx2⟩, h⟩
      rw [sx_get] at hx
      obtain ⟨y, hy, rfl⟩ := Option.map_eq_some_iff.1 hx
      rw [sx_drop] at h
      have hj := get_lt hy
      rw [Bool.or_eq_true] at hx2
      rcases hx2 with hy2 | he
      · exact ⟨j, ⟨y, hy, hy2⟩, [(l.drop j).map Prod.fst], by rw [List.flatten_cons, List.flatten_nil, List.append_nil], fun u hu => by
          obtain rfl := List.mem_singleton.1 hu
          exact h⟩
      · match n, hn with
        | 0, hn => omega
        | n + 1, hn =>
          obtain ⟨i, ⟨z, hz, hz2⟩, hs⟩ := (en_star HA n (l.take j) (by simp; omega)).1 he
          have hij : i < j := by
            have := get_lt hz
            simp at this
            omega
          rw [take_get hij] at hz
          refine ⟨i, ⟨z, hz, hz2⟩, ?_⟩
          rw [← split_at l i j (by omega)]
          exact mt_star_snoc hs h
    · rintro ⟨i, ⟨x, hx, hx2⟩, h⟩
      have hi := get_lt hx
      have hne : (l.drop i).map Prod.fst ≠ [] := by
        intro e
        have := congrArg List.length e
        simp at this
        omega
      obtain ⟨k, hk, h1, h2⟩ := mt_star_last hne h
      have hlt : i + k < l.length := by
        simp at hk
        omega
      obtain ⟨y, hy⟩ : ∃ y, l[i + k]? = some y := ⟨_, List.getElem?_eq_getElem hlt⟩
      refine ⟨i + k, ⟨(y.1, y.2 || en (runP (.star (ini a)) (l.take (i + k)))), by rw [sx_get, hy]; rfl, ?_⟩, ?_⟩
      · show (y.2 || en (runP (.star (ini a)) (l.take (i + k)))) = true
        rw [Bool.or_eq_true]
        rcases Nat.eq_zero_or_pos k with h0 | h0
        · subst h0
          rw [Nat.add_zero, hx] at hy
          obtain rfl := Option.some.inj hy
          exact .inl hx2
        · match n, hn with
          | 0, hn => omega
          | n + 1, hn =>
            exact .inr ((en_star HA n (l.take (i + k)) (by simp; omega)).2 ⟨i, ⟨x, by rw [take_get (by omega)]; exact hx, hx2⟩, by rw [take_drop_fst]; exact h1⟩)
      · rw [sx_drop, drop_drop_fst]
        exact h2
theorem en_run : ∀ r, EnSpec r
  | .nil => en_nil
  | .one s => en_one s
  | .thn a b => en_thn (en_run a) (en_run b)
  | .alt a b => en_alt (en_run a) (en_run b)
  | .star a => fun l => en_star (en_run a) l.length l (Nat.le_refl _)

/-! ### Where a pattern ends -/
def mtB (r : Re) (s : List UInt8) : Bool := fitsB (auOf r) s
theorem mtB_iff (r : Re) (s : List UInt8) : mtB r s = true ↔ Mt r s := fits_iff (auOf_ok r) s
theorem mtB_nil (r : Re) : mtB r [] = emp r := by
  rw [Bool.eq_iff_iff, mtB_iff, mt_nil]
/-- The bytes of a text, which begins with the first one alone. -/
def flA : List UInt8 → List (UInt8 × Bool)
  | [] => []
  | c :: s => (c, true) :: s.map fun c => (c, false)
/-- .. which may begin with each. -/
def flE (s : List UInt8) : List (UInt8 × Bool) := s.map fun c => (c, true)
theorem flA_snoc (s : List UInt8) (c : UInt8) : flA (s ++ [c]) = flA s ++ [(c, s.isEmpty)] := by
  cases s <;> simp [flA]
theorem flA_more (s u : List UInt8) (hs : s ≠ []) : flA (s ++ u) = flA s ++ u.map fun c => (c, false) := by
  cases s with
  | nil => exact absurd rfl hs
  | cons c s => simp [flA]
theorem flA_fst (s : List UInt8) : (flA s).map Prod.fst = s := by
  cases s with
  | nil => rfl
  | cons c s =>
    show c :: ((s.map fun c => (c, false)).map Prod.fst) = c :: s
    rw [List.map_map]
    congr 1
    exact List.map_id s
theorem flE_fst (s : List UInt8) : (flE s).map Prod.fst = s := by
  unfold flE
  rw [List.map_map]
  exact List.map_id s
theorem en_flA (r : Re) (s : List UInt8) : en (runP (ini r) (flA s)) = (!s.isEmpty && mtB r s) := by
  rw [Bool.eq_iff_iff, en_run r, Bool.and_eq_true, mtB_iff]
  constructor
  · rintro ⟨j, ⟨x, hx, hx2⟩, h⟩
    cases s with
    | nil => simp [flA] at hx
    | cons c s =>
      cases j with
      | zero => exact ⟨rfl, by rw [List.drop_zero, flA_fst] at h; exact h⟩
      | succ j =>
        simp only [flA, List.getElem?_cons_succ, List.getElem?_map] at hx
        obtain ⟨y, _, rfl⟩ := Option.map_eq_some_iff.1 hx
        cases hx2
  · rintro ⟨h1, h2⟩
    cases s with
    | nil => cases h1
    | cons c s => exact ⟨0, ⟨(c, true), rfl, rfl⟩, by rw [List.drop_zero, flA_fst]; exact h2⟩
theorem en_flE (r : Re) (s : List UInt8) : en (runP (ini r) (flE s)) = true ↔ ∃ j, j < s.length ∧ Mt r (s.drop j) := by
  rw [en_run r]
  have e : ∀ j, ((flE s).drop j).map Prod.fst = s.drop j := fun j => by rw [List.map_drop, flE_fst]
  constructor
  · rintro ⟨j, ⟨x, hx, _⟩, h⟩
    rw [e] at h
    exact ⟨j, by have := get_lt hx; simpa [flE] using this, h⟩
  · rintro ⟨j, hj, h⟩
    exact ⟨j, ⟨(s[j], true), by simp [flE, List.getElem?_map, List.getElem?_eq_getElem hj], rfl⟩, by rw [e]; exact h⟩
/-- The bytes from one place to another one. -/
def mid (s : List UInt8) (f k : Nat) : List UInt8 := (s.take k).drop f
theorem mid_self (s : List UInt8) (f : Nat) : mid s f f = [] := by
  unfold mid
  exact List.drop_of_length_le (by simp; omega)
theorem mid_len {s : List UInt8} {f k : Nat} (hk : k ≤ s.length) : (mid s f k).length = k - f := by simp [mid]; omega
theorem mid_snoc {s : List UInt8} {f k : Nat} {c : UInt8} (hf : f ≤ k) (hc : s[k]? = some c) : mid s f (k + 1) = mid s f k ++ [c] := by
  have hk := get_lt hc
  unfold mid
  have e : s.take (k + 1) = s.take k ++ [c] := by
    rw [List.take_succ_eq_append_getElem hk]
    rw [List.getElem?_eq_getElem hk] at hc
    rw [Option.some.inj hc]
  rw [e, List.drop_append_of_le_length (by simp; omega)]
theorem mid_more {s : List UInt8} {f j k : Nat} (hf : f ≤ j) (hj : j ≤ k) (hk : k ≤ s.length) : ∃ u, mid s f k = mid s f j ++ u := by
  refine ⟨(s.take k).drop j, ?_⟩
  unfold mid
  have e : s.take k = s.take j ++ (s.take k).drop j := by
    have := List.take_append_drop j (s.take k)
    rw [List.take_take, Nat.min_eq_left hj] at this
    exact this.symm
  conv => lhs; rw [e]
  rw [List.drop_append_of_le_length (by simp; omega)]
/-- The places up to k at which it ends, that began at f. -/
def endsTo (r : Re) (s : List UInt8) (f k : Nat) : List Nat := (List.range' f (k + 1 - f)).filter fun i => mtB r (mid s f i)
def endsL (r : Re) (s : List UInt8) (f : Nat) : List Nat := endsTo r s f s.length
theorem endsTo_start (r : Re) (s : List UInt8) (f : Nat) : endsTo r s f f = if emp r then [f] else [] := by
  unfold endsTo
  rw [show f + 1 - f = 1 by omega]
  simp only [List.range'_one, List.filter_cons, List.filter_nil]
  rw [mid_self, mtB_nil]
theorem endsTo_succ (r : Re) (s : List UInt8) {f k : Nat} (hf : f ≤ k) : endsTo r s f (k + 1) = endsTo r s f k ++ (if mtB r (mid s f (k + 1)) then [k + 1] else []) := by
  unfold endsTo
  rw [show k + 1 + 1 - f = (k + 1 - f) + 1 by omega, List.range'_1_concat, List.filter_append]
  congr 1
  rw [show f + (k + 1 - f) = k + 1 by omega]
  simp only [List.filter_cons, List.filter_nil]
theorem endsTo_same (r : Re) (s : List UInt8) {f : Nat} : ∀ (d k : Nat), f ≤ k → (∀ i, k < i → i ≤ k + d → mtB r (mid s f i) = false) → endsTo r s f (k + d) = endsTo r s f k
  | 0, k, _, _ => rfl
  | d + 1, k, hf, h => by
    rw [← Nat.add_assoc, endsTo_succ r s (by omega), h (k + d + 1) (by omega) (by omega)]
    simp
    exact endsTo_same r s d k hf fun i h1 h2 => h i h1 (by omega)
/-- Where nothing is under way nothing more ends. -/
theorem ends_dead {r : Re} {s : List UInt8} {f k : Nat} (hf : f < k) (hk : k ≤ s.length) (h : lv (runP (ini r) (flA (mid s f k))) = false) : endsL r s f = endsTo r s f k := by
  have hd : ∀ i, k < i → i ≤ k + (s.length - k) → mtB r (mid s f i) = false := fun i h1 h2 => by
    obtain ⟨u, hu⟩ := mid_more (s := s) (f := f) (j := k) (k := i) (by omega) (by omega) (by omega)
    have hne : mid s f k ≠ [] := by
      intro e
      have := mid_len (s := s) (f := f) (k := k) hk
      rw [e] at this
      simp at this
      omega
    have h3 := en_flA r (mid s f i)
    have h4 : (mid s f i).isEmpty = false := by
      cases hm : mid s f i with
      | nil =>
        have := mid_len (s := s) (f := f) (k := i) (by omega)
        rw [hm] at this
        simp at this
        omega
      | cons c l => rfl
    rw [h4] at h3
    rw [hu, flA_more _ _ hne] at h3
    have h5 : runP (ini r) (flA (mid s f k) ++ u.map fun c => (c, false)) = runP (ini r) (flA (mid s f k)) := by
      unfold runP
      rw [List.foldl_append]
      exact run_dead u _ h
    rw [h5, en_lv _ h] at h3
    rw [hu]
    simpa using h3.symm
  have := endsTo_same r s (s.length - k) k (by omega) hd
  rw [show k + (s.length - k) = s.length by omega] at this
  exact this
theorem endsL_mem {r : Re} {s : List UInt8} {f k : Nat} : k ∈ endsL r s f ↔ f ≤ k ∧ k ≤ s.length ∧ Mt r (mid s f k) := by
  unfold endsL endsTo
  rw [List.mem_filter, List.mem_range'_1, mtB_iff]
  constructor
  · rintro ⟨⟨h1, h2⟩, h3⟩; exact ⟨h1, by omega, h3⟩
  · rintro ⟨h1, h2, h3⟩; exact ⟨⟨h1, by omega⟩, h3⟩

/-! ### .. first -/
/-- Some text that ends at k fits. -/
def hitB (r : Re) (s : List UInt8) (k : Nat) : Bool := (List.range (k + 1)).any fun i => mtB r (mid s i k)
theorem hit_iff {r : Re} {s : List UInt8} {k : Nat} : hitB r s k = true ↔ ∃ i, i ≤ k ∧ Mt r (mid s i k) := by
  unfold hitB
  rw [List.any_eq_true]
  constructor
  · rintro ⟨i, hi, h⟩
    rw [mtB_iff] at h
    exact ⟨i, by have := List.mem_range.1 hi; omega, h⟩
  · rintro ⟨i, hi, h⟩
    exact ⟨i, List.mem_range.2 (by omega), (mtB_iff _ _).2 h⟩
theorem hit_zero (r : Re) (s : List UInt8) : hitB r s 0 = emp r := by
  unfold hitB
  simp [mid, mtB_nil]
theorem hit_succ {r : Re} {s : List UInt8} {k : Nat} (hk : k < s.length) (he : emp r = false) : hitB r s (k + 1) = en (runP (ini r) (flE (s.take (k + 1)))) := by
  rw [Bool.eq_iff_iff, en_flE, hit_iff]
  constructor
  · rintro ⟨i, hi, h⟩
    have hne : i ≠ k + 1 := by
      rintro rfl
      rw [mid_self, mt_nil, he] at h
      cases h
    exact ⟨i, by simp; omega, h⟩
  · rintro ⟨i, hi, h⟩
    exact ⟨i, by simp at hi; omega, h⟩
/-- The least place at which one ends; whether there is any. -/
def firstL (r : Re) (s : List UInt8) : Nat × Bool :=
  match (List.range (s.length + 1)).find? (hitB r s) with
  | some k => (k, true)
  | none => (0, false)
theorem first_hit {r : Re} {s : List UInt8} {k : Nat} (hk : k ≤ s.length) (h : hitB r s k = true) (hno : ∀ i, i < k → hitB r s i = false) : firstL r s = (k, true) := by
  have : (List.range (s.length + 1)).find? (hitB r s) = some k := by
    rw [List.find?_range_eq_some]
    exact ⟨h, List.mem_range.2 (by omega), fun j hj => by rw [hno j hj]; rfl⟩
  unfold firstL
  rw [this]
theorem first_none {r : Re} {s : List UInt8} (hno : ∀ i, i ≤ s.length → hitB r s i = false) : firstL r s = (0, false) := by
  have : (List.range (s.length + 1)).find? (hitB r s) = none := by
    rw [List.find?_range_eq_none]
    exact fun j hj => by rw [hno j (by omega)]; rfl
  unfold firstL
  rw [this]
end Go.Proofs.YtgidoieppplhpaaDoor
