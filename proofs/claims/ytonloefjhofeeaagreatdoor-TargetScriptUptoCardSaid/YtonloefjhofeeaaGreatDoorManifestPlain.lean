/-
  Manifests, plainly: entries, their text, what is read of tokens.
-/
import Derived.Test.YtonloefjhofeeaaGreatDoorTokenPlain
namespace Go.Proofs.YtonloefjhofeeaaGreatDoor
set_option linter.unusedVariables false

structure En where
  name : List UInt8
  addr : Int
  size : Int
  print : Int
  way : Int
  deriving DecidableEq
def kImg : List UInt8 := [105, 109, 97, 103, 101]
def kAt : List UInt8 := [97, 116]
def kSize : List UInt8 := [115, 105, 122, 101]
def kPrint : List UInt8 := [112, 114, 105, 110, 116]
def kBy : List UInt8 := [98, 121]
def wCheck : List UInt8 := [99, 104, 101, 99, 107]
def wCrc : List UInt8 := [99, 114, 99]
def wLarge : List UInt8 := [108, 97, 114, 103, 101]
def wBatch : List UInt8 := [98, 97, 116, 99, 104]
def waysL : List (List UInt8) := [wCheck, wCrc, wLarge, wBatch]
def wayL (w : Int) : List UInt8 := if w = 1 then wCrc else if w = 2 then wLarge else if w = 3 then wBatch else wCheck
def wayOf (t : List UInt8) : Option Nat := if t = wCheck then some 0 else if t = wCrc then some 1 else if t = wLarge then some 2 else if t = wBatch then some 3 else none
def numL (b : Nat) (n : Int) : List UInt8 := if n < 0 then 45 :: digL b (-n).toNat else digL b n.toNat
def quoE (l : List UInt8) : List UInt8 := match quoL l with
  | some q => 34 :: (q ++ [34])
  | none => []
def cImg : List UInt8 := [105, 109, 97, 103, 101, 32]
def cAt : List UInt8 := [32, 97, 116, 32, 48, 120]
def cSize : List UInt8 := [32, 115, 105, 122, 101, 32]
def cPrint : List UInt8 := [32, 112, 114, 105, 110, 116, 32, 48, 120]
def cBy : List UInt8 := [32, 98, 121, 32]
def lineL (e : En) : List UInt8 := cImg ++ quoE e.name ++ cAt ++ numL 16 e.addr ++ cSize ++ numL 10 e.size ++ cPrint ++ numL 16 e.print ++ cBy ++ wayL e.way ++ [59, 10]
def entB (e : En) : List UInt8 := cImg ++ quoE e.name ++ cAt ++ numL 16 e.addr ++ cSize ++ numL 10 e.size ++ cPrint ++ numL 16 e.print ++ cBy ++ wayL e.way ++ [59]
def textL (es : List En) : List UInt8 := es.flatMap lineL
theorem line_body (e : En) : lineL e = entB e ++ [10] := by simp [lineL, entB]

/-! ### tokens are read -/
def shpT : List Tk := [⟨1, kImg, 0, 0⟩, ⟨3, [], 0, 0⟩, ⟨1, kAt, 0, 0⟩, ⟨2, [], 0, 0⟩, ⟨1, kSize, 0, 0⟩, ⟨2, [], 0, 0⟩, ⟨1, kPrint, 0, 0⟩, ⟨2, [], 0, 0⟩, ⟨1, kBy, 0, 0⟩, ⟨1, [], 0, 0⟩, ⟨4, [59], 0, 0⟩]
def misT (s t : Tk) : Bool := !(t.kind == s.kind) || (!(s.text == []) && !(t.text == s.text))
def badT (i : Nat) (s t : Tk) : Option Nat := if misT s t then some 2 else if i = 9 ∧ wayOf t.text = none then some 3 else none
def badI (ts : List Tk) (i : Nat) : Option (Nat × Nat) := match shpT[i]?, ts[i]? with
  | some s, some t => (badT i s t).map fun n => (n, t.pos)
  | _, _ => none
def errI (ts : List Tk) : Nat → Nat → Option (Nat × Nat)
  | 0, _ => none
  | n + 1, i => match badI ts i with
    | some x => some x
    | none => errI ts n (i + 1)
def errE (ts : List Tk) : Option (Nat × Nat) := errI ts 11 0
def tkAt (ts : List Tk) (i : Nat) : Tk := ts.getD i ⟨0, [], 0, 0⟩
def entT (ts : List Tk) : En := ⟨(tkAt ts 1).text, (tkAt ts 3).val, (tkAt ts 5).val, (tkAt ts 7).val, ((wayOf (tkAt ts 9).text).getD 0 : Nat)⟩
def parseT : List Tk → Except (Nat × Nat) (List En)
  | [] => .ok []
  | t :: r => if t.kind = 0 then .ok [] else match errE (t :: r) with
    | some x => .error x
    | none => match parseT (r.drop 10) with
      | .error x => .error x
      | .ok es => .ok (entT (t :: r) :: es)
termination_by ts => ts.length
decreasing_by all_goals (simp; try omega)
def parseL (l : List UInt8) : Except (Nat × Nat) (List En) := match cutR l 0 with
  | .error p => .error (1, p)
  | .ok ts => parseT ts
def preE (es : List En) : Except (Nat × Nat) (List En) → Except (Nat × Nat) (List En)
  | .error x => .error x
  | .ok l => .ok (es ++ l)
theorem preE_nil (x : Except (Nat × Nat) (List En)) : preE [] x = x := by cases x <;> rfl
theorem preE_preE (a b : List En) (x : Except (Nat × Nat) (List En)) : preE a (preE b x) = preE (a ++ b) x := by cases x <;> simp [preE]
theorem parse_end {ts : List Tk} {t : Tk} (h : ts[0]? = some t) (hk : t.kind = 0) : parseT ts = .ok [] := by
  cases ts with
  | nil => simp at h
  | cons a r => obtain rfl : a = t := by simpa using h
                rw [parseT, if_pos hk]
theorem parse_err {ts : List Tk} {t : Tk} {x : Nat × Nat} (h : ts[0]? = some t) (hk : t.kind ≠ 0) (he : errE ts = some x) : parseT ts = .error x := by
  cases ts with
  | nil => simp at h
  | cons a r => obtain rfl : a = t := by simpa using h
                rw [parseT, if_neg hk, he]
theorem parse_ent {ts : List Tk} {t : Tk} (h : ts[0]? = some t) (hk : t.kind ≠ 0) (he : errE ts = none) : parseT ts = preE [entT ts] (parseT (ts.drop 11)) := by
  cases ts with
  | nil => simp at h
  | cons a r =>
    obtain rfl : a = t := by simpa using h
    rw [parseT, if_neg hk, he]
    show _ = preE _ (parseT (r.drop 10))
    cases parseT (r.drop 10) <;> rfl
/-- If none of them is wrong, each is of its shape. -/
theorem errI_none {ts : List Tk} : ∀ (n i : Nat), errI ts n i = none → ∀ j, i ≤ j → j < i + n → badI ts j = none
  | 0, i, _, j, h1, h2 => by omega
  | n + 1, i, h, j, h1, h2 => by
    unfold errI at h
    cases hb : badI ts i with
    | some x => rw [hb] at h; cases h
    | none =>
      rw [hb] at h
      rcases Nat.eq_or_lt_of_le h1 with rfl | hlt
      · exact hb
      · exact errI_none n (i + 1) h j hlt (by omega)
theorem errI_some {ts : List Tk} {x : Nat × Nat} : ∀ (n i : Nat), errI ts n i = some x → ∃ j, i ≤ j ∧ j < i + n ∧ badI ts j = some x
  | 0, i, h => by cases h
  | n + 1, i, h => by
    unfold errI at h
    cases hb : badI ts i with
    | some y => rw [hb] at h; cases h; exact ⟨i, Nat.le_refl _, by omega, hb⟩
    | none =>
      rw [hb] at h
      obtain ⟨j, h1, h2, h3⟩ := errI_some n (i + 1) h
      exact ⟨j, by omega, by omega, h3⟩
theorem badI_is {ts : List Tk} {i : Nat} {s t : Tk} (hs : shpT[i]? = some s) (ht : ts[i]? = some t) : badI ts i = (badT i s t).map fun n => (n, t.pos) := by
  unfold badI; rw [hs, ht]
theorem badT_none {i : Nat} {s t : Tk} (h : badT i s t = none) : misT s t = false ∧ (i = 9 → wayOf t.text ≠ none) := by
  unfold badT at h
  split at h
  · cases h
  · rename_i h1
    split at h
    · cases h
    · rename_i h2
      exact ⟨by simpa using h1, fun e hw => h2 ⟨e, hw⟩⟩
theorem mis_none {s t : Tk} (h : misT s t = false) : t.kind = s.kind ∧ (s.text ≠ [] → t.text = s.text) := by
  unfold misT at h
  simp at h
  exact ⟨h.1, fun e => by exact h.2 e⟩
theorem shp_kind : ∀ s ∈ shpT, s.kind ≠ 0 := by decide
theorem bad_kind {ts : List Tk} {i : Nat} {t : Tk} (hi : i < 11) (ht : ts[i]? = some t) (h : badI ts i = none) : t.kind ≠ 0 := by
  obtain ⟨s, hs⟩ : ∃ s, shpT[i]? = some s := ⟨_, List.getElem?_eq_getElem (by show i < 11; exact hi)⟩
  rw [badI_is hs ht] at h
  have h1 : badT i s t = none := by cases hb : badT i s t with | none => rfl | some x => rw [hb] at h; cases h
  rw [(mis_none (badT_none h1).1).1]
  exact shp_kind s (List.mem_of_getElem? hs)
/-- Tokens with an End behind them. -/
def Ended (ts : List Tk) : Prop := ∃ us p, ts = us ++ [⟨0, [], 0, p⟩] ∧ ∀ u ∈ us, u.kind ≠ 0
theorem Ended.drop {ts : List Tk} (h : Ended ts) {n : Nat} (hn : n < ts.length) : Ended (ts.drop n) := by
  obtain ⟨us, p, rfl, hk⟩ := h
  refine ⟨us.drop n, p, ?_, fun u hu => hk u (List.mem_of_mem_drop hu)⟩
  rw [List.drop_append_of_le_length (by simp at hn; omega)]
/-- Where none is wrong so far there is one more. -/
theorem Ended.more {ts : List Tk} (h : Ended ts) : ∀ i, i ≤ 11 → (∀ j, j < i → badI ts j = none) → i < ts.length
  | 0, _, _ => by obtain ⟨us, p, rfl, _⟩ := h; simp
  | i + 1, hi, hb => by
    have ih := Ended.more h i (by omega) (fun j hj => hb j (by omega))
    obtain ⟨us, p, rfl, hk⟩ := h
    rw [List.length_append, List.length_singleton] at ih ⊢
    rcases Nat.lt_or_ge i us.length with hl | hl
    · omega
    · have h0 : (us ++ [⟨0, [], 0, p⟩])[i]? = some ⟨0, [], 0, p⟩ := by rw [List.getElem?_append_right hl, show i - us.length = 0 by omega]; rfl
      exact absurd rfl (bad_kind (by omega) h0 (hb i (by omega)))
/-- What an error tells of. -/
theorem parse_num : ∀ (ts : List Tk) (x : Nat × Nat), parseT ts = .error x → (x.1 = 2 ∨ x.1 = 3) ∧ ∃ t ∈ ts, t.pos = x.2 := by
  intro ts
  induction hn : ts.length using Nat.strongRecOn generalizing ts with
  | _ n ih =>
    intro x hx
    cases ts with
    | nil => rw [parseT] at hx; cases hx
    | cons t r =>
      by_cases hk : t.kind = 0
      · rw [parse_end rfl hk] at hx; cases hx
      · cases he : errE (t :: r) with
        | some y =>
          rw [parse_err rfl hk he] at hx
          cases hx
          obtain ⟨j, _, _, hb⟩ := errI_some 11 0 he
          unfold badI at hb
          split at hb
          · rename_i s u hs hu
            cases hT : badT j s u with
            | none => rw [hT] at hb; cases hb
            | some m =>
              rw [hT] at hb
              cases hb
              refine ⟨?_, u, List.mem_of_getElem? hu, rfl⟩
              unfold badT at hT
              split at hT
              · cases hT; exact .inl rfl
              · split at hT
                · cases hT; exact .inr rfl
                · cases hT
          · cases hb
        | none =>
          rw [parse_ent rfl hk he] at hx
          cases hr : parseT ((t :: r).drop 11) with
          | ok es => rw [hr] at hx; cases hx
          | error y =>
            rw [hr] at hx
            cases hx
            obtain ⟨h1, u, h2, h3⟩ := ih ((t :: r).drop 11).length (by rw [← hn]; simp; omega) _ rfl _ hr
            exact ⟨h1, u, List.mem_of_mem_drop h2, h3⟩

/-! ### an entry's text is cut -/
theorem preT_preT (a b : List Tk) (x : Except Nat (List Tk)) : preT a (preT b x) = preT (a ++ b) x := by cases x <;> simp [preT]
theorem runOf_app {set : List UInt8} {c : UInt8} {r : List UInt8} (hc : set.contains c = false) : ∀ {x : List UInt8}, (∀ a ∈ x, set.contains a = true) → runOf set (x ++ c :: r) = x
  | [], _ => by unfold runOf; rw [List.nil_append, List.takeWhile_cons_of_neg (by rw [hc]; decide)]
  | a :: x, h => by
    have ih := runOf_app hc (r := r) (x := x) fun b hb => h b (List.mem_cons_of_mem _ hb)
    unfold runOf at ih ⊢
    rw [List.cons_append, List.takeWhile_cons_of_pos (by simpa using h a (List.mem_cons_self ..)), ih]
theorem let_plain : ∀ c ∈ letL, blankL.contains c = false ∧ c ≠ 35 := by decide
theorem word_cut {a c : UInt8} {x r : List UInt8} {p : Nat} (h1 : letL.contains a = true) (h2 : ∀ b ∈ x, wordL.contains b = true) (hc : wordL.contains c = false) :
    cutR ((a :: x) ++ c :: r) p = preT [⟨1, a :: x, 0, p⟩] (cutR (c :: r) (p + (x.length + 1))) := by
  have ha := let_plain a (List.contains_iff_mem.1 h1)
  have hw := let_word a (List.contains_iff_mem.1 h1)
  have hr : runOf wordL ((a :: x) ++ c :: r) = a :: x := runOf_app hc (fun b hb => by rcases List.mem_cons.1 hb with rfl | hb; exact hw; exact h2 b hb)
  have hf : firstT ((a :: x) ++ c :: r) = some (⟨1, a :: x, 0, 0⟩, (a :: x).length) := by
    have := first_let (r := x ++ c :: r) h1
    rw [← List.cons_append, hr] at this
    exact this
  have h := preT_some (r := x ++ c :: r) (p := p) [] ha.1 ha.2 hf
  rw [← List.cons_append, List.drop_left, preT_nil] at h
  rw [h]; rfl
theorem sp_cut (r : List UInt8) (p : Nat) : cutR (32 :: r) p = cutR r (p + 1) := cut_blank (by decide)
theorem nl_cut (r : List UInt8) (p : Nat) : cutR (10 :: r) p = cutR r (p + 1) := cut_blank (by decide)
theorem semi_cut (r : List UInt8) (p : Nat) : cutR (59 :: r) p = preT [⟨4, [59], 0, p⟩] (cutR r (p + 1)) := by
  have h := preT_some (r := r) (p := p) [] (by decide : blankL.contains 59 = false) (by decide) (first_sign (r := r) (by decide) (by decide) (by decide) (by decide))
  rw [preT_nil] at h
  rw [h]; rfl
theorem str_cut {l q : List UInt8} (h : quoL l = some q) (r : List UInt8) (p : Nat) : cutR ((34 :: (q ++ [34])) ++ r) p = preT [⟨3, l, 0, p⟩] (cutR r (p + (q.length + 2))) := by
  have hs := str_quo l q h r
  have hf : firstT (34 :: (q ++ 34 :: r)) = some (⟨3, l, 0, 0⟩, q.length + 2) := by
    rw [first_quo rfl]
    unfold textT
    show (strT (q ++ 34 :: r)).map _ = _
    rw [hs]; rfl
  have e : (34 :: (q ++ [34])) ++ r = 34 :: (q ++ 34 :: r) := by simp
  have h2 := preT_some (p := p) [] (by decide : blankL.contains 34 = false) (by decide) hf
  rw [preT_nil] at h2
  rw [e, h2]
  have e2 : (34 :: (q ++ 34 :: r)).drop (q.length + 2) = r := by
    rw [← e, show q.length + 2 = (34 :: (q ++ [34])).length by simp, List.drop_left]
  rw [e2]; rfl
theorem word_not {c : UInt8} (h : wordL.contains c = false) : decL.contains c = false ∧ hexL.contains c = false ∧ letL.contains c = false ∧ c ≠ 120 := by
  have h1 : ∀ c ∈ decL, wordL.contains c = true := by decide
  have h2 : ∀ c ∈ hexL, wordL.contains c = true := by decide
  have h3 : ∀ c ∈ letL, wordL.contains c = true := by decide
  refine ⟨?_, ?_, ?_, fun e => by rw [e] at h; revert h; decide⟩
  · rw [Bool.eq_false_iff]; intro k; rw [h1 c (List.contains_iff_mem.1 k)] at h; cases h
  · rw [Bool.eq_false_iff]; intro k; rw [h2 c (List.contains_iff_mem.1 k)] at h; cases h
  · rw [Bool.eq_false_iff]; intro k; rw [h3 c (List.contains_iff_mem.1 k)] at h; cases h
theorem isHex_dec2 {x r : List UInt8} {c : UInt8} (h : ∀ a ∈ x, decL.contains a = true) (hc : c ≠ 120) (hne : x ≠ []) : isHex (x ++ c :: r) = false := by
  match x, h, hne with
  | [a], _, _ =>
    have e : (120 == c) = false := by simpa using fun e => hc e.symm
    simp [isHex, List.isPrefixOf, e]
  | a :: b :: y, h, _ =>
    have hb := (dec_first b (List.contains_iff_mem.1 (h b (by simp)))).2.2.2
    have e : (120 == b) = false := by simpa using fun e => hb e.symm
    simp [isHex, List.isPrefixOf, e]
theorem letAt_app {c : UInt8} {x r : List UInt8} (hc : letL.contains c = false) : letAt (x ++ c :: r) x.length = false := by
  unfold letAt
  rw [List.getElem?_append_right (Nat.le_refl _), Nat.sub_self]
  exact hc
theorem dec_cut {c : UInt8} {r : List UInt8} (hc : wordL.contains c = false) {n p : Nat} (hn : n < 4294967296) : cutR (digL 10 n ++ c :: r) p = preT [⟨2, digL 10 n, n, p⟩] (cutR (c :: r) (p + (digL 10 n).length)) := by
  obtain ⟨k1, k2, k3, k4⟩ := word_not hc
  have hb : Base 10 := .inl rfl
  have hall := digL_all hb n
  rw [set10] at hall
  have hv := val_dig hb n
  have ho := ok_dig hb n
  have hne := digL_ne 10 n
  generalize digL 10 n = x at *
  have hh := isHex_dec2 (r := r) hall k4 hne
  have h1 : leadN (x ++ c :: r) = 0 := by unfold leadN; rw [hh]; rfl
  have h2 : digN (x ++ c :: r) = decL := by unfold digN; rw [hh]; rfl
  have h3 : baseN (x ++ c :: r) = 10 := by unfold baseN; rw [hh]; rfl
  have h4 : bodyN (x ++ c :: r) = x := by unfold bodyN; rw [h1, h2, List.drop_zero, runOf_app k1 hall]
  have h5 : sizeN (x ++ c :: r) = x.length := by unfold sizeN; rw [h1, h4, Nat.zero_add]
  have hbad : numBad (x ++ c :: r) = false := by
    rw [numBad_is, h4, h5, h3, ho, hv, decide_eq_false (by omega), letAt_app k3]; rfl
  have hnum : numT (x ++ c :: r) = some (⟨2, x, n, 0⟩, x.length) := by rw [num_good hbad, h4, h5, h3, List.take_left, hv]
  cases x with
  | nil => exact absurd rfl hne
  | cons a y =>
    obtain ⟨j1, j2, j3, _⟩ := dec_first a (List.contains_iff_mem.1 (hall a (by simp)))
    have hf : firstT ((a :: y) ++ c :: r) = some (⟨2, a :: y, n, 0⟩, (a :: y).length) := by
      rw [List.cons_append, first_dec j3 (hall a (by simp)), ← List.cons_append, hnum]
    have h := preT_some (r := y ++ c :: r) (p := p) [] j1 j2 hf
    rw [← List.cons_append, List.drop_left, preT_nil] at h
    rw [h]; rfl
theorem hex_cut {c : UInt8} {r : List UInt8} (hc : wordL.contains c = false) {n p : Nat} (hn : n < 4294967296) : cutR (48 :: 120 :: (digL 16 n ++ c :: r)) p = preT [⟨2, 48 :: 120 :: digL 16 n, n, p⟩] (cutR (c :: r) (p + ((digL 16 n).length + 2))) := by
  obtain ⟨k1, k2, k3, k4⟩ := word_not hc
  have hb : Base 16 := .inr rfl
  have hall := digL_all hb n
  rw [set16] at hall
  have hv := val_dig hb n
  have ho := ok_dig hb n
  have hne := digL_ne 16 n
  generalize digL 16 n = x at *
  have e : 48 :: 120 :: (x ++ c :: r) = (48 :: 120 :: x) ++ c :: r := rfl
  have hh : isHex ((48 :: 120 :: x) ++ c :: r) = true := by simp [isHex, List.isPrefixOf]
  have h1 : leadN ((48 :: 120 :: x) ++ c :: r) = 2 := by unfold leadN; rw [hh]; rfl
  have h2 : digN ((48 :: 120 :: x) ++ c :: r) = hexL := by unfold digN; rw [hh]; rfl
  have h3 : baseN ((48 :: 120 :: x) ++ c :: r) = 16 := by unfold baseN; rw [hh]; rfl
  have h4 : bodyN ((48 :: 120 :: x) ++ c :: r) = x := by
    unfold bodyN
    rw [h1, h2]
    show runOf hexL (x ++ c :: r) = x
    exact runOf_app k2 hall
  have h5 : sizeN ((48 :: 120 :: x) ++ c :: r) = (48 :: 120 :: x).length := by unfold sizeN; rw [h1, h4]; simp; omega
  have hbad : numBad ((48 :: 120 :: x) ++ c :: r) = false := by
    rw [numBad_is, h4, h5, h3, ho, hv, decide_eq_false (by omega), letAt_app k3]; rfl
  have hnum : numT ((48 :: 120 :: x) ++ c :: r) = some (⟨2, 48 :: 120 :: x, n, 0⟩, (48 :: 120 :: x).length) := by rw [num_good hbad, h4, h5, h3, List.take_left, hv]
  have hf : firstT ((48 :: 120 :: x) ++ c :: r) = some (⟨2, 48 :: 120 :: x, n, 0⟩, (48 :: 120 :: x).length) := by
    rw [List.cons_append, first_dec (by decide) (by decide), ← List.cons_append, hnum]
  have h := preT_some (r := 120 :: (x ++ c :: r)) (p := p) [] (by decide : blankL.contains 48 = false) (by decide) hf
  rw [e, show (48 :: 120 :: x) ++ c :: r = 48 :: (120 :: (x ++ c :: r)) from rfl]
  rw [show (48 :: (120 :: (x ++ c :: r))).drop (48 :: 120 :: x).length = c :: r from by rw [show 48 :: 120 :: (x ++ c :: r) = (48 :: 120 :: x) ++ c :: r from rfl, List.drop_left], preT_nil] at h
  rw [h]; rfl
/-- An entry that a manifest's text can tell. -/
structure Tells (e : En) : Prop where
  name : ∃ q, quoL e.name = some q
  addr : 0 ≤ e.addr ∧ e.addr < 4294967296
  size : 0 ≤ e.size ∧ e.size < 4294967296
  print : 0 ≤ e.print ∧ e.print < 4294967296
  way : 0 ≤ e.way ∧ e.way ≤ 3
def IsE (e : En) (ts : List Tk) : Prop := ∃ (p0 p1 p2 p3 p4 p5 p6 p7 p8 p9 p10 : Nat) (x y z : List UInt8), ts = [⟨1, kImg, 0, p0⟩, ⟨3, e.name, 0, p1⟩, ⟨1, kAt, 0, p2⟩, ⟨2, x, e.addr.toNat, p3⟩, ⟨1, kSize, 0, p4⟩, ⟨2, y, e.size.toNat, p5⟩, ⟨1, kPrint, 0, p6⟩, ⟨2, z, e.print.toNat, p7⟩, ⟨1, kBy, 0, p8⟩, ⟨1, wayL e.way, 0, p9⟩, ⟨4, [59], 0, p10⟩]
theorem way_word (w : Int) : ∃ a x, wayL w = a :: x ∧ letL.contains a = true ∧ ∀ b ∈ x, wordL.contains b = true := by
  unfold wayL
  split
  · exact ⟨_, _, rfl, by decide, by decide⟩
  · split
    · exact ⟨_, _, rfl, by decide, by decide⟩
    · split
      · exact ⟨_, _, rfl, by decide, by decide⟩
      · exact ⟨_, _, rfl, by decide, by decide⟩
theorem w32 : wordL.contains 32 = false := by decide
theorem w34 : wordL.contains 34 = false := by decide
theorem w59 : wordL.contains 59 = false := by decide
theorem cut_body {e : En} (h : Tells e) (r : List UInt8) (p : Nat) : ∃ ts, IsE e ts ∧ cutR (entB e ++ r) p = preT ts (cutR r (p + (entB e).length)) := by
  obtain ⟨q, hq⟩ := h.name
  obtain ⟨a, n, hn, hn2⟩ : ∃ (a : Unit) (n : Nat), e.addr = (n : Int) ∧ n < 4294967296 := ⟨(), e.addr.toNat, by have := h.addr; omega, by have := h.addr; omega⟩
  obtain ⟨m, hm, hm2⟩ : ∃ (n : Nat), e.size = (n : Int) ∧ n < 4294967296 := ⟨e.size.toNat, by have := h.size; omega, by have := h.size; omega⟩
  obtain ⟨k, hk, hk2⟩ : ∃ (n : Nat), e.print = (n : Int) ∧ n < 4294967296 := ⟨e.print.toNat, by have := h.print; omega, by have := h.print; omega⟩
  obtain ⟨wa, wx, hw, hw1, hw2⟩ := way_word e.way
  have eb : entB e ++ r = kImg ++ 32 :: ((34 :: (q ++ [34])) ++ 32 :: (kAt ++ 32 :: (48 :: 120 :: (digL 16 n ++ 32 :: (kSize ++ 32 :: (digL 10 m ++ 32 :: (kPrint ++ 32 :: (48 :: 120 :: (digL 16 k ++ 32 :: (kBy ++ 32 :: ((wa :: wx) ++ 59 :: r))))))))))) := by
    unfold entB quoE numL
    rw [hq, hn, hm, hk, hw, if_neg (by omega), if_neg (by omega), if_neg (by omega)]
    simp [cImg, cAt, cSize, cPrint, cBy, kImg, kAt, kSize, kPrint, kBy]
  have el : (entB e).length = 5 + 1 + (q.length + 2) + 1 + 2 + 1 + ((digL 16 n).length + 2) + 1 + 4 + 1 + (digL 10 m).length + 1 + 5 + 1 + ((digL 16 k).length + 2) + 1 + 2 + 1 + (wx.length + 1) + 1 := by
    unfold entB quoE numL
    rw [hq, hn, hm, hk, hw, if_neg (by omega), if_neg (by omega), if_neg (by omega)]
    simp [cImg, cAt, cSize, cPrint, cBy]
    omega
  rw [eb]
  generalize hX : cutR (kImg ++ 32 :: ((34 :: (q ++ [34])) ++ 32 :: (kAt ++ 32 :: (48 :: 120 :: (digL 16 n ++ 32 :: (kSize ++ 32 :: (digL 10 m ++ 32 :: (kPrint ++ 32 :: (48 :: 120 :: (digL 16 k ++ 32 :: (kBy ++ 32 :: ((wa :: wx) ++ 59 :: r)))))))))))) p = X
  rw [show kImg = 105 :: [109, 97, 103, 101] from rfl, word_cut (by decide) (by decide) w32, sp_cut, str_cut hq, sp_cut, show kAt = 97 :: [116] from rfl, word_cut (by decide) (by decide) w32, sp_cut, hex_cut w32 hn2, sp_cut, show kSize = 115 :: [105, 122, 101] from rfl, word_cut (by decide) (by decide) w32, sp_cut, dec_cut w32 hm2, sp_cut,
    show kPrint = 112 :: [114, 105, 110, 116] from rfl, word_cut (by decide) (by decide) w32, sp_cut, hex_cut w32 hk2, sp_cut, show kBy = 98 :: [121] from rfl, word_cut (by decide) (by decide) w32, sp_cut, word_cut hw1 hw2 w59, semi_cut] at hX
  simp only [preT_preT, List.cons_append, List.nil_append] at hX
  refine ⟨_, ?_, hX.symm.trans (congrArg (fun P => preT _ (cutR r P)) ?_)⟩
  · exact ⟨_, _, _, _, _, _, _, _, _, _, _, _, _, _, by rw [hw, hn, hm, hk, Int.toNat_natCast, Int.toNat_natCast, Int.toNat_natCast]; rfl⟩
  · rw [el]; simp only [List.length_cons, List.length_nil]; omega


/-! ### what tokens can be -/
theorem esc_qe {c d : UInt8} (h : escD c = some d) : qe d = some c := by
  unfold escD at h
  split at h
  · rename_i k; cases h; rw [k]; decide
  · split at h
    · rename_i k; cases h; rw [k]; decide
    · split at h
      · rename_i k; cases h; rw [k]; decide
      · split at h
        · rename_i k; cases h; rw [k]; decide
        · cases h
theorem quo_cons {c : UInt8} {x l q : List UInt8} (h1 : quo1 c = some x) (h2 : quoL l = some q) : quoL (c :: l) = some (x ++ q) := by
  simp only [quoL, h1, h2, Option.map_some]
theorem prn_quo {c : UInt8} (h : prn c = true) : ∃ x, quo1 c = some x := by
  unfold quo1
  split
  · exact ⟨_, rfl⟩
  · rw [if_pos h]; exact ⟨_, rfl⟩
theorem str_told : ∀ (r : List UInt8) (x : List UInt8 × Nat), strT r = some x → ∃ q, quoL x.1 = some q
  | [], x, h => by simp [strT] at h
  | [c], x, h => by
    simp only [strT] at h
    split at h
    · cases h; exact ⟨[], rfl⟩
    · cases h
  | c :: e :: r, x, h => by
    rw [strT_two] at h
    split at h
    · cases h; exact ⟨[], rfl⟩
    · split at h
      · split at h
        · rename_i d hd
          cases hr : strT r with
          | none => rw [hr] at h; cases h
          | some y =>
            rw [hr] at h
            cases h
            obtain ⟨q, hq⟩ := str_told r y hr
            exact ⟨_, quo_cons (by unfold quo1; rw [esc_qe hd]) hq⟩
        · cases h
      · split at h
        · rename_i hp
          cases hr : strT (e :: r) with
          | none => rw [hr] at h; cases h
          | some y =>
            rw [hr] at h
            cases h
            obtain ⟨q, hq⟩ := str_told (e :: r) y hr
            obtain ⟨z, hz⟩ := prn_quo hp
            exact ⟨_, quo_cons hz hq⟩
        · cases h
theorem first_told {s : List UInt8} {x : Tk × Nat} (h : firstT s = some x) : x.1.kind = 3 → ∃ q, quoL x.1.text = some q := by
  unfold firstT at h
  split at h
  · cases h
  · rename_i c r
    split at h
    · cases h; intro k; cases k
    · split at h
      · unfold numT at h
        split at h
        · cases h
        · cases h; intro k; cases k
      · split at h
        · cases hr : strT r with
          | none => rw [hr] at h; cases h
          | some y =>
            rw [hr] at h
            cases h
            intro _
            exact str_told r y hr
        · split at h
          · cases h; intro k; cases k
          · cases h
theorem cut_told (l : List UInt8) (p : Nat) : ∀ ts, cutR l p = .ok ts → Ended ts ∧ ∀ t ∈ ts, t.val < 4294967296 ∧ (t.kind = 3 → ∃ q, quoL t.text = some q) := by
  refine cut_ind (fun l p x => ∀ ts, x = .ok ts → Ended ts ∧ ∀ t ∈ ts, t.val < 4294967296 ∧ (t.kind = 3 → ∃ q, quoL t.text = some q)) ?_ ?_ ?_ ?_ ?_ l p
  · intro p ts h
    cases h
    refine ⟨⟨[], p, rfl, fun u hu => by cases hu⟩, fun t ht => ?_⟩
    obtain rfl : t = ⟨0, [], 0, p⟩ := by simpa using ht
    exact ⟨by simp, fun k => by cases k⟩
  · intro l p k h1 h2 h ts hts; exact h ts hts
  · intro c r p ts h; cases h
  · intro l p t n q hf h ts hts; cases hts
  · intro l p t n ts hf h us hus
    cases hus
    have hx := firstT_le hf
    obtain ⟨⟨vs, q, rfl, hk⟩, h2⟩ := h ts rfl
    refine ⟨⟨{ t with pos := p } :: vs, q, rfl, fun u hu => ?_⟩, fun u hu => ?_⟩
    · rcases List.mem_cons.1 hu with rfl | hu
      · exact hx.2.2.2.1
      · exact hk u hu
    · rcases List.mem_cons.1 hu with rfl | hu
      · exact ⟨hx.2.2.2.2.2.1, fun k => first_told hf k⟩
      · exact h2 u hu

/-! ### an entry is read of its tokens -/
theorem way_of {w : Int} (h : 0 ≤ w ∧ w ≤ 3) : wayOf (wayL w) = some w.toNat := by
  rcases (by omega : w = 0 ∨ w = 1 ∨ w = 2 ∨ w = 3) with rfl | rfl | rfl | rfl <;> decide
theorem way_lt {t : List UInt8} {k : Nat} (h : wayOf t = some k) : k ≤ 3 := by
  unfold wayOf at h
  split at h
  · cases h; omega
  · split at h
    · cases h; omega
    · split at h
      · cases h; omega
      · split at h
        · cases h; omega
        · cases h
theorem parse_e {e : En} (h : Tells e) {ts : List Tk} (ht : IsE e ts) (us : List Tk) : parseT (ts ++ us) = preE [e] (parseT us) := by
  obtain ⟨p0, p1, p2, p3, p4, p5, p6, p7, p8, p9, p10, x, y, z, rfl⟩ := ht
  have hw := way_of h.way
  have h1 := h.addr
  have h2 := h.size
  have h3 := h.print
  have h4 := h.way
  obtain ⟨nm, ad, sz, pr, wy⟩ := e
  dsimp only at *
  generalize wayL wy = W at *
  have hb : ∀ j, j < 11 → badI ([⟨1, kImg, 0, p0⟩, ⟨3, nm, 0, p1⟩, ⟨1, kAt, 0, p2⟩, ⟨2, x, ad.toNat, p3⟩, ⟨1, kSize, 0, p4⟩, ⟨2, y, sz.toNat, p5⟩, ⟨1, kPrint, 0, p6⟩, ⟨2, z, pr.toNat, p7⟩, ⟨1, kBy, 0, p8⟩, ⟨1, W, 0, p9⟩, ⟨4, [59], 0, p10⟩] ++ us) j = none := by
    intro j hj
    rcases (by omega : j = 0 ∨ j = 1 ∨ j = 2 ∨ j = 3 ∨ j = 4 ∨ j = 5 ∨ j = 6 ∨ j = 7 ∨ j = 8 ∨ j = 9 ∨ j = 10) with rfl | rfl | rfl | rfl | rfl | rfl | rfl | rfl | rfl | rfl | rfl <;>
      simp [badI, shpT, badT, misT, kImg, kAt, kSize, kPrint, kBy, hw]
  have he : errE ([⟨1, kImg, 0, p0⟩, ⟨3, nm, 0, p1⟩, ⟨1, kAt, 0, p2⟩, ⟨2, x, ad.toNat, p3⟩, ⟨1, kSize, 0, p4⟩, ⟨2, y, sz.toNat, p5⟩, ⟨1, kPrint, 0, p6⟩, ⟨2, z, pr.toNat, p7⟩, ⟨1, kBy, 0, p8⟩, ⟨1, W, 0, p9⟩, ⟨4, [59], 0, p10⟩] ++ us) = none := by
    cases he : errE ([⟨1, kImg, 0, p0⟩, ⟨3, nm, 0, p1⟩, ⟨1, kAt, 0, p2⟩, ⟨2, x, ad.toNat, p3⟩, ⟨1, kSize, 0, p4⟩, ⟨2, y, sz.toNat, p5⟩, ⟨1, kPrint, 0, p6⟩, ⟨2, z, pr.toNat, p7⟩, ⟨1, kBy, 0, p8⟩, ⟨1, W, 0, p9⟩, ⟨4, [59], 0, p10⟩] ++ us) with
    | none => rfl
    | some v =>
      obtain ⟨j, h5, h6, h7⟩ := errI_some 11 0 he
      rw [hb j (by omega)] at h7; cases h7
  have hp := parse_ent (t := ⟨1, kImg, 0, p0⟩) rfl Nat.one_ne_zero he
  rw [hp]
  congr 2
  show En.mk nm ((ad.toNat : Nat) : Int) ((sz.toNat : Nat) : Int) ((pr.toNat : Nat) : Int) (((wayOf W).getD 0 : Nat) : Int) = _
  rw [hw]
  simp only [Option.getD_some]
  congr 1 <;> omega
theorem cut_line {e : En} (h : Tells e) (r : List UInt8) (p : Nat) : ∃ ts, IsE e ts ∧ cutR (lineL e ++ r) p = preT ts (cutR r (p + (lineL e).length)) := by
  obtain ⟨ts, h1, h2⟩ := cut_body h (10 :: r) p
  refine ⟨ts, h1, ?_⟩
  have e1 : lineL e ++ r = entB e ++ 10 :: r := by rw [line_body, List.append_assoc]; rfl
  rw [e1, h2, nl_cut, line_body, List.length_append]
  rfl
/-- A manifest's text is read. -/
theorem text_cut : ∀ (es : List En), (∀ e ∈ es, Tells e) → ∀ (r : List UInt8) (p : Nat), ∃ ts, cutR (textL es ++ r) p = preT ts (cutR r (p + (textL es).length)) ∧ ∀ us, parseT (ts ++ us) = preE es (parseT us)
  | [], _, r, p => ⟨[], by rw [preT_nil]; rfl, fun us => by rw [preE_nil]; rfl⟩
  | e :: es, h, r, p => by
    obtain ⟨ts, h1, h2⟩ := cut_line (h e (List.mem_cons_self ..)) (textL es ++ r) p
    obtain ⟨us, h3, h4⟩ := text_cut es (fun x hx => h x (List.mem_cons_of_mem _ hx)) r (p + (lineL e).length)
    refine ⟨ts ++ us, ?_, fun vs => ?_⟩
    · rw [show textL (e :: es) ++ r = lineL e ++ (textL es ++ r) by simp [textL], h2, h3, preT_preT]
      congr 2
      simp [textL]; omega
    · rw [List.append_assoc, parse_e (h e (List.mem_cons_self ..)) h1, h4, preE_preE]; rfl
theorem text_parse {es : List En} (h : ∀ e ∈ es, Tells e) : parseL (textL es) = .ok es := by
  obtain ⟨ts, h1, h2⟩ := text_cut es h [] 0
  rw [List.append_nil] at h1
  unfold parseL
  rw [h1, cut_nil]
  show parseT (ts ++ [_]) = _
  rw [h2, parse_end rfl rfl]
  show Except.ok (es ++ []) = _
  rw [List.append_nil]
/-- What is read can be told. -/
theorem ent_tells {ts : List Tk} (he : Ended ts) (hv : ∀ t ∈ ts, t.val < 4294967296 ∧ (t.kind = 3 → ∃ q, quoL t.text = some q)) (h : errE ts = none) : Tells (entT ts) ∧ 11 < ts.length := by
  have hb := errI_none 11 0 h
  have hb' : ∀ j, j < 11 → badI ts j = none := fun j hj => hb j (Nat.zero_le _) (by omega)
  have hm : ∀ j, j < 11 → ∃ s t, shpT[j]? = some s ∧ ts[j]? = some t ∧ tkAt ts j = t ∧ t ∈ ts ∧ badT j s t = none := fun j hj => by
    have hl := he.more j (by omega) (fun i hi => hb' i (by omega))
    obtain ⟨s, hs⟩ : ∃ s, shpT[j]? = some s := ⟨_, List.getElem?_eq_getElem (by show j < 11; exact hj)⟩
    obtain ⟨t, ht⟩ : ∃ t, ts[j]? = some t := ⟨_, List.getElem?_eq_getElem hl⟩
    have := hb' j hj
    rw [badI_is hs ht] at this
    exact ⟨s, t, hs, ht, by unfold tkAt; rw [List.getD_eq_getElem?_getD, ht]; rfl, List.mem_of_getElem? ht, by cases hT : badT j s t with | none => rfl | some x => rw [hT] at this; cases this⟩
  refine ⟨?_, he.more 11 (by omega) hb'⟩
  obtain ⟨s1, t1, e1, _, a1, m1, b1⟩ := hm 1 (by omega)
  obtain ⟨_, t3, _, _, a3, m3, _⟩ := hm 3 (by omega)
  obtain ⟨_, t5, _, _, a5, m5, _⟩ := hm 5 (by omega)
  obtain ⟨_, t7, _, _, a7, m7, _⟩ := hm 7 (by omega)
  obtain ⟨_, t9, _, _, a9, m9, b9⟩ := hm 9 (by omega)
  have k1 : t1.kind = 3 := by
    rw [(mis_none (badT_none b1).1).1]
    have : s1 = ⟨3, [], 0, 0⟩ := by simpa [shpT] using e1.symm
    rw [this]
  have w9 := (badT_none b9).2 rfl
  obtain ⟨k, hk⟩ := Option.ne_none_iff_exists'.1 w9
  have hk3 := way_lt hk
  refine ⟨?_, ?_, ?_, ?_, ?_⟩
  · show ∃ q, quoL (tkAt ts 1).text = some q
    rw [a1]; exact (hv t1 m1).2 k1
  · show (0 : Int) ≤ ((tkAt ts 3).val : Int) ∧ ((tkAt ts 3).val : Int) < 4294967296
    rw [a3]; have := (hv t3 m3).1; omega
  · show (0 : Int) ≤ ((tkAt ts 5).val : Int) ∧ ((tkAt ts 5).val : Int) < 4294967296
    rw [a5]; have := (hv t5 m5).1; omega
  · show (0 : Int) ≤ ((tkAt ts 7).val : Int) ∧ ((tkAt ts 7).val : Int) < 4294967296
    rw [a7]; have := (hv t7 m7).1; omega
  · show (0 : Int) ≤ (((wayOf (tkAt ts 9).text).getD 0 : Nat) : Int) ∧ (((wayOf (tkAt ts 9).text).getD 0 : Nat) : Int) ≤ 3
    rw [a9, hk, Option.getD_some]; omega
theorem parse_tells : ∀ (ts : List Tk) (es : List En), Ended ts → (∀ t ∈ ts, t.val < 4294967296 ∧ (t.kind = 3 → ∃ q, quoL t.text = some q)) → parseT ts = .ok es → ∀ e ∈ es, Tells e := by
  intro ts
  induction hn : ts.length using Nat.strongRecOn generalizing ts with
  | _ n ih =>
    intro es he hv hp
    cases hts : ts with
    | nil => rw [hts, parseT] at hp; cases hp; intro e h; cases h
    | cons t r =>
      have h0 : ts[0]? = some t := by rw [hts]; rfl
      by_cases hk : t.kind = 0
      · rw [parse_end h0 hk] at hp; cases hp; intro e h; cases h
      · cases hE : errE ts with
        | some y => rw [parse_err h0 hk hE] at hp; cases hp
        | none =>
          obtain ⟨h1, h2⟩ := ent_tells he hv hE
          rw [parse_ent h0 hk hE] at hp
          cases hr : parseT (ts.drop 11) with
          | error y => rw [hr] at hp; cases hp
          | ok us =>
            rw [hr] at hp
            cases hp
            intro e h
            rcases List.mem_cons.1 h with rfl | h
            · exact h1
            · exact ih (ts.drop 11).length (by rw [List.length_drop]; omega) _ rfl us (he.drop h2) (fun u hu => hv u (List.mem_of_mem_drop hu)) hr e h
/-- What is read of a text is read again of its own. -/
theorem parse_again {l : List UInt8} {es : List En} (h : parseL l = .ok es) : (∀ e ∈ es, Tells e) ∧ parseL (textL es) = .ok es := by
  have ht : ∀ e ∈ es, Tells e := by
    unfold parseL at h
    cases hc : cutR l 0 with
    | error p => rw [hc] at h; cases h
    | ok ts =>
      rw [hc] at h
      obtain ⟨h1, h2⟩ := cut_told l 0 ts hc
      exact parse_tells ts es h1 h2 h
  exact ⟨ht, text_parse ht⟩
/-- An error's number, and its place within the text. -/
theorem parseL_err {l : List UInt8} {x : Nat × Nat} (h : parseL l = .error x) : (x.1 = 1 ∨ x.1 = 2 ∨ x.1 = 3) ∧ x.2 ≤ l.length := by
  unfold parseL at h
  cases hc : cutR l 0 with
  | error p => rw [hc] at h; cases h; exact ⟨.inl rfl, by have := (cut_err l 0 p hc).2; omega⟩
  | ok ts =>
    rw [hc] at h
    obtain ⟨h1, t, ht, h2⟩ := parse_num ts x h
    have := ((cut_placed l 0 ts hc).in_ t ht).2.1
    refine ⟨by omega, by omega⟩

/-! ### the end is cut off -/
def OkP (l : List UInt8) (p : Nat) : Prop := ∃ ts xs, cutR l p = .ok ts ∧ parseT ts = .ok xs
theorem okp_line {e : En} (h : Tells e) (r : List UInt8) (p : Nat) : OkP (lineL e ++ r) p ↔ OkP r (p + (lineL e).length) := by
  obtain ⟨ts, h1, h2⟩ := cut_line h r p
  unfold OkP
  rw [h2]
  cases cutR r (p + (lineL e).length) with
  | error q => constructor <;> rintro ⟨_, _, k, _⟩ <;> cases k
  | ok us =>
    constructor
    · rintro ⟨_, xs, k, k2⟩
      cases k
      rw [parse_e h h1] at k2
      cases hu : parseT us with
      | error y => rw [hu] at k2; cases k2
      | ok ys => exact ⟨us, ys, rfl, hu⟩
    · rintro ⟨_, xs, k, k2⟩
      cases k
      exact ⟨_, e :: xs, rfl, by rw [parse_e h h1, k2]; rfl⟩
theorem okp_nil (p : Nat) : OkP [] p := ⟨_, [], cut_nil p, parse_end rfl rfl⟩
theorem okp_body {e : En} (h : Tells e) (p : Nat) : OkP (entB e) p := by
  obtain ⟨ts, h1, h2⟩ := cut_body h [] p
  rw [List.append_nil] at h2
  exact ⟨_, _, by rw [h2, cut_nil]; rfl, by rw [parse_e h h1, parse_end rfl rfl]; rfl⟩
theorem okp_not {c : UInt8} {l : List UInt8} {p : Nat} (hc : letL.contains c = true) (h : (59 : UInt8) ∉ c :: l) : ¬ OkP (c :: l) p := by
  rintro ⟨ts, xs, h1, h2⟩
  have hc2 := let_plain c (List.contains_iff_mem.1 hc)
  obtain ⟨hE, hv⟩ := cut_told _ _ ts h1
  have hp := cut_placed _ _ ts h1
  have hfst : ∃ t, ts[0]? = some t ∧ t.kind ≠ 0 := by
    rw [cut_some hc2.1 hc2.2 (first_let hc)] at h1
    cases hq : cutR ((c :: l).drop (runOf wordL (c :: l)).length) (p + (runOf wordL (c :: l)).length) with
    | error q => rw [hq] at h1; cases h1
    | ok us => rw [hq] at h1; cases h1; exact ⟨_, rfl, Nat.one_ne_zero⟩
  obtain ⟨t, ht, hk⟩ := hfst
  cases he : errE ts with
  | some y => rw [parse_err ht hk he] at h2; cases h2
  | none =>
    have hb := errI_none 11 0 he
    have hl := hE.more 10 (by omega) (fun j hj => hb j (Nat.zero_le _) (by omega))
    obtain ⟨u, hu⟩ : ∃ u, ts[10]? = some u := ⟨_, List.getElem?_eq_getElem hl⟩
    have h10 := hb 10 (by omega) (by omega)
    rw [badI_is (s := ⟨4, [59], 0, 0⟩) rfl hu] at h10
    have hT : badT 10 ⟨4, [59], 0, 0⟩ u = none := by cases hT : badT 10 ⟨4, [59], 0, 0⟩ u with | none => rfl | some x => rw [hT] at h10; cases h10
    obtain ⟨k1, k2⟩ := mis_none (badT_none hT).1
    have k3 : u.text = [59] := k2 (by decide)
    have h3 := (hp.in_ u (List.mem_of_getElem? hu)).2.2 (by rw [k1]; decide)
    rw [k3] at h3
    have : (59 : UInt8) ∈ ((c :: l).drop (u.pos - p)).take 1 := by
      have := h3.2
      rw [show [(59 : UInt8)].length = 1 from rfl] at this
      rw [this]; simp
    exact h (List.mem_of_mem_drop (List.mem_of_mem_take this))
def headL (e : En) : List UInt8 := cImg ++ quoE e.name ++ cAt ++ numL 16 e.addr ++ cSize ++ numL 10 e.size ++ cPrint ++ numL 16 e.print ++ cBy ++ wayL e.way
theorem entB_head (e : En) : entB e = headL e ++ [59] := rfl
theorem line_head (e : En) : lineL e = headL e ++ [59, 10] := rfl
def safeB (l : List UInt8) : Bool := l.all fun c => !(c == 59) && !(c == 10)
theorem safe_app (a b : List UInt8) : safeB (a ++ b) = (safeB a && safeB b) := by unfold safeB; rw [List.all_append]
theorem safe_num {b : Nat} (hb : Base b) {n : Int} (h : 0 ≤ n) : safeB (numL b n) = true := by
  unfold numL
  rw [if_neg (by omega)]
  refine List.all_eq_true.2 fun c hc => ?_
  have h1 := digL_all hb _ c hc
  have hd : ∀ c ∈ decL, (!(c == 59) && !(c == 10)) = true := by decide
  have hh : ∀ c ∈ hexL, (!(c == 59) && !(c == 10)) = true := by decide
  rcases hb with rfl | rfl
  · rw [set10] at h1; exact hd c (List.contains_iff_mem.1 h1)
  · rw [set16] at h1; exact hh c (List.contains_iff_mem.1 h1)
theorem safe_way (w : Int) : safeB (wayL w) = true := by
  unfold wayL
  split
  · decide
  · split
    · decide
    · split
      · decide
      · decide
theorem safe_head {e : En} (h : Tells e) (hn : safeB (quoE e.name) = true) : safeB (headL e) = true := by
  unfold headL
  simp only [safe_app, Bool.and_eq_true]
  exact ⟨⟨⟨⟨⟨⟨⟨⟨⟨by decide, hn⟩, by decide⟩, safe_num (.inr rfl) h.addr.1⟩, by decide⟩, safe_num (.inl rfl) h.size.1⟩, by decide⟩, safe_num (.inr rfl) h.print.1⟩, by decide⟩, safe_way _⟩
def wholeB (l : List UInt8) : Bool := match l.getLast? with
  | none => true
  | some c => c == 59 || c == 10
theorem head_cons (e : En) : ∃ l, headL e = 105 :: l := ⟨_, rfl⟩
theorem okp_take {e : En} (h : Tells e) (hn : safeB (quoE e.name) = true) (p : Nat) : ∀ m, m ≤ (lineL e).length → (OkP ((lineL e).take m) p ↔ wholeB ((lineL e).take m) = true) := by
  intro m hm
  have hl : (lineL e).length = (headL e).length + 2 := by rw [line_head]; simp
  rw [hl] at hm
  rcases (by omega : m = 0 ∨ (1 ≤ m ∧ m ≤ (headL e).length) ∨ m = (headL e).length + 1 ∨ m = (headL e).length + 2) with rfl | ⟨h1, h2⟩ | rfl | rfl
  · exact ⟨fun _ => rfl, fun _ => okp_nil p⟩
  · have e1 : (lineL e).take m = (headL e).take m := by rw [line_head, List.take_append_of_le_length h2]
    rw [e1]
    have hs : safeB ((headL e).take m) = true := List.all_eq_true.2 fun c hc => List.all_eq_true.1 (safe_head h hn) c (List.mem_of_mem_take hc)
    obtain ⟨l, hl⟩ := head_cons e
    obtain ⟨k, rfl⟩ : ∃ k, m = k + 1 := ⟨m - 1, by omega⟩
    rw [hl, List.take_succ_cons] at hs ⊢
    refine ⟨fun k => absurd k (okp_not (by decide) fun hm => ?_), fun k => ?_⟩
    · have := List.all_eq_true.1 hs 59 hm
      revert this; decide
    · exfalso
      unfold wholeB at k
      cases hg : (105 :: l.take (by assumption)).getLast? with
      | none => simp at hg
      | some c =>
        rw [hg] at k
        have := List.all_eq_true.1 hs c (List.mem_of_getLast? hg)
        simp at this k
        rcases k with k | k
        · exact this.1 k
        · exact this.2 k
  · have e1 : (lineL e).take ((headL e).length + 1) = entB e := by rw [line_body, List.take_append_of_le_length (by rw [entB_head]; simp), entB_head, show (headL e).length + 1 = (headL e ++ [59]).length by simp, List.take_length]
    rw [e1]
    exact ⟨fun _ => by unfold wholeB; rw [entB_head]; simp, fun _ => okp_body h p⟩
  · rw [← hl, List.take_length]
    refine ⟨fun _ => by unfold wholeB; rw [line_head]; simp, fun _ => ?_⟩
    have := (okp_line h [] p).2 (okp_nil _)
    rwa [List.append_nil] at this
theorem okp_text : ∀ (es : List En), (∀ e ∈ es, Tells e ∧ safeB (quoE e.name) = true) → ∀ p k, k ≤ (textL es).length → (OkP ((textL es).take k) p ↔ wholeB ((textL es).take k) = true)
  | [], _, p, k, hk => by
    rw [show (textL []).take k = [] by simp [textL]]
    exact ⟨fun _ => rfl, fun _ => okp_nil p⟩
  | e :: es, h, p, k, hk => by
    obtain ⟨h1, h2⟩ := h e (List.mem_cons_self ..)
    have et : textL (e :: es) = lineL e ++ textL es := by simp [textL]
    rw [et] at hk ⊢
    rcases Nat.lt_or_ge (lineL e).length k with hlt | hge
    · obtain ⟨j, rfl⟩ : ∃ j, k = (lineL e).length + j := ⟨k - (lineL e).length, by omega⟩
      have ih := okp_text es (fun x hx => h x (List.mem_cons_of_mem _ hx)) (p + (lineL e).length) j (by rw [List.length_append] at hk; omega)
      rw [List.take_length_add_append, okp_line h1, ih]
      have hne : (textL es).take j ≠ [] := by
        intro e0
        have := congrArg List.length e0
        rw [List.length_append] at hk
        rw [List.length_take, List.length_nil] at this
        omega
      unfold wholeB
      obtain ⟨c, hc⟩ : ∃ c, ((textL es).take j).getLast? = some c := by
        cases hg : ((textL es).take j).getLast? with
        | none => exact absurd (List.getLast?_eq_none_iff.1 hg) hne
        | some c => exact ⟨c, rfl⟩
      rw [List.getLast?_append, hc]
      rfl
    · rw [List.take_append_of_le_length hge]
      exact okp_take h1 h2 p k hge
theorem okp_parse (l : List UInt8) : OkP l 0 ↔ ∃ es, parseL l = .ok es := by
  unfold OkP parseL
  constructor
  · rintro ⟨ts, xs, h1, h2⟩
    exact ⟨xs, by rw [h1]; exact h2⟩
  · rintro ⟨es, h⟩
    cases hc : cutR l 0 with
    | error p => rw [hc] at h; cases h
    | ok ts => rw [hc] at h; exact ⟨ts, es, rfl, h⟩
end Go.Proofs.YtonloefjhofeeaaGreatDoor
