/-
  Manifests, plainly: what is read of an entry's text; what is read can be told; a text whose end is cut off.
-/
import Derived.Test.YtkhhcclomjfliaaGreatDoorManifestPlain
namespace Go.Proofs.YtkhhcclomjfliaaGreatDoor
set_option linter.unusedVariables false

/-! ### what tokens can be -/
theorem esc_qe {c d : UInt8} (h : escD c = some d) : qe d = some c := by
  unfold escD at h
  split at h
  · rename_i k; cases h; rw [k]; decide
  · split at h
    · rename_i k; cases h; rw [k]; decide
    · split at h
      · rename_i k; cases h; rw [k]; decide
      · split at h
        · rename_i k; cases h; rw [k]; decide
        · cases h
theorem quo_cons {c : UInt8} {x l q : List UInt8} (h1 : quo1 c = some x) (h2 : quoL l = some q) : quoL (c :: l) = some (x ++ q) := by
  simp only [quoL, h1, h2, Option.map_some]
theorem prn_quo {c : UInt8} (h : prn c = true) : ∃ x, quo1 c = some x := by
  unfold quo1
  split
  · exact ⟨_, rfl⟩
  · rw [if_pos h]; exact ⟨_, rfl⟩
theorem str_told : ∀ (r : List UInt8) (x : List UInt8 × Nat), strT r = some x → ∃ q, quoL x.1 = some q
  | [], x, h => by simp [strT] at h
  | [c], x, h => by
    simp only [strT] at h
    split at h
    · cases h; exact ⟨[], rfl⟩
    · cases h
  | c :: e :: r, x, h => by
    rw [strT_two] at h
    split at h
    · cases h; exact ⟨[], rfl⟩
    · split at h
      · split at h
        · rename_i d hd
          cases hr : strT r with
          | none => rw [hr] at h; cases h
          | some y =>
            rw [hr] at h
            cases h
            obtain ⟨q, hq⟩ := str_told r y hr
            exact ⟨_, quo_cons (by unfold quo1; rw [esc_qe hd]) hq⟩
        · cases h
      · split at h
        · rename_i hp
          cases hr : strT (e :: r) with
          | none => rw [hr] at h; cases h
          | some y =>
            rw [hr] at h
            cases h
            obtain ⟨q, hq⟩ := str_told (e :: r) y hr
            obtain ⟨z, hz⟩ := prn_quo hp
            exact ⟨_, quo_cons hz hq⟩
        · cases h
theorem first_told {s : List UInt8} {x : Tk × Nat} (h : firstT s = some x) : x.1.kind = 3 → ∃ q, quoL x.1.text = some q := by
  unfold firstT at h
  split at h
  · cases h
  · rename_i c r
    split at h
    · cases h; intro k; cases k
    · split at h
      · unfold numT at h
        split at h
        · cases h
        · cases h; intro k; cases k
      · split at h
        · cases hr : strT r with
          | none => rw [hr] at h; cases h
          | some y =>
            rw [hr] at h
            cases h
            intro _
            exact str_told r y hr
        · split at h
          · cases h; intro k; cases k
          · cases h
theorem cut_told (l : List UInt8) (p : Nat) : ∀ ts, cutR l p = .ok ts → Ended ts ∧ ∀ t ∈ ts, t.val < 4294967296 ∧ (t.kind = 3 → ∃ q, quoL t.text = some q) := by
  refine cut_ind (fun l p x => ∀ ts, x = .ok ts → Ended ts ∧ ∀ t ∈ ts, t.val < 4294967296 ∧ (t.kind = 3 → ∃ q, quoL t.text = some q)) ?_ ?_ ?_ ?_ ?_ l p
  · intro p ts h
    cases h
    refine ⟨⟨[], p, rfl, fun u hu => by cases hu⟩, fun t ht => ?_⟩
    obtain rfl : t = ⟨0, [], 0, p⟩ := by simpa using ht
    exact ⟨by simp, fun k => by cases k⟩
  · intro l p k h1 h2 h ts hts; exact h ts hts
  · intro c r p ts h; cases h
  · intro l p t n q hf h ts hts; cases hts
  · intro l p t n ts hf h us hus
    cases hus
    have hx := firstT_le hf
    obtain ⟨⟨vs, q, rfl, hk⟩, h2⟩ := h ts rfl
    refine ⟨⟨{ t with pos := p } :: vs, q, rfl, fun u hu => ?_⟩, fun u hu => ?_⟩
    · rcases List.mem_cons.1 hu with rfl | hu
      · exact hx.2.2.2.1
      · exact hk u hu
    · rcases List.mem_cons.1 hu with rfl | hu
      · exact ⟨hx.2.2.2.2.2.1, fun k => first_told hf k⟩
      · exact h2 u hu

/-! ### an entry is read of its tokens -/
theorem way_of {w : Int} (h : 0 ≤ w ∧ w ≤ 3) : wayOf (wayL w) = some w.toNat := by
  rcases (by omega : w = 0 ∨ w = 1 ∨ w = 2 ∨ w = 3) with rfl | rfl | rfl | rfl <;> decide
theorem way_lt {t : List UInt8} {k : Nat} (h : wayOf t = some k) : k ≤ 3 := by
  unfold wayOf at h
  split at h
  · cases h; omega
  · split at h
    · cases h; omega
    · split at h
      · cases h; omega
      · split at h
        · cases h; omega
        · cases h
theorem parse_e {e : En} (h : Tells e) {ts : List Tk} (ht : IsE e ts) (us : List Tk) : parseT (ts ++ us) = preE [e] (parseT us) := by
  obtain ⟨p0, p1, p2, p3, p4, p5, p6, p7, p8, p9, p10, x, y, z, rfl⟩ := ht
  have hw := way_of h.way
  have h1 := h.addr
  have h2 := h.size
  have h3 := h.print
  have h4 := h.way
  obtain ⟨nm, ad, sz, pr, wy⟩ := e
  dsimp only at *
  generalize wayL wy = W at *
  have hb : ∀ j, j < 11 → badI ([⟨1, kImg, 0, p0⟩, ⟨3, nm, 0, p1⟩, ⟨1, kAt, 0, p2⟩, ⟨2, x, ad.toNat, p3⟩, ⟨1, kSize, 0, p4⟩, ⟨2, y, sz.toNat, p5⟩, ⟨1, kPrint, 0, p6⟩, ⟨2, z, pr.toNat, p7⟩, ⟨1, kBy, 0, p8⟩, ⟨1, W, 0, p9⟩, ⟨4, [59], 0, p10⟩] ++ us) j = none := by
    intro j hj
    rcases (by omega : j = 0 ∨ j = 1 ∨ j = 2 ∨ j = 3 ∨ j = 4 ∨ j = 5 ∨ j = 6 ∨ j = 7 ∨ j = 8 ∨ j = 9 ∨ j = 10) with rfl | rfl | rfl | rfl | rfl | rfl | rfl | rfl | rfl | rfl | rfl <;>
      simp [badI, shpT, badT, misT, kImg, kAt, kSize, kPrint, kBy, hw]
  have he : errE ([⟨1, kImg, 0, p0⟩, ⟨3, nm, 0, p1⟩, ⟨1, kAt, 0, p2⟩, ⟨2, x, ad.toNat, p3⟩, ⟨1, kSize, 0, p4⟩, ⟨2, y, sz.toNat, p5⟩, ⟨1, kPrint, 0, p6⟩, ⟨2, z, pr.toNat, p7⟩, ⟨1, kBy, 0, p8⟩, ⟨1, W, 0, p9⟩, ⟨4, [59], 0, p10⟩] ++ us) = none := by
    cases he : errE ([⟨1, kImg, 0, p0⟩, ⟨3, nm, 0, p1⟩, ⟨1, kAt, 0, p2⟩, ⟨2, x, ad.toNat, p3⟩, ⟨1, kSize, 0, p4⟩, ⟨2, y, sz.toNat, p5⟩, ⟨1, kPrint, 0, p6⟩, ⟨2, z, pr.toNat, p7⟩, ⟨1, kBy, 0, p8⟩, ⟨1, W, 0, p9⟩, ⟨4, [59], 0, p10⟩] ++ us) with
    | none => rfl
    | some v =>
      obtain ⟨j, h5, h6, h7⟩ := errI_some 11 0 he
      rw [hb j (by omega)] at h7; cases h7
  have hp := parse_ent (t := ⟨1, kImg, 0, p0⟩) rfl Nat.one_ne_zero he
  rw [hp]
  congr 2
  show En.mk nm ((ad.toNat : Nat) : Int) ((sz.toNat : Nat) : Int) ((pr.toNat : Nat) : Int) (((wayOf W).getD 0 : Nat) : Int) = _
  rw [hw]
  simp only [Option.getD_some]
  congr 1 <;> omega
theorem cut_line {e : En} (h : Tells e) (r : List UInt8) (p : Nat) : ∃ ts, IsE e ts ∧ cutR (lineL e ++ r) p = preT ts (cutR r (p + (lineL e).length)) := by
  obtain ⟨ts, h1, h2⟩ := cut_body h (10 :: r) p
  refine ⟨ts, h1, ?_⟩
  have e1 : lineL e ++ r = entB e ++ 10 :: r := by rw [line_body, List.append_assoc]; rfl
  rw [e1, h2, nl_cut, line_body, List.length_append]
  rfl
/-- A manifest's text is read. -/
theorem text_cut : ∀ (es : List En), (∀ e ∈ es, Tells e) → ∀ (r : List UInt8) (p : Nat), ∃ ts, cutR (textL es ++ r) p = preT ts (cutR r (p + (textL es).length)) ∧ ∀ us, parseT (ts ++ us) = preE es (parseT us)
  | [], _, r, p => ⟨[], by rw [preT_nil]; rfl, fun us => by rw [preE_nil]; rfl⟩
  | e :: es, h, r, p => by
    obtain ⟨ts, h1, h2⟩ := cut_line (h e (List.mem_cons_self ..)) (textL es ++ r) p
    obtain ⟨us, h3, h4⟩ := text_cut es (fun x hx => h x (List.mem_cons_of_mem _ hx)) r (p + (lineL e).length)
    refine ⟨ts ++ us, ?_, fun vs => ?_⟩
    · rw [show textL (e :: es) ++ r = lineL e ++ (textL es ++ r) by simp [textL], h2, h3, preT_preT]
      congr 2
      simp [textL]; omega
    · rw [List.append_assoc, parse_e (h e (List.mem_cons_self ..)) h1, h4, preE_preE]; rfl
theorem text_parse {es : List En} (h : ∀ e ∈ es, Tells e) : parseL (textL es) = .ok es := by
  obtain ⟨ts, h1, h2⟩ := text_cut es h [] 0
  rw [List.append_nil] at h1
  unfold parseL
  rw [h1, cut_nil]
  show parseT (ts ++ [_]) = _
  rw [h2, parse_end rfl rfl]
  show Except.ok (es ++ []) = _
  rw [List.append_nil]
/-- What is read can be told. -/
theorem ent_tells {ts : List Tk} (he : Ended ts) (hv : ∀ t ∈ ts, t.val < 4294967296 ∧ (t.kind = 3 → ∃ q, quoL t.text = some q)) (h : errE ts = none) : Tells (entT ts) ∧ 11 < ts.length := by
  have hb := errI_none 11 0 h
  have hb' : ∀ j, j < 11 → badI ts j = none := fun j hj => hb j (Nat.zero_le _) (by omega)
  have hm : ∀ j, j < 11 → ∃ s t, shpT[j]? = some s ∧ ts[j]? = some t ∧ tkAt ts j = t ∧ t ∈ ts ∧ badT j s t = none := fun j hj => by
    have hl := he.more j (by omega) (fun i hi => hb' i (by omega))
    obtain ⟨s, hs⟩ : ∃ s, shpT[j]? = some s := ⟨_, List.getElem?_eq_getElem (by show j < 11; exact hj)⟩
    obtain ⟨t, ht⟩ : ∃ t, ts[j]? = some t := ⟨_, List.getElem?_eq_getElem hl⟩
    have := hb' j hj
    rw [badI_is hs ht] at this
    exact ⟨s, t, hs, ht, by unfold tkAt; rw [List.getD_eq_getElem?_getD, ht]; rfl, List.mem_of_getElem? ht, by cases hT : badT j s t with | none => rfl | some x => rw [hT] at this; cases this⟩
  refine ⟨?_, he.more 11 (by omega) hb'⟩
  obtain ⟨s1, t1, e1, _, a1, m1, b1⟩ := hm 1 (by omega)
  obtain ⟨_, t3, _, _, a3, m3, _⟩ := hm 3 (by omega)
  obtain ⟨_, t5, _, _, a5, m5, _⟩ := hm 5 (by omega)
  obtain ⟨_, t7, _, _, a7, m7, _⟩ := hm 7 (by omega)
  obtain ⟨_, t9, _, _, a9, m9, b9⟩ := hm 9 (by omega)
  have k1 : t1.kind = 3 := by
    rw [(mis_none (badT_none b1).1).1]
    have : s1 = ⟨3, [], 0, 0⟩ := by simpa [shpT] using e1.symm
    rw [this]
  have w9 := (badT_none b9).2 rfl
  obtain ⟨k, hk⟩ := Option.ne_none_iff_exists'.1 w9
  have hk3 := way_lt hk
  refine ⟨?_, ?_, ?_, ?_, ?_⟩
  · show ∃ q, quoL (tkAt ts 1).text = some q
    rw [a1]; exact (hv t1 m1).2 k1
  · show (0 : Int) ≤ ((tkAt ts 3).val : Int) ∧ ((tkAt ts 3).val : Int) < 4294967296
    rw [a3]; have := (hv t3 m3).1; omega
  · show (0 : Int) ≤ ((tkAt ts 5).val : Int) ∧ ((tkAt ts 5).val : Int) < 4294967296
    rw [a5]; have := (hv t5 m5).1; omega
  · show (0 : Int) ≤ ((tkAt ts 7).val : Int) ∧ ((tkAt ts 7).val : Int) < 4294967296
    rw [a7]; have := (hv t7 m7).1; omega
  · show (0 : Int) ≤ (((wayOf (tkAt ts 9).text).getD 0 : Nat) : Int) ∧ (((wayOf (tkAt ts 9).text).getD 0 : Nat) : Int) ≤ 3
    rw [a9, hk, Option.getD_some]; omega
theorem parse_tells : ∀ (ts : List Tk) (es : List En), Ended ts → (∀ t ∈ ts, t.val < 4294967296 ∧ (t.kind = 3 → ∃ q, quoL t.text = some q)) → parseT ts = .ok es → ∀ e ∈ es, Tells e := by
  intro ts
  induction hn : ts.length using Nat.strongRecOn generalizing ts with
  | _ n ih =>
    intro es he hv hp
    cases hts : ts with
    | nil => rw [hts, parseT] at hp; cases hp; intro e h; cases h
    | cons t r =>
      have h0 : ts[0]? = some t := by rw [hts]; rfl
      by_cases hk : t.kind = 0
      · rw [parse_end h0 hk] at hp; cases hp; intro e h; cases h
      · cases hE : errE ts with
        | some y => rw [parse_err h0 hk hE] at hp; cases hp
        | none =>
          obtain ⟨h1, h2⟩ := ent_tells he hv hE
          rw [parse_ent h0 hk hE] at hp
          cases hr : parseT (ts.drop 11) with
          | error y => rw [hr] at hp; cases hp
          | ok us =>
            rw [hr] at hp
            cases hp
            intro e h
            rcases List.mem_cons.1 h with rfl | h
            · exact h1
            · exact ih (ts.drop 11).length (by rw [List.length_drop]; omega) _ rfl us (he.drop h2) (fun u hu => hv u (List.mem_of_mem_drop hu)) hr e h
/-- What is read of a text is read again of its own. -/
theorem parse_again {l : List UInt8} {es : List En} (h : parseL l = .ok es) : (∀ e ∈ es, Tells e) ∧ parseL (textL es) = .ok es := by
  have ht : ∀ e ∈ es, Tells e := by
    unfold parseL at h
    cases hc : cutR l 0 with
    | error p => rw [hc] at h; cases h
    | ok ts =>
      rw [hc] at h
      obtain ⟨h1, h2⟩ := cut_told l 0 ts hc
      exact parse_tells ts es h1 h2 h
  exact ⟨ht, text_parse ht⟩
/-- An error's number, and its place within the text. -/
theorem parseL_err {l : List UInt8} {x : Nat × Nat} (h : parseL l = .error x) : (x.1 = 1 ∨ x.1 = 2 ∨ x.1 = 3) ∧ x.2 ≤ l.length := by
  unfold parseL at h
  cases hc : cutR l 0 with
  | error p => rw [hc] at h; cases h; exact ⟨.inl rfl, by have := (cut_err l 0 p hc).2; omega⟩
  | ok ts =>
    rw [hc] at h
    obtain ⟨h1, t, ht, h2⟩ := parse_num ts x h
    have := ((cut_placed l 0 ts hc).in_ t ht).2.1
    refine ⟨by omega, by omega⟩

/-! ### the end is cut off -/
def OkP (l : List UInt8) (p : Nat) : Prop := ∃ ts xs, cutR l p = .ok ts ∧ parseT ts = .ok xs
theorem okp_line {e : En} (h : Tells e) (r : List UInt8) (p : Nat) : OkP (lineL e ++ r) p ↔ OkP r (p + (lineL e).length) := by
  obtain ⟨ts, h1, h2⟩ := cut_line h r p
  unfold OkP
  rw [h2]
  cases cutR r (p + (lineL e).length) with
  | error q => constructor <;> rintro ⟨_, _, k, _⟩ <;> cases k
  | ok us =>
    constructor
    · rintro ⟨_, xs, k, k2⟩
      cases k
      rw [parse_e h h1] at k2
      cases hu : parseT us with
      | error y => rw [hu] at k2; cases k2
      | ok ys => exact ⟨us, ys, rfl, hu⟩
    · rintro ⟨_, xs, k, k2⟩
      cases k
      exact ⟨_, e :: xs, rfl, by rw [parse_e h h1, k2]; rfl⟩
theorem okp_nil (p : Nat) : OkP [] p := ⟨_, [], cut_nil p, parse_end rfl rfl⟩
theorem okp_body {e : En} (h : Tells e) (p : Nat) : OkP (entB e) p := by
  obtain ⟨ts, h1, h2⟩ := cut_body h [] p
  rw [List.append_nil] at h2
  exact ⟨_, _, by rw [h2, cut_nil]; rfl, by rw [parse_e h h1, parse_end rfl rfl]; rfl⟩
theorem okp_not {c : UInt8} {l : List UInt8} {p : Nat} (hc : letL.contains c = true) (h : (59 : UInt8) ∉ c :: l) : ¬ OkP (c :: l) p := by
  rintro ⟨ts, xs, h1, h2⟩
  have hc2 := let_plain c (List.contains_iff_mem.1 hc)
  obtain ⟨hE, hv⟩ := cut_told _ _ ts h1
  have hp := cut_placed _ _ ts h1
  have hfst : ∃ t, ts[0]? = some t ∧ t.kind ≠ 0 := by
    rw [cut_some hc2.1 hc2.2 (first_let hc)] at h1
    cases hq : cutR ((c :: l).drop (runOf wordL (c :: l)).length) (p + (runOf wordL (c :: l)).length) with
    | error q => rw [hq] at h1; cases h1
    | ok us => rw [hq] at h1; cases h1; exact ⟨_, rfl, Nat.one_ne_zero⟩
  obtain ⟨t, ht, hk⟩ := hfst
  cases he : errE ts with
  | some y => rw [parse_err ht hk he] at h2; cases h2
  | none =>
    have hb := errI_none 11 0 he
    have hl := hE.more 10 (by omega) (fun j hj => hb j (Nat.zero_le _) (by omega))
    obtain ⟨u, hu⟩ : ∃ u, ts[10]? = some u := ⟨_, List.getElem?_eq_getElem hl⟩
    have h10 := hb 10 (by omega) (by omega)
    rw [badI_is (s := ⟨4, [59], 0, 0⟩) rfl hu] at h10
    have hT : badT 10 ⟨4, [59], 0, 0⟩ u = none := by cases hT : badT 10 ⟨4, [59], 0, 0⟩ u with | none => rfl | some x => rw [hT] at h10; cases h10
    obtain ⟨k1, k2⟩ := mis_none (badT_none hT).1
    have k3 : u.text = [59] := k2 (by decide)
    have h3 := (hp.in_ u (List.mem_of_getElem? hu)).2.2 (by rw [k1]; decide)
    rw [k3] at h3
    have : (59 : UInt8) ∈ ((c :: l).drop (u.pos - p)).take 1 := by
      have := h3.2
      rw [show [(59 : UInt8)].length = 1 from rfl] at this
      rw [this]; simp
    exact h (List.mem_of_mem_drop (List.mem_of_mem_take this))
def headL (e : En) : List UInt8 := cImg ++ quoE e.name ++ cAt ++ numL 16 e.addr ++ cSize ++ numL 10 e.size ++ cPrint ++ numL 16 e.print ++ cBy ++ wayL e.way
theorem entB_head (e : En) : entB e = headL e ++ [59] := rfl
theorem line_head (e : En) : lineL e = headL e ++ [59, 10] := rfl
def safeB (l : List UInt8) : Bool := l.all fun c => !(c == 59) && !(c == 10)
theorem safe_app (a b : List UInt8) : safeB (a ++ b) = (safeB a && safeB b) := by unfold safeB; rw [List.all_append]
theorem safe_num {b : Nat} (hb : Base b) {n : Int} (h : 0 ≤ n) : safeB (numL b n) = true := by
  unfold numL
  rw [if_neg (by omega)]
  refine List.all_eq_true.2 fun c hc => ?_
  have h1 := digL_all hb _ c hc
  have hd : ∀ c ∈ decL, (!(c == 59) && !(c == 10)) = true := by decide
  have hh : ∀ c ∈ hexL, (!(c == 59) && !(c == 10)) = true := by decide
  rcases hb with rfl | rfl
  · rw [set10] at h1; exact hd c (List.contains_iff_mem.1 h1)
  · rw [set16] at h1; exact hh c (List.contains_iff_mem.1 h1)
theorem safe_way (w : Int) : safeB (wayL w) = true := by
  unfold wayL
  split
  · decide
  · split
    · decide
    · split
      · decide
      · decide
theorem safe_head {e : En} (h : Tells e) (hn : safeB (quoE e.name) = true) : safeB (headL e) = true := by
  unfold headL
  simp only [safe_app, Bool.and_eq_true]
  exact ⟨⟨⟨⟨⟨⟨⟨⟨⟨by decide, hn⟩, by decide⟩, safe_num (.inr rfl) h.addr.1⟩, by decide⟩, safe_num (.inl rfl) h.size.1⟩, by decide⟩, safe_num (.inr rfl) h.print.1⟩, by decide⟩, safe_way _⟩
def wholeB (l : List UInt8) : Bool := match l.getLast? with
  | none => true
  | some c => c == 59 || c == 10
theorem head_cons (e : En) : ∃ l, headL e = 105 :: l := ⟨_, rfl⟩
theorem okp_take {e : En} (h : Tells e) (hn : safeB (quoE e.name) = true) (p : Nat) : ∀ m, m ≤ (lineL e).length → (OkP ((lineL e).take m) p ↔ wholeB ((lineL e).take m) = true) := by
  intro m hm
  have hl : (lineL e).length = (headL e).length + 2 := by rw [line_head]; simp
  rw [hl] at hm
  rcases (by omega : m = 0 ∨ (1 ≤ m ∧ m ≤ (headL e).length) ∨ m = (headL e).length + 1 ∨ m = (headL e).length + 2) with rfl | ⟨h1, h2⟩ | rfl | rfl
  · exact ⟨fun _ => rfl, fun _ => okp_nil p⟩
  · have e1 : (lineL e).take m = (headL e).take m := by rw [line_head, List.take_append_of_le_length h2]
    rw [e1]
    have hs : safeB ((headL e).take m) = true := List.all_eq_true.2 fun c hc => List.all_eq_true.1 (safe_head h hn) c (List.mem_of_mem_take hc)
    obtain ⟨l, hl⟩ := head_cons e
    obtain ⟨k, rfl⟩ : ∃ k, m = k + 1 := ⟨m - 1, by omega⟩
    rw [hl, List.take_succ_cons] at hs ⊢
    refine ⟨fun k => absurd k (okp_not (by decide) fun hm => ?_), fun k => ?_⟩
    · have := List.all_eq_true.1 hs 59 hm
      revert this; decide
    · exfalso
      unfold wholeB at k
      cases hg : (105 :: l.take (by assumption)).getLast? with
      | none => simp at hg
      | some c =>
        rw [hg] at k
        have := List.all_eq_true.1 hs c (List.mem_of_getLast? hg)
        simp at this k
        rcases k with k | k
        · exact this.1 k
        · exact this.2 k
  · have e1 : (lineL e).take ((headL e).length + 1) = entB e := by rw [line_body, List.take_append_of_le_length (by rw [entB_head]; simp), entB_head, show (headL e).length + 1 = (headL e ++ [59]).length by simp, List.take_length]
    rw [e1]
    exact ⟨fun _ => by unfold wholeB; rw [entB_head]; simp, fun _ => okp_body h p⟩
  · rw [← hl, List.take_length]
    refine ⟨fun _ => by unfold wholeB; rw [line_head]; simp, fun _ => ?_⟩
    have := (okp_line h [] p).2 (okp_nil _)
    rwa [List.append_nil] at this
theorem okp_text : ∀ (es : List En), (∀ e ∈ es, Tells e ∧ safeB (quoE e.name) = true) → ∀ p k, k ≤ (textL es).length → (OkP ((textL es).take k) p ↔ wholeB ((textL es).take k) = true)
  | [], _, p, k, hk => by
    rw [show (textL []).take k = [] by simp [textL]]
    exact ⟨fun _ => rfl, fun _ => okp_nil p⟩
  | e :: es, h, p, k, hk => by
    obtain ⟨h1, h2⟩ := h e (List.mem_cons_self ..)
    have et : textL (e :: es) = lineL e ++ textL es := by simp [textL]
    rw [et] at hk ⊢
    rcases Nat.lt_or_ge (lineL e).length k with hlt | hge
    · obtain ⟨j, rfl⟩ : ∃ j, k = (lineL e).length + j := ⟨k - (lineL e).length, by omega⟩
      have ih := okp_text es (fun x hx => h x (List.mem_cons_of_mem _ hx)) (p + (lineL e).length) j (by rw [List.length_append] at hk; omega)
      rw [List.take_length_add_append, okp_line h1, ih]
      have hne : (textL es).take j ≠ [] := by
        intro e0
        have := congrArg List.length e0
        rw [List.length_append] at hk
        rw [List.length_take, List.length_nil] at this
        omega
      unfold wholeB
      obtain ⟨c, hc⟩ : ∃ c, ((textL es).take j).getLast? = some c := by
        cases hg : ((textL es).take j).getLast? with
        | none => exact absurd (List.getLast?_eq_none_iff.1 hg) hne
        | some c => exact ⟨c, rfl⟩
      rw [List.getLast?_append, hc]
      rfl
    · rw [List.take_append_of_le_length hge]
      exact okp_take h1 h2 p k hge
theorem okp_parse (l : List UInt8) : OkP l 0 ↔ ∃ es, parseL l = .ok es := by
  unfold OkP parseL
  constructor
  · rintro ⟨ts, xs, h1, h2⟩
    exact ⟨xs, by rw [h1]; exact h2⟩
  · rintro ⟨es, h⟩
    cases hc : cutR l 0 with
    | error p => rw [hc] at h; cases h
    | ok ts => rw [hc] at h; exact ⟨ts, es, rfl, h⟩
end Go.Proofs.YtkhhcclomjfliaaGreatDoor
