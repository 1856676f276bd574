/-
  A Watch is made: of each pattern its table.
-/
import Derived.Test.YtgidoieppplhpaaDoorExpect
import Derived.Test.YtgidoieppplhpaaDoorNfaEmpty
import Derived.Test.YtgidoieppplhpaaDoorRegexSize
import Derived.Test.YtgidoieppplhpaaDoorRegexParse
import Derived.Test.YtgidoieppplhpaaDoorNfaText
import Derived.Test.YtgidoieppplhpaaDoorOwnOne
import Derived.LoopTactic
import Derived.Deep.DeepCutAuto
namespace Go.Proofs.YtgidoieppplhpaaDoor
open Go.RowKit
set_option linter.unusedVariables false

/-- An Errno, as an error. -/
def errnoV (n : Int) : Value := .iface 40 (.int .i64 n)
/-- What a text is: a pattern that can be waited for, or what is wrong with it. -/
def pat9 (bs : List UInt8) : Re ⊕ Value :=
  if 64 < bs.length then .inr (faultV 7 64) else
    match parseF bs with
    | (some r, _) => if emp r then .inr (errnoV 8) else .inl r
    | (none, p) => .inr (faultV 8 (p : Int))
theorem pat9_len {bs : List UInt8} {r : Re} (h : pat9 bs = .inl r) : bs.length ≤ 64 ∧ emp r = false ∧ (parseF bs).1 = some r := by
  unfold pat9 at h
  split at h
  · cases h
  · split at h
    · rename_i h1 r' _ e
      split at h
      · cases h
      · rename_i h2
        injection h with h
        subst h
        exact ⟨by omega, by simpa using h2, by rw [e]⟩
    · cases h
theorem pat9_of {bs : List UInt8} {r : Re} (hl : bs.length ≤ 64) (hp : parseF bs = (some r, bs.length)) (he : emp r = false) : pat9 bs = .inl r := by
  unfold pat9
  rw [if_neg (by omega), hp]
  simp [he]
def TabPost (bs : List UInt8) (w : World) (e : Ending) (w' : World) : Prop :=
  Below w.heap.size w w' ∧ ((∃ r t, pat9 bs = .inl r ∧ e = .returned (.tuple #[ptrV t, .nilIface]) ∧ TabA w' w.heap.size t (auOf r) ∧ AuWf (auOf r)) ∨ (∃ x v, pat9 bs = .inr (.iface x v) ∧ e = .returned (.tuple #[.pointer none, .iface x v])))
theorem TabA.low {w : World} {lo lo' g : Nat} {A : Au} (h : TabA w lo g A) (hl : lo' ≤ lo) : TabA w lo' g A := by
  obtain ⟨F, c, L, k, ⟨vs, vg, M, vals, h1⟩, h2, h3⟩ := h
  exact ⟨F, c, L, k, ⟨vs, vg, M, vals, h1.blk, Nat.le_trans hl h1.log, Nat.le_trans hl h1.lom, own_low h1.sets hl, own_low h1.groups hl, fun i q hq => by obtain ⟨v, e, hr⟩ := h1.rows i q hq; exact ⟨v, e, own_low hr hl⟩, h1.leads⟩, own_low h2 hl, own_low h3 hl⟩
set_option maxHeartbeats 1000000 in
theorem table_any (bs : List UInt8) (w : World) : Calls Tryd.prog 19 #[.string (strB bs)] w (TabPost bs w) := by
  have HP := keepHid (parse_any bs w)
  go_enter Tryd.func19, Tryd.ntmps19
  go_wp2_with fail
  refine HP.out.mono ?_
  rintro e w1 ⟨hb1, hc⟩
  have HB1 := keepHid hb1
  rcases hc with ⟨hl, rfl⟩ | ⟨hl, ⟨r, h, hf, rfl, hi⟩ | ⟨p, hf, rfl⟩⟩
  · have HPP : Hid (pat9 bs = .inr (faultV 7 64)) := keepHid (by unfold pat9; rw [if_pos hl])
    have hb2 := HB1.out
    clear hb1 HP hl
    rw [hdV_hd0]
    unfold faultV at *
    go_wp2
    go_ret2
    refine ⟨?_, .inr ⟨_, _, HPP.out, rfl⟩⟩
    exact hb2.trans (((Below.refl _ _).alloc (Nat.le_refl _) _).mono hb2.size)
  · have hi1 := hi
    obtain ⟨w2, hw2⟩ : ∃ w2, w1.alloc (.cells (hdC h) 32) = w2 := ⟨_, rfl⟩
    obtain ⟨hi2, hb2, hk2⟩ := node_var hi hw2
    have hsm : Sm (addF r tb0).2 := sm_small (parse_nds hl hf)
    have HO := keepHid (of_any hi2 hsm)
    have WF := keepHid (auOf_wf hsm)
    have HB2 := keepHid (HB1.out.trans (hb2.mono HB1.out.size))
    have HW2 := keepHid hw2
    unfold hdC at hk2 HW2
    obtain ⟨n0, n1, n2, n3, n4, n5, nf⟩ := blk6 hk2
    have HPP : Hid (pat9 bs = if emp r then .inr (errnoV 8) else .inl r) := keepHid (by unfold pat9; rw [if_neg (by omega), hf])
    clear hi hi1 hi2 hb1 hb2 hk2 hw2 HP hl hf hsm
    unfold hdV at *
    go_upto_region 2 with fail
    rw [HW2.out]
    go_wp2_with fail
    with_reducible refine HO.out.mono ?_
    rintro e w3 ⟨g, rfl, hA, hb3⟩
    have HA := keepHid hA
    have HB3 := keepHid (HB2.out.trans (hb3.mono HB2.out.size))
    have HE := keepHid (tabA_empty hA)
    rw [show (auOf r).e = emp r from (auOf_ok r).e] at HE
    obtain ⟨E, hE⟩ : ∃ E, emp r = E := ⟨_, rfl⟩
    have HL : Hid (TabA w3 w.heap.size g (auOf r)) := keepHid (hA.low HB2.out.size)
    rw [hE] at HE HPP
    clear hA hb3 hE n0 n1 n2 n3 n4 n5 nf
    go_wp2_with fail
    with_reducible refine HE.out.mono ?_
    rintro e w' ⟨rfl, rfl⟩
    cases E
    · go_wp2
      go_ret2
      exact ⟨HB3.out, .inl ⟨r, g, by rw [HPP.out]; rfl, rfl, HL.out, WF.out⟩⟩
    · go_wp2
      go_ret2
      exact ⟨HB3.out, .inr ⟨_, _, by rw [HPP.out]; rfl, rfl⟩⟩
  · have HPP : Hid (pat9 bs = .inr (faultV 8 (p : Int))) := keepHid (by unfold pat9; rw [if_neg (by omega), hf])
    have hb2 := HB1.out
    clear hb1 HP hl hf
    rw [hdV_hd0]
    unfold faultV at *
    go_wp2
    go_ret2
    refine ⟨?_, .inr ⟨_, _, HPP.out, rfl⟩⟩
    exact hb2.trans (((Below.refl _ _).alloc (Nat.le_refl _) _).mono hb2.size)

/-- What several texts are. -/
def of9 : List (List UInt8) → List Re ⊕ Value
  | [] => .inl []
  | s :: l =>
    match pat9 s with
    | .inr v => .inr v
    | .inl r => match of9 l with
      | .inr v => .inr v
      | .inl rs => .inl (r :: rs)
theorem of9_snoc : ∀ (l : List (List UInt8)) (rs : List Re) (s : List UInt8) (r : Re), of9 l = .inl rs → pat9 s = .inl r → of9 (l ++ [s]) = .inl (rs ++ [r])
  | [], rs, s, r, h, k => by
    simp [of9] at h
    subst h
    simp [of9, k]
  | x :: l, rs, s, r, h, k => by
    unfold of9 at h
    cases hx : pat9 x with
    | inr v => rw [hx] at h; cases h
    | inl q =>
      rw [hx] at h
      cases hl : of9 l with
      | inr v => rw [hl] at h; cases h
      | inl qs =>
        rw [hl] at h
        simp at h
        subst h
        have := of9_snoc l qs s r hl k
        simp [of9, hx, this]
theorem of9_bad : ∀ (l m : List (List UInt8)) (rs : List Re) (s : List UInt8) (v : Value), of9 l = .inl rs → pat9 s = .inr v → of9 (l ++ s :: m) = .inr v
  | [], m, rs, s, v, h, k => by simp [of9, k]
  | x :: l, m, rs, s, v, h, k => by
    unfold of9 at h
    cases hx : pat9 x with
    | inr v => rw [hx] at h; cases h
    | inl q =>
      rw [hx] at h
      cases hl : of9 l with
      | inr v => rw [hl] at h; cases h
      | inl qs =>
        have := of9_bad l m qs s v hl k
        simp [of9, hx, this]
theorem of9_len : ∀ (l : List (List UInt8)) (rs : List Re), of9 l = .inl rs → rs.length = l.length
  | [], rs, h => by simp [of9] at h; subst h; rfl
  | x :: l, rs, h => by
    unfold of9 at h
    cases hx : pat9 x with
    | inr v => rw [hx] at h; cases h
    | inl q =>
      rw [hx] at h
      cases hl : of9 l with
      | inr v => rw [hl] at h; cases h
      | inl qs =>
        rw [hl] at h
        simp at h
        subst h
        simp [of9_len l qs hl]
/-- No other block than the tables' has turned. -/
theorem TabA.other {w w' : World} {lo g : Nat} {A : Au} (h : TabA w lo g A) (hk : ∀ b, lo ≤ b → b < w.heap.size → (∀ cur, ¬ Blk w b 42 cur) → w'.heap[b]? = w.heap[b]?) : TabA w' lo g A := by
  have hrow : ∀ {e : TypeId} {size n : Nat} {v : Value} {xs : List Value}, w.ownsRow lo e size v n xs → e ≠ 42 → w'.ownsRow lo e size v n xs := by
    intro e size n v xs h hne
    refine own_keep h fun i hi hl => hk i (h.lt i hi).1 hl fun cur hc => ?_
    obtain ⟨cur', hc'⟩ := own_obj h hi
    exact blk_ne hc' hc hne rfl
  obtain ⟨F, c, L, k, ⟨vs, vg, M, vals, h1⟩, h2, h3⟩ := h
  refine ⟨F, c, L, k, ⟨vs, vg, M, vals, ?_⟩, hrow h2 (by decide), hrow h3 (by decide)⟩
  exact ⟨(hk g h1.log h1.blk.lt fun cur hc => blk_ne h1.blk hc (by decide) rfl).trans h1.blk, h1.log, h1.lom, hrow h1.sets (by decide), hrow h1.groups (by decide), fun i q hq => by obtain ⟨v, e, hr⟩ := h1.rows i q hq; exact ⟨v, e, hrow hr (by decide)⟩,
    h1.leads.keep (hk M h1.lom h1.leads.lt fun cur hc => by obtain ⟨es, c, hm⟩ := h1.leads.obj; unfold Blk at hc; rw [hm] at hc; cases hc)⟩
def nil8 : List Value := List.replicate 8 (.slice none 0 0)
/-- A Watch that is being made: the tables of rs are there. -/
structure OfMid (w : World) (g : Nat) (rs : List Re) (ts : List Nat) (P : Option Addr) (cap : Nat) : Prop where
  blk : Blk w g 60 (cellsW (.slice P rs.length cap) nil8 0 false)
  own : w.ownsRow (g + 1) 42 1 (.slice P rs.length cap) rs.length (ts.map ptrV)
  len : ts.length = rs.length
  tab : ∀ (j : Nat) (r : Re), rs[j]? = some r → ∃ t, ts[j]? = some t ∧ TabA w (g + 1) t (auOf r)
  wf : ∀ r ∈ rs, AuWf (auOf r)
theorem OfMid.below {w w' : World} {g : Nat} {rs : List Re} {ts : List Nat} {P : Option Addr} {cap : Nat} (h : OfMid w g rs ts P cap) (hb : Below w.heap.size w w') : OfMid w' g rs ts P cap :=
  ⟨h.blk.below hb h.blk.lt, own_keep h.own fun i _ hl => hb.block i hl, h.len, fun j r hr => by obtain ⟨t, h1, h2⟩ := h.tab j r hr; exact ⟨t, h1, h2.keep hb⟩, h.wf⟩
/-- One table more. -/
theorem OfMid.push {w w2 : World} {g : Nat} {rs : List Re} {ts : List Nat} {P P2 : Option Addr} {cap cap2 : Nat} (h : OfMid w g rs ts P cap) {r : Re} {t : Nat} (ht : TabA w (g + 1) t (auOf r)) (hwf : AuWf (auOf r))
    (ho : w2.ownsRow (g + 1) 42 1 (.slice P2 (rs.length + 1) cap2) (rs.length + 1) (ts.map ptrV ++ [ptrV t])) (hg : w.grownBy w2 (Value.slice P rs.length cap).ownBlock) :
    OfMid (w2.setCell ⟨g, 0, none⟩ (.slice P2 (rs.length + 1) cap2)) g (rs ++ [r]) (ts ++ [t]) P2 cap2 ∧ w2.cell? ⟨g, 0, none⟩ = some (.slice P rs.length cap) ∧ w2.frozen? ⟨g, 0, none⟩ = false ∧ Turn (fun b => g ≤ b) w (w2.setCell ⟨g, 0, none⟩ (.slice P2 (rs.length + 1) cap2)) := by
  have hne : some g ≠ (Value.slice P rs.length cap).ownBlock := fun e => by have := (h.own.lt g e.symm).1; omega
  have hk2 : Blk w2 g 60 (cellsW (.slice P rs.length cap) nil8 0 false) := (hg.block g h.blk.lt hne).trans h.blk
  have far : ∀ b, b ≠ g → (w2.setCell ⟨g, 0, none⟩ (.slice P2 (rs.length + 1) cap2)).heap[b]? = w2.heap[b]? := fun b hb => Below.heap_setCell w2 ⟨g, 0, none⟩ _ b hb
  have keep : ∀ {t' : Nat} {A : Au}, TabA w (g + 1) t' A → TabA (w2.setCell ⟨g, 0, none⟩ (.slice P2 (rs.length + 1) cap2)) (g + 1) t' A := fun hT => hT.other fun b hb hl hc => by
    rw [far b (by omega)]
    exact hg.block b hl (fun e => by obtain ⟨cur, hcur⟩ := own_obj h.own e.symm; exact hc cur hcur)
  have ht2 : Turn (fun b => g ≤ b) w w2 := ⟨hg.os, hg.tape, hg.output, hg.size, fun i hi hn => hg.block i hi (fun e => by have := (h.own.lt i e.symm).1; simp at hn; omega)⟩
  refine ⟨⟨?_, ?_, by simp [h.len], fun j r' hr => ?_, fun r' hr => ?_⟩, (hk2.cell 0).trans (cells_tabs _ _ _ _), hk2.frozen 0, Turn.setCell (S := fun b => g ≤ b) ht2 (.inl (Nat.le_refl g)) _⟩
  · have := hk2.put 0 (.slice P2 (rs.length + 1) cap2)
    simpa [cellsW] using this
  · rw [List.length_append, List.map_append]
    refine own_keep ho fun b hb _ => far b (fun e => ?_)
    have := (ho.lt b hb).1
    omega
  · rcases get_push hr with h1 | ⟨h1, rfl⟩
    · obtain ⟨t', q1, q2⟩ := h.tab j r' h1
      refine ⟨t', ?_, keep q2⟩
      rw [List.getElem?_append_left (by
        rcases Nat.lt_or_ge j ts.length with hl | hl
        · exact hl
        · rw [List.getElem?_eq_none hl] at q1; cases q1)]
      exact q1
    · refine ⟨t, ?_, keep ht⟩
      rw [List.getElem?_append_right (by rw [h.len]; omega), h.len, h1]
      simp
  · rcases List.mem_append.1 hr with h1 | h1
    · exact h.wf r' h1
    · simp at h1; subst h1; exact hwf
/-- A Watch that has just been made. -/
structure Wat0 (w : World) (H g : Nat) (As : List Au) (A : Option Addr) (cap : Nat) : Prop where
  tabs : ∃ ts w0, Tbs w H g As A ts w0
  blk : Blk w g 60 (cellsW (.slice A As.length cap) nil8 0 false)
  few : As.length ≤ 8
  base : g < H ∧ H ≤ w.heap.size
theorem nil8_at {j : Nat} (h : j < 8) : nil8[j]? = some (.slice none 0 0) := by unfold nil8; rw [List.getElem?_replicate, if_pos h]
theorem Wat0.turn {S : Nat → Prop} {w w' : World} {H g : Nat} {As : List Au} {A : Option Addr} {cap : Nat} (h : Wat0 w H g As A cap) (ht : Turn S w w') (hS : ∀ b, S b → b < g ∨ H ≤ b) : Wat0 w' H g As A cap := by
  obtain ⟨ts, w0, h1⟩ := h.tabs
  exact ⟨⟨ts, w0, h1.turn (B := H) ht fun b e => by have := hS b e; omega⟩, ht.blk h.blk (fun e => by have := hS g e; have := h.base.1; omega), h.few, h.base.1, Nat.le_trans h.base.2 ht.size⟩
theorem Wat0.below {w w' : World} {H g : Nat} {As : List Au} {A : Option Addr} {cap : Nat} (h : Wat0 w H g As A cap) (hb : Below w.heap.size w w') : Wat0 w' H g As A cap :=
  h.turn (S := fun _ => False) (Turn.of_below hb) (fun _ e => e.elim)
/-- It waits. -/
theorem Wat0.wat {w : World} {H g : Nat} {As : List Au} {A : Option Addr} {cap : Nat} (h : Wat0 w H g As A cap) {B : Nat} (h1 : H ≤ B) (h2 : B ≤ w.heap.size) : Wat w H B g As [] :=
  ⟨A, cap, nil8, h.tabs, h.blk, ⟨rfl, fun j a hj => ⟨none, 0, 0, nil8_at (by
    have := h.few
    rcases Nat.lt_or_ge j As.length with hl | hl
    · omega
    · rw [List.getElem?_eq_none hl] at hj; cases hj), Sl.nil, fun ad e => by cases e⟩⟩, h.few, h.base.1, h1, h2⟩
theorem OfMid.done {w : World} {g : Nat} {rs : List Re} {ts : List Nat} {P : Option Addr} {cap : Nat} (h : OfMid w g rs ts P cap) (h8 : rs.length ≤ 8) : Wat0 w w.heap.size g (rs.map auOf) P cap := by
  have hl : (rs.map auOf).length = rs.length := List.length_map _
  refine ⟨⟨ts, w, Nat.le_refl _, Nat.le_refl _, fun _ _ _ => rfl, ?_, fun ad e => ?_, fun j a ha => ?_, fun j a ha => ?_⟩, by rw [hl]; exact h.blk, by rw [hl]; exact h8, h.blk.lt, Nat.le_refl _⟩
  · rw [hl]
    exact Sl.of_own h.own (by unfold maxLen; omega)
  · subst e
    rcases h.own.2 with ⟨hv, _⟩ | ⟨b, cap', cur, hv, hb, _⟩
    · cases hv
    · injection hv with e1
      injection e1 with e1
      subst e1
      exact hb
  · rw [List.getElem?_map] at ha
    obtain ⟨r, hr, rfl⟩ := Option.map_eq_some_iff.1 ha
    exact h.tab j r hr
  · rw [List.getElem?_map] at ha
    obtain ⟨r, hr, rfl⟩ := Option.map_eq_some_iff.1 ha
    exact h.wf r (List.mem_of_getElem? hr)
end Go.Proofs.YtgidoieppplhpaaDoor
