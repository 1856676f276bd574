/-
  A Watch is made: of each pattern its table.
-/
import Derived.Test.YtgndcgknedmalaaGreatDoorExpect
import Derived.Test.YtgndcgknedmalaaGreatDoorNfaEmpty
import Derived.Test.YtgndcgknedmalaaGreatDoorRegexBuild
import Derived.Test.YtgndcgknedmalaaGreatDoorRegexAtom
import Derived.Test.YtgndcgknedmalaaGreatDoorNfaVar
import Derived.Test.YtgndcgknedmalaaGreatDoorNfaSl
import Derived.LoopTactic
import Derived.Deep.DeepCutAuto
namespace Go.Proofs.YtgndcgknedmalaaGreatDoor
open Go.RowKit
set_option linter.unusedVariables false

/-- An Errno, as an error. -/
def errnoV (n : Int) : Value := .iface 89 (.int .i64 n)
/-- What a text is: a pattern that can be waited for, or what is wrong with it. -/
def pat9 (bs : List UInt8) : Re ⊕ Value :=
  if 64 < bs.length then .inr (faultV 7 64) else
    match parseF bs with
    | (some r, _) => if emp r then .inr (errnoV 8) else .inl r
    | (none, p) => .inr (faultV 8 (p : Int))
theorem pat9_len {bs : List UInt8} {r : Re} (h : pat9 bs = .inl r) : bs.length ≤ 64 ∧ emp r = false ∧ (parseF bs).1 = some r := by
  unfold pat9 at h
  split at h
  · cases h
  · split at h
    · rename_i h1 r' _ e
      split at h
      · cases h
      · rename_i h2
        injection h with h
        subst h
        exact ⟨by omega, by simpa using h2, by rw [e]⟩
    · cases h
theorem pat9_of {bs : List UInt8} {r : Re} (hl : bs.length ≤ 64) (hp : parseF bs = (some r, bs.length)) (he : emp r = false) : pat9 bs = .inl r := by
  unfold pat9
  rw [if_neg (by omega), hp]
  simp [he]
def TabPost (bs : List UInt8) (w : World) (e : Ending) (w' : World) : Prop :=
  Below w.heap.size w w' ∧ ((∃ r t, pat9 bs = .inl r ∧ e = .returned (.tuple #[ptrV t, .nilIface]) ∧ TabA w' w.heap.size t (auOf r) ∧ AuWf (auOf r)) ∨ (∃ x v, pat9 bs = .inr (.iface x v) ∧ e = .returned (.tuple #[.pointer none, .iface x v])))
theorem TabA.low {w : World} {lo lo' g : Nat} {A : Au} (h : TabA w lo g A) (hl : lo' ≤ lo) : TabA w lo' g A := by
  obtain ⟨F, c, L, k, ⟨vs, vg, M, vals, h1⟩, h2, h3⟩ := h
  exact ⟨F, c, L, k, ⟨vs, vg, M, vals, h1.blk, Nat.le_trans hl h1.log, Nat.le_trans hl h1.lom, own_low h1.sets hl, own_low h1.groups hl, fun i q hq => by obtain ⟨v, e, hr⟩ := h1.rows i q hq; exact ⟨v, e, own_low hr hl⟩, h1.leads⟩, own_low h2 hl, own_low h3 hl⟩
set_option maxHeartbeats 1000000 in
theorem table_any (bs : List UInt8) (w : World) : Calls Tryz.prog 67 #[.string (strB bs)] w (TabPost bs w) := by
  have HP := keepHid (parse_any bs w)
  go_enter Tryz.func67, Tryz.ntmps67
  go_wp2_with fail
  refine HP.out.mono ?_
  rintro e w1 ⟨hb1, hc⟩
  have HB1 := keepHid hb1
  rcases hc with ⟨hl, rfl⟩ | ⟨hl, ⟨r, h, hf, rfl, hi⟩ | ⟨p, hf, rfl⟩⟩
  · have HPP : Hid (pat9 bs = .inr (faultV 7 64)) := keepHid (by unfold pat9; rw [if_pos hl])
    have hb2 := HB1.out
    clear hb1 HP hl
    rw [hdV_hd0]
    unfold faultV at *
    go_wp2
    go_ret2
    refine ⟨?_, .inr ⟨_, _, HPP.out, rfl⟩⟩
    exact hb2.trans (((Below.refl _ _).alloc (Nat.le_refl _) _).mono hb2.size)
  · have hi1 := hi
    obtain ⟨w2, hw2⟩ : ∃ w2, w1.alloc (.cells (hdC h) 76) = w2 := ⟨_, rfl⟩
    obtain ⟨hi2, hb2, hk2⟩ := node_var hi hw2
    have hsm : Sm (addF r tb0).2 := sm_small (parse_nds hl hf)
    have HO := keepHid (of_any hi2 hsm)
    have WF := keepHid (auOf_wf hsm)
    have HB2 := keepHid (HB1.out.trans (hb2.mono HB1.out.size))
    have HW2 := keepHid hw2
    unfold hdC at hk2 HW2
    obtain ⟨n0, n1, n2, n3, n4, n5, nf⟩ := blk6 hk2
    have HPP : Hid (pat9 bs = if emp r then .inr (errnoV 8) else .inl r) := keepHid (by unfold pat9; rw [if_neg (by omega), hf])
    clear hi hi1 hi2 hb1 hb2 hk2 hw2 HP hl hf hsm
    unfold hdV at *
    go_upto_region 2 with fail
    rw [HW2.out]
    go_wp2_with fail
    with_reducible refine HO.out.mono ?_
    rintro e w3 ⟨g, rfl, hA, hb3⟩
    have HA := keepHid hA
    have HB3 := keepHid (HB2.out.trans (hb3.mono HB2.out.size))
    have HE := keepHid (tabA_empty hA)
    rw [show (auOf r).e = emp r from (auOf_ok r).e] at HE
    obtain ⟨E, hE⟩ : ∃ E, emp r = E := ⟨_, rfl⟩
    have HL : Hid (TabA w3 w.heap.size g (auOf r)) := keepHid (hA.low HB2.out.size)
    rw [hE] at HE HPP
    clear hA hb3 hE n0 n1 n2 n3 n4 n5 nf
    go_wp2_with fail
    with_reducible refine HE.out.mono ?_
    rintro e w' ⟨rfl, rfl⟩
    cases E
    · go_wp2
      go_ret2
      exact ⟨HB3.out, .inl ⟨r, g, by rw [HPP.out]; rfl, rfl, HL.out, WF.out⟩⟩
    · go_wp2
      go_ret2
      exact ⟨HB3.out, .inr ⟨_, _, by rw [HPP.out]; rfl, rfl⟩⟩
  · have HPP : Hid (pat9 bs = .inr (faultV 8 (p : Int))) := keepHid (by unfold pat9; rw [if_neg (by omega), hf])
    have hb2 := HB1.out
    clear hb1 HP hl hf
    rw [hdV_hd0]
    unfold faultV at *
    go_wp2
    go_ret2
    refine ⟨?_, .inr ⟨_, _, HPP.out, rfl⟩⟩
    exact hb2.trans (((Below.refl _ _).alloc (Nat.le_refl _) _).mono hb2.size)

/-- What several texts are. -/
def of9 : List (List UInt8) → List Re ⊕ Value
  | [] => .inl []
  | s :: l =>
    match pat9 s with
    | .inr v => .inr v
    | .inl r => match of9 l with
      | .inr v => .inr v
      | .inl rs => .inl (r :: rs)
theorem of9_snoc : ∀ (l : List (List UInt8)) (rs : List Re) (s : List UInt8) (r : Re), of9 l = .inl rs → pat9 s = .inl r → of9 (l ++ [s]) = .inl (rs ++ [r])
  | [], rs, s, r, h, k => by
    simp [of9] at h
    subst h
    simp [of9, k]
  | x :: l, rs, s, r, h, k => by
    unfold of9 at h
    cases hx : pat9 x with
    | inr v => rw [hx] at h; cases h
    | inl q =>
      rw [hx] at h
      cases hl : of9 l with
      | inr v => rw [hl] at h; cases h
      | inl qs =>
        rw [hl] at h
        simp at h
        subst h
        have := of9_snoc l qs s r hl k
        simp [of9, hx, this]
theorem of9_bad : ∀ (l m : List (List UInt8)) (rs : List Re) (s : List UInt8) (v : Value), of9 l = .inl rs → pat9 s = .inr v → of9 (l ++ s :: m) = .inr v
  | [], m, rs, s, v, h, k => by simp [of9, k]
  | x :: l, m, rs, s, v, h, k => by
    unfold of9 at h
    cases hx : pat9 x with
    | inr v => rw [hx] at h; cases h
    | inl q =>
      rw [hx] at h
      cases hl : of9 l with
      | inr v => rw [hl] at h; cases h
      | inl qs =>
        have := of9_bad l m qs s v hl k
        simp [of9, hx, this]
theorem of9_len : ∀ (l : List (List UInt8)) (rs : List Re), of9 l = .inl rs → rs.length = l.length
  | [], rs, h => by simp [of9] at h; subst h; rfl
  | x :: l, rs, h => by
    unfold of9 at h
    cases hx : pat9 x with
    | inr v => rw [hx] at h; cases h
    | inl q =>
      rw [hx] at h
      cases hl : of9 l with
      | inr v => rw [hl] at h; cases h
      | inl qs =>
        rw [hl] at h
        simp at h
        subst h
        simp [of9_len l qs hl]
/-- No other block than the tables' has turned. -/
theorem TabA.other {w w' : World} {lo g : Nat} {A : Au} (h : TabA w lo g A) (hk : ∀ b, lo ≤ b → b < w.heap.size → (∀ cur, ¬ Blk w b 102 cur) → w'.heap[b]? = w.heap[b]?) : TabA w' lo g A := by
  have hrow : ∀ {e : TypeId} {size n : Nat} {v : Value} {xs : List Value}, w.ownsRow lo e size v n xs → e ≠ 102 → w'.ownsRow lo e size v n xs := by
    intro e size n v xs h hne
    refine own_keep h fun i hi hl => hk i (h.lt i hi).1 hl fun cur hc => ?_
    obtain ⟨cur', hc'⟩ := own_obj h hi
    exact blk_ne hc' hc hne rfl
  obtain ⟨F, c, L, k, ⟨vs, vg, M, vals, h1⟩, h2, h3⟩ := h
  refine ⟨F, c, L, k, ⟨vs, vg, M, vals, ?_⟩, hrow h2 (by decide), hrow h3 (by decide)⟩
  exact ⟨(hk g h1.log h1.blk.lt fun cur hc => blk_ne h1.blk hc (by decide) rfl).trans h1.blk, h1.log, h1.lom, hrow h1.sets (by decide), hrow h1.groups (by decide), fun i q hq => by obtain ⟨v, e, hr⟩ := h1.rows i q hq; exact ⟨v, e, hrow hr (by decide)⟩,
    h1.leads.keep (hk M h1.lom h1.leads.lt fun cur hc => by obtain ⟨es, c, hm⟩ := h1.leads.obj; unfold Blk at hc; rw [hm] at hc; cases hc)⟩
def nil8 : List Value := List.replicate 8 (.slice none 0 0)
/-- A Watch that is being made: the tables of rs are there. -/
structure OfMid (w : World) (g : Nat) (rs : List Re) (ts : List Nat) (P : Option Addr) (cap : Nat) : Prop where
  blk : Blk w g 101 (cellsW (.slice P rs.length cap) nil8 0 false)
  own : w.ownsRow (g + 1) 102 1 (.slice P rs.length cap) rs.length (ts.map ptrV)
  len : ts.length = rs.length
  tab : ∀ (j : Nat) (r : Re), rs[j]? = some r → ∃ t, ts[j]? = some t ∧ TabA w (g + 1) t (auOf r)
  wf : ∀ r ∈ rs, AuWf (auOf r)
theorem OfMid.below {w w' : World} {g : Nat} {rs : List Re} {ts : List Nat} {P : Option Addr} {cap : Nat} (h : OfMid w g rs ts P cap) (hb : Below w.heap.size w w') : OfMid w' g rs ts P cap :=
  ⟨h.blk.below hb h.blk.lt, own_keep h.own fun i _ hl => hb.block i hl, h.len, fun j r hr => by obtain ⟨t, h1, h2⟩ := h.tab j r hr; exact ⟨t, h1, h2.keep hb⟩, h.wf⟩
/-- One table more. -/
theorem OfMid.push {w w2 : World} {g : Nat} {rs : List Re} {ts : List Nat} {P P2 : Option Addr} {cap cap2 : Nat} (h : OfMid w g rs ts P cap) {r : Re} {t : Nat} (ht : TabA w (g + 1) t (auOf r)) (hwf : AuWf (auOf r))
    (ho : w2.ownsRow (g + 1) 102 1 (.slice P2 (rs.length + 1) cap2) (rs.length + 1) (ts.map ptrV ++ [ptrV t])) (hg : w.grownBy w2 (Value.slice P rs.length cap).ownBlock) :
    OfMid (w2.setCell ⟨g, 0, none⟩ (.slice P2 (rs.length + 1) cap2)) g (rs ++ [r]) (ts ++ [t]) P2 cap2 ∧ w2.cell? ⟨g, 0, none⟩ = some (.slice P rs.length cap) ∧ w2.frozen? ⟨g, 0, none⟩ = false ∧ Turn (fun b => g ≤ b) w (w2.setCell ⟨g, 0, none⟩ (.slice P2 (rs.length + 1) cap2)) := by
  have hne : some g ≠ (Value.slice P rs.length cap).ownBlock := fun e => by have := (h.own.lt g e.symm).1; omega
  have hk2 : Blk w2 g 101 (cellsW (.slice P rs.length cap) nil8 0 false) := (hg.block g h.blk.lt hne).trans h.blk
  have far : ∀ b, b ≠ g → (w2.setCell ⟨g, 0, none⟩ (.slice P2 (rs.length + 1) cap2)).heap[b]? = w2.heap[b]? := fun b hb => Below.heap_setCell w2 ⟨g, 0, none⟩ _ b hb
  have keep : ∀ {t' : Nat} {A : Au}, TabA w (g + 1) t' A → TabA (w2.setCell ⟨g, 0, none⟩ (.slice P2 (rs.length + 1) cap2)) (g + 1) t' A := fun hT => hT.other fun b hb hl hc => by
    rw [far b (by omega)]
    exact hg.block b hl (fun e => by obtain ⟨cur, hcur⟩ := own_obj h.own e.symm; exact hc cur hcur)
  have ht2 : Turn (fun b => g ≤ b) w w2 := ⟨hg.os, hg.tape, hg.output, hg.size, fun i hi hn => hg.block i hi (fun e => by have := (h.own.lt i e.symm).1; simp at hn; omega)⟩
  refine ⟨⟨?_, ?_, by simp [h.len], fun j r' hr => ?_, fun r' hr => ?_⟩, (hk2.cell 0).trans (cells_tabs _ _ _ _), hk2.frozen 0, Turn.setCell (S := fun b => g ≤ b) ht2 (.inl (Nat.le_refl g)) _⟩
  · have := hk2.put 0 (.slice P2 (rs.length + 1) cap2)
    simpa [cellsW] using this
  · rw [List.length_append, List.map_append]
    refine own_keep ho fun b hb _ => far b (fun e => ?_)
    have := (ho.lt b hb).1
    omega
  · rcases get_push hr with h1 | ⟨h1, rfl⟩
    · obtain ⟨t', q1, q2⟩ := h.tab j r' h1
      refine ⟨t', ?_, keep q2⟩
      rw [List.getElem?_append_left (by
        rcases Nat.lt_or_ge j ts.length with hl | hl
        · exact hl
        · rw [List.getElem?_eq_none hl] at q1; cases q1)]
      exact q1
    · refine ⟨t, ?_, keep ht⟩
      rw [List.getElem?_append_right (by rw [h.len]; omega), h.len, h1]
      simp
  · rcases List.mem_append.1 hr with h1 | h1
    · exact h.wf r' h1
    · simp at h1; subst h1; exact hwf
/-- A Watch that has just been made. -/
structure Wat0 (w : World) (H g : Nat) (As : List Au) (A : Option Addr) (cap : Nat) : Prop where
  tabs : ∃ ts w0, Tbs w H g As A ts w0
  blk : Blk w g 101 (cellsW (.slice A As.length cap) nil8 0 false)
  few : As.length ≤ 8
  base : g < H ∧ H ≤ w.heap.size
theorem nil8_at {j : Nat} (h : j < 8) : nil8[j]? = some (.slice none 0 0) := by unfold nil8; rw [List.getElem?_replicate, if_pos h]
theorem Wat0.turn {S : Nat → Prop} {w w' : World} {H g : Nat} {As : List Au} {A : Option Addr} {cap : Nat} (h : Wat0 w H g As A cap) (ht : Turn S w w') (hS : ∀ b, S b → b < g ∨ H ≤ b) : Wat0 w' H g As A cap := by
  obtain ⟨ts, w0, h1⟩ := h.tabs
  exact ⟨⟨ts, w0, h1.turn (B := H) ht fun b e => by have := hS b e; omega⟩, ht.blk h.blk (fun e => by have := hS g e; have := h.base.1; omega), h.few, h.base.1, Nat.le_trans h.base.2 ht.size⟩
theorem Wat0.below {w w' : World} {H g : Nat} {As : List Au} {A : Option Addr} {cap : Nat} (h : Wat0 w H g As A cap) (hb : Below w.heap.size w w') : Wat0 w' H g As A cap :=
  h.turn (S := fun _ => False) (Turn.of_below hb) (fun _ e => e.elim)
/-- It waits. -/
theorem Wat0.wat {w : World} {H g : Nat} {As : List Au} {A : Option Addr} {cap : Nat} (h : Wat0 w H g As A cap) {P : Nat → Prop} (h1 : ∀ b, P b → H ≤ b) : Wat w H P g As [] :=
  ⟨A, cap, nil8, h.tabs, h.blk, ⟨rfl, fun j a hj => ⟨none, 0, 0, nil8_at (by
    have := h.few
    rcases Nat.lt_or_ge j As.length with hl | hl
    · omega
    · rw [List.getElem?_eq_none hl] at hj; cases hj), Sl.nil, fun ad e => by cases e⟩⟩, h.few, h.base.1, h.base.2, h1⟩
theorem OfMid.done {w : World} {g : Nat} {rs : List Re} {ts : List Nat} {P : Option Addr} {cap : Nat} (h : OfMid w g rs ts P cap) (h8 : rs.length ≤ 8) : Wat0 w w.heap.size g (rs.map auOf) P cap := by
  have hl : (rs.map auOf).length = rs.length := List.length_map _
  refine ⟨⟨ts, w, Nat.le_refl _, Nat.le_refl _, fun _ _ _ => rfl, ?_, fun ad e => ?_, fun j a ha => ?_, fun j a ha => ?_⟩, by rw [hl]; exact h.blk, by rw [hl]; exact h8, h.blk.lt, Nat.le_refl _⟩
  · rw [hl]
    exact Sl.of_own h.own (by unfold maxLen; omega)
  · subst e
    rcases h.own.2 with ⟨hv, _⟩ | ⟨b, cap', cur, hv, hb, _⟩
    · cases hv
    · injection hv with e1
      injection e1 with e1
      subst e1
      exact hb
  · rw [List.getElem?_map] at ha
    obtain ⟨r, hr, rfl⟩ := Option.map_eq_some_iff.1 ha
    exact h.tab j r hr
  · rw [List.getElem?_map] at ha
    obtain ⟨r, hr, rfl⟩ := Option.map_eq_some_iff.1 ha
    exact h.wf r (List.mem_of_getElem? hr)


def OfPost9 (ss : List (List UInt8)) (w : World) (e : Ending) (w' : World) : Prop :=
  Below w.heap.size w w' ∧
  (((ss.length = 0 ∨ 8 < ss.length) ∧ e = .returned (.tuple #[.pointer none, errnoV 7])) ∨
   (1 ≤ ss.length ∧ ss.length ≤ 8 ∧ ((∃ rs g A cap, of9 ss = .inl rs ∧ e = .returned (.tuple #[ptrV g, .nilIface]) ∧ w.heap.size ≤ g ∧ Wat0 w' w'.heap.size g (rs.map auOf) A cap) ∨ (∃ x v, of9 ss = .inr (.iface x v) ∧ e = .returned (.tuple #[.pointer none, .iface x v])))))
theorem infoTb : (Tryz.prog.info? 102).map (fun i => (i.zero, i.size, i.bytes)) = some (some (.pointer none), 1, 8) := by kernel_rfl
set_option maxRecDepth 100000 in
set_option maxHeartbeats 4000000 in
theorem ofw_any {P : Option Addr} {n c : Nat} (ss : List (List UInt8)) {w : World} (hs : Sl strV w P n ss) : Calls Tryz.prog 46 #[.slice P n c] w (OfPost9 ss w) := by
  have HSS := keepHid hs
  have hl := hs.len
  have HL := keepHid hl
  clear hs hl
  rcases (by omega : n = 0 ∨ 8 < n ∨ (1 ≤ n ∧ n ≤ 8)) with h0 | h8 | ⟨h1, h8⟩
  · subst h0
    go_enter Tryz.func46, Tryz.ntmps46
    go_wp2
    go_ret2
    exact ⟨Below.refl _ _, .inl ⟨.inl HL.out, rfl⟩⟩
  · have hz : ((n : Int) == 0) = false := by simp; omega
    have hg : (8 : Int) < (n : Int) := by omega
    go_enter Tryz.func46, Tryz.ntmps46
    go_wp2
    go_ret2
    exact ⟨Below.refl _ _, .inl ⟨.inr (by rw [HL.out]; exact h8), rfl⟩⟩
  · have hz : ((n : Int) == 0) = false := by simp; omega
    have hg : ¬ (8 : Int) < (n : Int) := by omega
    go_enter Tryz.func46, Tryz.ntmps46
    go_upto_region 4 with fail
    obtain ⟨w1, hw1⟩ : ∃ w1, w.alloc (.cells #[.slice none 0 0, .slice none 0 0, .slice none 0 0, .slice none 0 0, .slice none 0 0, .slice none 0 0, .slice none 0 0, .slice none 0 0, .slice none 0 0, .int .i64 0, .bool false] 101) = w1 := ⟨_, rfl⟩
    have hb1 : Below w.heap.size w w1 := by rw [← hw1]; exact (Below.refl _ _).alloc (Nat.le_refl _) _
    have hm1 : OfMid w1 w.heap.size [] [] none 0 := by
      refine ⟨by rw [← hw1]; exact Blk.new _ _ _, World.ownsRow_nil _ _ _ _, rfl, fun j r hr => by simp at hr, fun r hr => by simp at hr⟩
    have HB1 := keepHid hb1
    have HM1 := keepHid hm1
    rw [hw1]
    generalize hgg : w.heap.size = g at *
    have HGG := keepHid hgg
    clear hb1 hm1 hw1 hz hg hgg
    go_wp2_with fail
    go_loopw [22] (fun i wr => ∃ (j : Nat) (rs : List Re) (ts : List Nat) (A : Option Addr) (cap : Nat), j ≤ n ∧ i = .int .i64 j ∧ Hid (of9 (ss.take j) = .inl rs) ∧ Hid (OfMid wr g rs ts A cap) ∧ Hid (Below g w wr)) (fun i _ => n - (intOf i).toNat)
    case atStart => exact ⟨0, [], [], none, 0, Nat.zero_le _, rfl, keepHid rfl, HM1, HB1⟩
    case round =>
      obtain ⟨j, rs, ts, A, cap, hj, rfl, HOF, HM, HB⟩ := hrel
      have HRL : Hid (rs.length = j) := keepHid (by rw [of9_len _ _ HOF.out, List.length_take, HL.out]; omega)
      rcases Nat.lt_or_ge j n with hlt | hge
      · obtain ⟨s, hsj⟩ : ∃ s, ss[j]? = some s := ⟨_, List.getElem?_eq_getElem (by rw [HL.out]; exact hlt)⟩
        have hS2 := (HSS.out.below (HGG.out ▸ HB.out))
        obtain ⟨ad, rfl, hbl, hcell⟩ := hS2.2.2 j s hsj
        have HSJ := keepHid hsj
        have HT := keepHid (table_any s wr)
        have hji : (j : Int) < (n : Int) := by omega
        clear hsj hS2 hbl
        unfold strV at hcell
        go_wp2_with fail
        with_reducible refine HT.out.mono ?_
        rintro e w2 ⟨hb2, hc⟩
        have HB2 := keepHid hb2
        have HBB : Hid (Below g w w2) := keepHid (HB.out.trans (hb2.mono (HGG.out ▸ HB.out.size)))
        rcases hc with ⟨r, t, hp, rfl, hta, hwf⟩ | ⟨x, v, hp, rfl⟩
        · have HP := keepHid hp
          have HOF2 : Hid (of9 (ss.take (j + 1)) = .inl (rs ++ [r])) := keepHid (by rw [List.take_succ_of HSJ.out]; exact of9_snoc _ _ _ _ HOF.out hp)
          have HM2 := keepHid (HM.out.below hb2)
          obtain ⟨w3, hw3⟩ : ∃ w3, w2.alloc (.cells #[ptrV t] 102) = w3 := ⟨_, rfl⟩
          have hb3 : Below w2.heap.size w2 w3 := by rw [← hw3]; exact (Below.refl _ _).alloc (Nat.le_refl _) _
          have hk3 : Blk w3 w2.heap.size 102 #[ptrV t] := by rw [← hw3]; exact Blk.new _ _ _
          have hc3 : w3.cell? ⟨w2.heap.size, 0, none⟩ = some (ptrV t) := hk3.cell 0
          have HM3 := keepHid (HM2.out.below hb3)
          have HTA3 : Hid (TabA w3 (g + 1) t (auOf r)) := keepHid ((hta.low (by have := HM.out.blk.lt; omega)).keep hb3)
          have HWF := keepHid hwf
          have HB3 : Hid (Below g w w3) := keepHid (HBB.out.trans (hb3.mono (HGG.out ▸ HBB.out.size)))
          have hown := HM3.out.own
          have hgt : Hid (g + 1 ≤ w3.heap.size) := keepHid HM3.out.blk.lt
          have m0 : w3.cell? ⟨g, 0, none⟩ = some (.slice A j cap) := by rw [← HRL.out]; exact (HM3.out.blk.cell 0).trans (cells_tabs _ _ _ _)
          have m00 : w2.cell? ⟨g, 0, none⟩ = some (.slice A j cap) := by rw [← HRL.out]; exact (HM2.out.blk.cell 0).trans (cells_tabs _ _ _ _)
          rw [HRL.out] at hown
          unfold ptrV at hw3 hc3 ⊢
          clear hp hta hwf hb2 hb3 hk3
          go_wp2_with (first | (at_builtin; refine wpList_append_cell Tryz.underlying97 infoTb rfl (by omega) w3 rfl _ _ rfl (g + 1) (.slice A j cap) j (ts.map ptrV) rfl hown w2.heap.size rfl _ hc3 rfl (by omega) hgt.out ?_; intro P2 cap2 w4 ho4 hg4 hv4; have hpu := HM3.out.push HTA3.out HWF.out (by rw [HRL.out]; exact ho4) (by rw [HRL.out]; exact hg4); rw [HRL.out] at hpu; have HPU := keepHid hpu; have m4 := hpu.2.1; have f4 := hpu.2.2.1; clear hpu ho4 hg4 hv4))
          go_roundw
          case rel => exact ⟨j + 1, rs ++ [r], ts ++ [t], P2, cap2, by omega, by go_num, HOF2, keepHid HPU.out.1, keepHid (HB3.out.trans (HPU.out.2.2.2.below (fun _ h => h) (by have := hgt.out; omega)))⟩
          case measure => simp [intOf]; omega
        · have HBAD : Hid (of9 ss = .inr (.iface x v)) := keepHid (by
            have e : ss = ss.take j ++ s :: ss.drop (j + 1) := by
              have := List.take_append_drop j ss
              rw [List.drop_eq_getElem_cons (by rw [HL.out]; exact hlt)] at this
              have e2 : ss[j]'(by rw [HL.out]; exact hlt) = s := by
                have := HSJ.out
                rw [List.getElem?_eq_getElem (by rw [HL.out]; exact hlt)] at this
                exact Option.some.inj this
              rw [e2] at this
              exact this.symm
            rw [e]
            exact of9_bad _ _ _ _ _ HOF.out hp)
          clear hp hb2
          go_wp2
          go_ret2
          exact ⟨HGG.out ▸ HBB.out, .inr ⟨by rw [HL.out]; exact h1, by rw [HL.out]; exact h8, .inr ⟨x, v, HBAD.out, rfl⟩⟩⟩
      · have HALL : Hid (of9 ss = .inl rs) := keepHid (by
          have := HOF.out
          rwa [List.take_of_length_le (by rw [HL.out]; exact hge)] at this)
        have HD := keepHid (HM.out.done (by rw [HRL.out]; omega))
        have hji : ¬ (j : Int) < (n : Int) := by omega
        go_wp2
        go_ret2
        exact ⟨HGG.out ▸ HB.out, .inr ⟨by rw [HL.out]; exact h1, by rw [HL.out]; exact h8, .inl ⟨rs, g, A, cap, HALL.out, rfl, by rw [HGG.out]; exact Nat.le_refl _, HD.out⟩⟩⟩
end Go.Proofs.YtgndcgknedmalaaGreatDoor
