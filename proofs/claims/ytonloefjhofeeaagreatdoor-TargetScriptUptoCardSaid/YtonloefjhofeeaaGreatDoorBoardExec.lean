/-
  What a line does.
-/
import Derived.Test.YtonloefjhofeeaaGreatDoorBoardEnd
import Derived.Test.YtonloefjhofeeaaGreatDoorSplit
import Derived.Deep.RegionLaw
import Derived.LoopTactic
import Derived.Test.YtonloefjhofeeaaGreatDoorBoardNum
namespace Go.Proofs.YtonloefjhofeeaaGreatDoor
open Go.RowKit
set_option linter.unusedVariables false

def ExecP (w0 : World) (G : Nat) (κ : Nat → Nat) (p : BP Fl) (z1 z2 : Int) (r : List UInt8 × Bd) (w : World) (e : Ending) (w' : World) : Prop :=
  e = .returned (.string (strB r.1)) ∧ TOut w0 G κ p z1 z2 r.2 w w'
theorem exec_nil {p : BP Fl} {s : Bd} : exec20 p s [] = (readyL, s) := by unfold exec20; rw [if_pos rfl]
theorem exec_few {p : BP Fl} {s : Bd} {l : List UInt8} (h0 : l ≠ []) (h : (splitW l).length ≠ 3) : exec20 p s l = (noL, s) := by
  unfold exec20
  rw [if_neg h0]
  split
  · rename_i x y z e; rw [e] at h; exact absurd rfl h
  · rfl
theorem exec_word {p : BP Fl} {s : Bd} {l x y z : List UInt8} (h0 : l ≠ []) (h : splitW l = [x, y, z]) (h1 : x ≠ wLoad) (h2 : x ≠ wSum) : exec20 p s l = (noL, s) := by
  unfold exec20
  rw [if_neg h0, h]
  simp only
  rw [if_neg h1, if_neg h2]
theorem exec_begin {p : BP Fl} {s : Bd} {l y z : List UInt8} {k a : Nat} (h0 : l ≠ []) (h : splitW l = [wLoad, y, z]) (h1 : wayOf y = some k) (h2 : hexN z = some a) : exec20 p s l = ([], { s with ad := a, ld := begin20 p k }) := by
  unfold exec20
  rw [if_neg h0, h]
  simp only [if_true, h1, h2]
theorem exec_nobegin {p : BP Fl} {s : Bd} {l y z : List UInt8} (h0 : l ≠ []) (h : splitW l = [wLoad, y, z]) (h1 : wayOf y = none ∨ hexN z = none) : exec20 p s l = (noL, s) := by
  unfold exec20
  rw [if_neg h0, h]
  simp only [if_true]
  split
  · rename_i k a e1 e2
    rcases h1 with h1 | h1
    · rw [h1] at e1; cases e1
    · rw [h1] at e2; cases e2
  · rfl
theorem exec_reply {p : BP Fl} {s : Bd} {l y z : List UInt8} {a n : Nat} (h0 : l ≠ []) (h : splitW l = [wSum, y, z]) (h1 : hexN y = some a) (h2 : hexN z = some n) (h3 : a + n ≤ 16384) : exec20 p s l = (lin20 a n (prNum (prL (getL s.st a n))) ++ promptL, { s with rp := s.rp ++ [(a, n, prNum (prL (getL s.st a n)))] }) := by
  unfold exec20
  rw [if_neg h0, h]
  simp only [h1, h2]
  rw [if_neg (by decide), if_pos trivial, if_pos h3]
theorem exec_noreply {p : BP Fl} {s : Bd} {l y z : List UInt8} (h0 : l ≠ []) (h : splitW l = [wSum, y, z]) (h1 : ∀ a n, hexN y = some a → hexN z = some n → ¬ a + n ≤ 16384) : exec20 p s l = (noL, s) := by
  unfold exec20
  rw [if_neg h0, h]
  simp only
  rw [if_neg (by decide), if_pos trivial]
  split
  · rename_i a n e1 e2
    rw [if_neg (h1 a n e1 e2)]
  · rfl
theorem three_of {l : List (List UInt8)} (h : l.length = 3) : ∃ x y z, l = [x, y, z] := by
  match l, h with
  | [x, y, z], _ => exact ⟨x, y, z, rfl⟩
section
variable {w0 w : World} {G GS : Nat} {κ : Nat → Nat} {p : BP Fl} {z1 z2 : Int} {lv iv rv : Value} {s : Bd}
/-- A reply is laid behind the others. -/
theorem TgtM.replied {w4 w5 : World} {G2 cap : Nat} {V : Rp} {wy : World} (h : TgtM w0 w G κ p z1 z2 GS lv iv rv s) (hb : Below w.heap.size w wy) (ho : OwnR w4 w0.heap.size (.slice (some ⟨G2, 0, none⟩) (s.rp.length + 1) cap) (s.rp.length + 1) (s.rp ++ [V])) (ht : Turn (fun i => rv.ownBlock = some i) wy w4)
    (hw : rv.ownBlock = some G2 ∨ w.heap.size ≤ G2) (h5 : w4.setCell ⟨G, 7, none⟩ (.slice (some ⟨G2, 0, none⟩) (s.rp.length + 1) cap) = w5) :
    TOut w0 G κ p z1 z2 { s with rp := s.rp ++ [V] } w w5 := by
  have hy := h.below hb
  have hG2 : κ G2 = 4 ∨ (κ G2 = 0 ∧ w.heap.size ≤ G2) := by
    rcases hw with e | e
    · exact .inl (h.reps.col G2 e)
    · refine .inr ⟨?_, e⟩
      rcases Nat.eq_zero_or_pos (κ G2) with q | q
      · exact q
      · have := (h.lt G2 (by omega)).2; omega
  have hlt2 : G2 < w4.heap.size := (World.ownsRow.lt ho G2 rfl).2
  have hge2 : w0.heap.size ≤ G2 := (World.ownsRow.lt ho G2 rfl).1
  have hne : ∀ k, k ≠ 4 → k ≠ 0 → ∀ i, κ i = k → ¬ i = G2 := fun k h4 h0 i hi e => by rw [e] at hi; omega
  have hk : ∀ k, k ≠ 0 → ∀ i, κ i = k → (if i = G2 then 4 else κ i) = k := fun k h0 i hi => by
    by_cases e : i = G2
    · rw [if_pos e]; rw [e] at hi; omega
    · rw [if_neg e]; exact hi
  have hn4 : ∀ k, k ≠ 4 → ∀ i, κ i = k → ¬ rv.ownBlock = some i := fun k h4 i hi e => by rw [h.reps.col i e] at hi; omega
  have t5 : Turn (fun i => i = G) w4 w5 := by rw [← h5]; exact turnAt _ _ (Turn.refl _ w4)
  have s5 : w5.heap.size = w4.heap.size := by rw [← h5]; simp
  have hn1 : ∀ k, k ≠ 1 → ∀ i, κ i = k → ¬ i = G := fun k hk i hi e => by rw [e, h.g] at hi; exact hk hi.symm
  have hG : G ≠ G2 := fun e => by have := h.g; rw [e] at this; omega
  have hz : ∀ i, (if i = G2 then 4 else κ i) ≠ 0 → κ i ≠ 0 ∨ i = G2 := fun i hi => by
    by_cases e : i = G2
    · exact .inr e
    · rw [if_neg e] at hi; exact .inl hi
  refine ⟨fun i => if i = G2 then 4 else κ i, ⟨GS, lv, iv, .slice (some ⟨G2, 0, none⟩) (s.rp.length + 1) cap, ⟨?_, hk 1 (by omega) G h.g, hk 2 (by omega) GS h.gs, ?_, ?_, ⟨?_, ?_, ?_⟩, ?_, ?_, ?_⟩⟩, ?_, ?_⟩
  · rw [← h5]; exact (ht.blk hy.blk (hn4 1 (by omega) G h.g)).put 7 _
  · exact ((hy.sto.turn ht (hn4 2 (by omega) GS h.gs))).turn t5 (hn1 2 (by omega) GS h.gs)
  · exact ((hy.line.turns ht (hn4 3 (by omega))).turns t5 (hn1 3 (by omega))).hue (hk 3 (by omega))
  · have : (s.rp ++ [V]).length = s.rp.length + 1 := by simp
    show OwnR w5 w0.heap.size _ (s.rp ++ [V]).length (s.rp ++ [V])
    rw [this]
    exact ho.turn t5 (fun i hi e => by
      have : i = G2 := by simp [Value.ownBlock] at hi; omega
      exact hG (by rw [← e, this]))
  · intro i hi
    have : i = G2 := by simp [Value.ownBlock] at hi; omega
    simp [this]
  · intro e; simp at e
  · exact ((hy.lod.turns ht (hn4 5 (by omega))).turns t5 (hn1 5 (by omega))).hue (hk 5 (by omega))
  · intro i hi
    rw [s5]
    rcases hz i hi with q | q
    · exact ⟨(hy.lt i q).1, Nat.lt_of_lt_of_le (hy.lt i q).2 ht.size⟩
    · rw [q]; exact ⟨hge2, hlt2⟩
  · exact (hy.base.turns ht (fun i hi => (h.lt i (by rw [h.reps.col i hi]; omega)).1)).turns t5 (fun i hi => by rw [hi]; exact (h.lt G (by rw [h.g]; omega)).1)
  · exact (((Turn.of_below hb).trans (ht.mono fun i hi => by rw [h.reps.col i hi]; omega)).trans (t5.mono fun i hi => by rw [hi, h.g]; omega))
  · intro i hi
    rcases hz i hi with q | q
    · exact .inl q
    · rcases hG2 with g | g
      · exact .inl (by rw [q]; omega)
      · exact .inr (by rw [q]; exact g.2)
end


/-- A reply laid into a block of its own: made ahead of what comes between, or behind it. -/
theorem lay_ahead {w1 wa w5 : World} {R : Nat} (V : Rp) (h1 : Blk wa R 54 #[.int .i64 0, .int .i64 0, .int .u32 0]) (hb : Below wa.heap.size wa w5) (h2 : Below w1.heap.size w1 wa) (hR : w1.heap.size ≤ R) :
    Blk (((w5.setCell ⟨R, 0, none⟩ (.int .i64 (V.1 : Int))).setCell ⟨R, 1, none⟩ (.int .i64 (V.2.1 : Int))).setCell ⟨R, 2, none⟩ (.int .u32 (V.2.2 : Int))) R 54 (rpA V) ∧
    Below w1.heap.size w1 (((w5.setCell ⟨R, 0, none⟩ (.int .i64 (V.1 : Int))).setCell ⟨R, 1, none⟩ (.int .i64 (V.2.1 : Int))).setCell ⟨R, 2, none⟩ (.int .u32 (V.2.2 : Int))) :=
  ⟨(((h1.below hb h1.lt).put 0 _).put 1 _).put 2 _, (((h2.trans (hb.mono h2.size)).setCell (p := ⟨R, 0, none⟩) hR _).setCell (p := ⟨R, 1, none⟩) hR _).setCell (p := ⟨R, 2, none⟩) hR _⟩
theorem alloc_kept {wa w5 : World} {R : Nat} (h1 : Blk wa R 54 #[.int .i64 0, .int .i64 0, .int .u32 0]) (hb : Below wa.heap.size wa w5) :
    w5.cell? ⟨R, 0, none⟩ = some (.int .i64 0) ∧ w5.cell? ⟨R, 1, none⟩ = some (.int .i64 0) ∧ w5.cell? ⟨R, 2, none⟩ = some (.int .u32 0) ∧ (∀ i, w5.frozen? ⟨R, i, none⟩ = false) ∧ Blk w5 R 54 #[.int .i64 0, .int .i64 0, .int .u32 0] := by
  have h := h1.below hb h1.lt
  exact ⟨h.cell 0, h.cell 1, h.cell 2, h.frozen, h⟩
theorem bel20a {w1 w5 : World} (h : Below w1.heap.size w1 w5) (o : Obj) : Below w1.heap.size w1 (w5.alloc o) := h.alloc h.size o
theorem bel20s {w1 w5 : World} (h : Below w1.heap.size w1 w5) {i : Nat} (u : Value) : Below w1.heap.size w1 (w5.setCell ⟨w1.heap.size, i, none⟩ u) := h.setCell (p := ⟨w1.heap.size, i, none⟩) (Nat.le_refl _) u
theorem TOut.below {w0 w w5 w6 : World} {G : Nat} {κ : Nat → Nat} {p : BP Fl} {z1 z2 : Int} {s' : Bd} (h : TOut w0 G κ p z1 z2 s' w w5) (hb : Below w5.heap.size w5 w6) : TOut w0 G κ p z1 z2 s' w w6 := by
  obtain ⟨κ', h1, h2, h3⟩ := h
  exact ⟨κ', h1.below hb, h2.trans (Turn.of_below hb), h3⟩
theorem TOut.four {w0 w w5 : World} {G : Nat} {κ : Nat → Nat} {p : BP Fl} {z1 z2 : Int} {s' : Bd} (h : TOut w0 G κ p z1 z2 s' w w5) : Four w5 := by
  obtain ⟨κ', h1, _⟩ := h
  exact h1.base.supw.four
theorem rp_cells {w : World} (V : Rp) : ∀ j u, ([V].flatMap rpL)[j]? = some u → (w.alloc (.cells #[.int .i64 (V.1 : Int), .int .i64 (V.2.1 : Int), .int .u32 (V.2.2 : Int)] 54)).cell? ((⟨w.heap.size, 0, none⟩ : Addr).add j) = some u := by
  intro j u hu
  have e : (⟨w.heap.size, 0, none⟩ : Addr).add j = ⟨w.heap.size, j, none⟩ := by unfold Addr.add; split <;> simp_all
  rw [e, (Blk.new w 54 #[.int .i64 (V.1 : Int), .int .i64 (V.2.1 : Int), .int .u32 (V.2.2 : Int)]).cell]
  simpa [rpL] using hu

section
variable {w0 w : World} {G GS : Nat} {κ : Nat → Nat} {p : BP Fl} {z1 z2 : Int} {lv iv rv : Value} {s : Bd}
set_option maxRecDepth 100000 in
set_option maxHeartbeats 8000000 in
theorem execute_any (h : TgtM w0 w G κ p z1 z2 GS lv iv rv s) (l : List UInt8) (hl : l.length ≤ 65536) (hrp : s.rp.length ≤ 1000000000) :
    Calls Tryz.prog 52 #[ptV G, .string (strB l)] w (ExecP w0 G κ p z1 z2 (exec20 p s l) w) := by
  have H := keepHid h
  by_cases h0 : l = []
  · subst h0
    have HP : Hid (ExecP w0 G κ p z1 z2 (exec20 p s []) w (.returned (.string ⟨#[13, 10, 61, 62, 32]⟩)) w) := keepHid (by rw [exec_nil]; exact ⟨rfl, TOut.same ⟨_, _, _, _, h⟩ (Below.refl _ _)⟩)
    have hemp : (strB []).toList.isEmpty = true := by rw [strB_toList]; rfl
    have hemp2 : ((strB []).toList = []) = True := by rw [strB_toList]; simp
    generalize strB [] = X at *
    clear h
    unfold ptV
    go_enter Tryz.func52, Tryz.ntmps52
    go_wp2
    go_ret
    exact HP.out
  have hemp : (strB l).toList.isEmpty = false := by rw [strB_toList]; simpa using h0
  have hemp2 : ((strB l).toList = []) = False := by rw [strB_toList]; simpa using h0
  have HSP := keepHid (split_any l (by omega) w)
  by_cases h3 : (splitW l).length = 3
  case neg =>
    have HP : Hid (∀ w1, Below w.heap.size w w1 → ExecP w0 G κ p z1 z2 (exec20 p s l) w (.returned (.string ⟨#[63, 13, 10, 61, 62, 32]⟩)) w1) := keepHid (fun w1 hb => by rw [exec_few h0 h3]; exact ⟨rfl, TOut.same ⟨_, _, _, _, H.out⟩ hb⟩)
    have hq : ¬ ((splitW l).length : Int) = 3 := by omega
    generalize (splitW l).length = N at *
    generalize strB l = X at *
    clear h h0 h3 hl
    unfold ptV
    go_enter Tryz.func52, Tryz.ntmps52
    go_wp2_with fail
    refine HSP.out.mono ?_
    rintro e w1 ⟨rfl, hk1, hb1⟩
    have HR := keepHid (HP.out w1 hb1)
    clear hk1 hb1
    go_wp2
    go_ret
    exact HR.out
  case pos =>
  obtain ⟨x, y, z, hxyz⟩ := three_of h3
  have hall := splitW_all l
  rw [hxyz] at hall
  have hly : y.length ≤ 65536 := Nat.le_trans (hall y (by simp)).1 hl
  have hlz : z.length ≤ 65536 := Nat.le_trans (hall z (by simp)).1 hl
  have HXYZ := keepHid hxyz
  have H0 := keepHid h0
  have HSP3 : Hid (Calls Tryz.prog 67 #[.string (strB l), .string ⟨#[32]⟩] w fun e w' => e = .returned (.slice (some ⟨w.heap.size, 0, none⟩) 3 3) ∧ (w'.cell? ⟨w.heap.size, 0, none⟩ = some (.string (strB x)) ∧ w'.cell? ⟨w.heap.size, 1, none⟩ = some (.string (strB y)) ∧ w'.cell? ⟨w.heap.size, 2, none⟩ = some (.string (strB z))) ∧ Below w.heap.size w w') := keepHid (by
    refine HSP.out.mono fun e w' hh => ⟨by rw [hh.1, h3], ?_, hh.2.2⟩
    have hb := hh.2.1
    have hw : wordC l = #[.string (strB x), .string (strB y), .string (strB z)] := by unfold wordC; rw [hxyz]; rfl
    rw [hw] at hb
    exact ⟨hb.cell 0, hb.cell 1, hb.cell 2⟩)
  have HNO : Hid (∀ w1, Below w.heap.size w w1 → exec20 p s l = (noL, s) → ExecP w0 G κ p z1 z2 (exec20 p s l) w (.returned (.string ⟨#[63, 13, 10, 61, 62, 32]⟩)) w1) := keepHid (fun w1 hb e => by rw [e]; exact ⟨rfl, TOut.same ⟨_, _, _, _, H.out⟩ hb⟩)
  have hqx : ((strB x).toList == [108, 111, 97, 100]) = decide (x = wLoad) := by rw [show ([108, 111, 97, 100] : List UInt8) = (strB wLoad).toList from (strB_toList wLoad).symm]; exact str_eqB x wLoad
  have hqs : ((strB x).toList == [115, 117, 109]) = decide (x = wSum) := by rw [show ([115, 117, 109] : List UInt8) = (strB wSum).toList from (strB_toList wSum).symm]; exact str_eqB x wSum
  clear h h0 h3 hall hl HSP hxyz
  by_cases hx1 : x = wLoad
  · rw [decide_eq_true hx1] at hqx
    subst hx1
    have HBG : Hid (∀ w1, Below w.heap.size w w1 → ∀ wx, Below w1.heap.size w1 wx → Calls Tryz.prog 68 #[.pointer (some ⟨G, 0, none⟩), .string (strB y), .string (strB z)] wx fun e w' => ∃ b : Bool, e = .returned (.bool b) ∧ ExecP w0 G κ p z1 z2 (exec20 p s l) w (.returned (.string (if b = true then ⟨#[]⟩ else ⟨#[63, 13, 10, 61, 62, 32]⟩))) w') := keepHid (fun w1 hb1 wx hbx => by
      have hb := hb1.trans (hbx.mono hb1.size)
      refine (begin_any20 (H.out.below hb) y z hlz).mono ?_
      rintro e w' (⟨k, a, q1, q2, q3, q4⟩ | ⟨q1, q2, q3⟩)
      · refine ⟨true, q3, ?_⟩
        rw [exec_begin H0.out HXYZ.out q1 q2]
        exact ⟨rfl, TOut.of (Turn.of_below hb) (fun i hi => .inl hi) q4⟩
      · exact ⟨false, q2, HNO.out w' (hb.trans (q3.mono hb.size)) (exec_nobegin H0.out HXYZ.out q1)⟩)
    generalize exec20 p s l = r at *
    generalize strB l = X at *
    generalize strB wLoad = XW at *
    generalize strB y = Y at *
    generalize strB z = Z at *
    unfold ptV
    clear hqs
    go_enter Tryz.func52, Tryz.ntmps52
    go_wp2_with fail
    refine HSP3.out.mono ?_
    rintro e w1 ⟨rfl, ⟨d0, d1, d2⟩, hb1⟩
    have HB := keepHid (HBG.out w1 hb1)
    generalize w.heap.size = g at d0 d1 d2 ⊢
    clear hb1 HBG HSP3 HNO
    go_upto_region 7 with fail
    go_region_with (go_at_call 68; (with_reducible refine (HB.out _ (by first | exact Below.refl _ _ | exact (Below.refl _ _).drew | exact below_drewN (Below.refl _ _) _)).mono ?_); rintro e w5 ⟨b5, rfl, hp5⟩; have HP5 := keepHid hp5; clear hp5)
    all_goals
      cases b5
      all_goals
        go_wp2
        go_ret
        exact HP5.out
  rw [decide_eq_false hx1] at hqx
  by_cases hx2 : x = wSum
  case neg =>
    rw [decide_eq_false hx2] at hqs
    have HP := keepHid (fun w1 hb => HNO.out w1 hb (exec_word H0.out HXYZ.out hx1 hx2))
    generalize exec20 p s l = r at *
    generalize strB l = X at *
    generalize strB x = XW at *
    generalize strB y = Y at *
    generalize strB z = Z at *
    unfold ptV
    go_enter Tryz.func52, Tryz.ntmps52
    go_wp2_with fail
    refine HSP3.out.mono ?_
    rintro e w1 ⟨rfl, ⟨d0, d1, d2⟩, hb1⟩
    have HR := keepHid (HP.out w1 hb1)
    generalize w.heap.size = g at d0 d1 d2 ⊢
    clear hb1 HSP3 HNO HP
    go_wp2
    go_ret
    exact HR.out
  case pos =>
  rw [decide_eq_true hx2] at hqs
  subst hx2
  have HRP : Hid (∀ w1, Below w.heap.size w w1 → ∀ wx, Below w1.heap.size w1 wx → Calls Tryz.prog 69 #[.pointer (some ⟨G, 0, none⟩), .string (strB y), .string (strB z)] wx fun e w' => ∃ (V : Rp) (b : Bool), e = .returned (.tuple #[.agg #[.int .i64 (V.1 : Int), .int .i64 (V.2.1 : Int), .int .u32 (V.2.2 : Int)], .bool b]) ∧ Below wx.heap.size wx w' ∧ Below w1.heap.size w1 w' ∧
      Hid ((b = true ∧ V.1 < 4294967296 ∧ V.2.1 < 4294967296 ∧ V.2.2 < 4294967296 ∧ exec20 p s l = (lin20 V.1 V.2.1 V.2.2 ++ promptL, { s with rp := s.rp ++ [V] })) ∨ (b = false ∧ exec20 p s l = (noL, s)))) := keepHid (fun w1 hb1 wx hbx => by
    have hb := hb1.trans (hbx.mono hb1.size)
    refine (reply_any (H.out.below hb) y z hly hlz).mono ?_
    rintro e w' ⟨⟨a, n, q1, q2, q3, q4⟩ | ⟨q1, V, q2⟩, q5⟩
    · have b1 := (hexN_is q1).1
      have b2 := (hexN_is q2).1
      exact ⟨(a, n, prNum (prL (getL s.st a n))), true, q4, q5, hbx.trans (q5.mono hbx.size), keepHid (.inl ⟨rfl, b1, b2, pr_u32 _, exec_reply H0.out HXYZ.out q1 q2 q3⟩)⟩
    · exact ⟨V, false, q2, q5, hbx.trans (q5.mono hbx.size), keepHid (.inr ⟨rfl, exec_noreply H0.out HXYZ.out q1⟩)⟩)
  generalize exec20 p s l = r at *
  generalize strB l = X at *
  generalize strB wSum = XW at *
  generalize strB y = Y at *
  generalize strB z = Z at *
  unfold ptV
  clear hx1 hly hlz
  go_enter Tryz.func52, Tryz.ntmps52
  go_wp2_with fail
  refine HSP3.out.mono ?_
  rintro e w1 ⟨rfl, ⟨d0, d1, d2⟩, hb1⟩
  have HR := keepHid (HRP.out w1 hb1)
  have HB1 := keepHid hb1
  generalize w.heap.size = g at d0 d1 d2 ⊢
  clear hb1 HRP HSP3
  go_upto_region 10 with fail
  go_cut [6, 7] (fun s6 s7 wx => ∃ (R : Nat) (V : Rp) (b : Bool), s6 = .pointer (some ⟨R, 0, none⟩) ∧ s7 = .bool b ∧ Blk wx R 54 (rpA V) ∧ Below w1.heap.size w1 wx ∧ w1.heap.size ≤ R ∧ Hid ((b = true ∧ V.1 < 4294967296 ∧ V.2.1 < 4294967296 ∧ V.2.2 < 4294967296 ∧ r = (lin20 V.1 V.2.1 V.2.2 ++ promptL, { s with rp := s.rp ++ [V] })) ∨ (b = false ∧ r = (noL, s))))
  case first =>
    have HCS : Hid (∀ w', Below w1.heap.size w1 w' → w'.cell? ⟨g, 1, none⟩ = some (.string Y) ∧ w'.cell? ⟨g, 2, none⟩ = some (.string Z) ∧ Below w1.heap.size w1 w') := keepHid (fun w' hb => ⟨(hb.cell (World.block_lt_of_cell? _ _ d1)).trans d1, (hb.cell (World.block_lt_of_cell? _ _ d2)).trans d2, hb⟩)
    go_region_held3 (fun w' => w'.cell? ⟨g, 1, none⟩ = some (.string Y) ∧ w'.cell? ⟨g, 2, none⟩ = some (.string Z) ∧ Below w1.heap.size w1 w') (exact HCS.out _ (by (repeat (first | (with_reducible exact Below.refl _ _) | (with_reducible exact HB15.out) | (with_reducible refine bel20a ?_ _) | (with_reducible refine bel20s ?_ _) | (with_reducible refine Below.drew ?_) | (with_reducible refine below_drewN ?_ _) | (with_reducible refine Below.alloc ?_ (Nat.le_refl _) _))))) (first | (go_at_call 69; (with_reducible refine (HR.out _ (by (repeat (first | (with_reducible exact Below.refl _ _) | (with_reducible refine Below.drew ?_) | (with_reducible refine below_drewN ?_ _) | (with_reducible refine Below.alloc ?_ (Nat.le_refl _) _))))).mono ?_); rintro e w5 ⟨V5, b5, rfl, hb5, hb15, HV5⟩; have HB5 := keepHid hb5; have HB15 := keepHid hb15; (first | (have hq := @alloc_kept (w1.alloc (.cells #[.int .i64 0, .int .i64 0, .int .u32 0] 54)) w5 w1.heap.size (Blk.new w1 54 #[.int .i64 0, .int .i64 0, .int .u32 0]) hb5; obtain ⟨q0, q1, q2, qf, qb⟩ := hq; have HQB := keepHid qb; clear qb) | (have hq := @alloc_kept (w1.drew.alloc (.cells #[.int .i64 0, .int .i64 0, .int .u32 0] 54)) w5 w1.heap.size (Blk.new w1.drew 54 #[.int .i64 0, .int .i64 0, .int .u32 0]) hb5; obtain ⟨q0, q1, q2, qf, qb⟩ := hq; have HQB := keepHid qb; clear qb) | skip); clear hb5 hb15))
    all_goals
      go_wp2_with fail
      go_meet
      case rel => first
        | exact ⟨_, V5, b5, rfl, rfl, Blk.new w5 _ _, bel20a HB15.out _, HB15.out.size, HV5⟩
        | exact ⟨w1.heap.size, V5, b5, rfl, rfl, ((HQB.out.put 0 _).put 1 _).put 2 _, bel20s (bel20s (bel20s HB15.out _) _) _, Nat.le_refl _, HV5⟩
  case rest =>
    obtain ⟨R, V, b, rfl, rfl, hkR, hbc, hR, HV⟩ := hcut
    have HBC := keepHid (HB1.out.trans (hbc.mono HB1.out.size))
    have HKR := keepHid hkR
    have hRg : w.heap.size ≤ R := Nat.le_trans HB1.out.size hR
    clear HR HB1 hbc hR hkR d0 d1 d2
    rcases HV.out with ⟨rfl, v1, v2, v3, hr⟩ | ⟨rfl, hr⟩
    case inr =>
      have HP := keepHid (HNO.out wc HBC.out hr)
      clear hr HV HNO
      go_wp2
      go_ret
      exact HP.out
    case inl =>
    obtain ⟨A, c, hrv⟩ : ∃ A c, rv = .slice A s.rp.length c := by
      rcases H.out.reps.own.2 with ⟨e, e2⟩ | ⟨g, cap, cur, e, _⟩
      · exact ⟨none, 0, by rw [e, e2]⟩
      · exact ⟨_, cap, e⟩
    subst hrv
    have HCC := keepHid (H.out.below HBC.out)
    have c7 : wc.cell? ⟨G, 7, none⟩ = some (.slice A s.rp.length c) := HCC.out.blk.cell 7
    have c7a : ∀ o, (wc.alloc o).cell? ⟨G, 7, none⟩ = some (.slice A s.rp.length c) := fun o => (((Below.refl wc.heap.size wc).alloc (Nat.le_refl _) o).cell (show G < wc.heap.size from HCC.out.blk.lt)).trans c7
    have e0 : wc.cell? ⟨R, 0, none⟩ = some (.int .i64 (V.1 : Int)) := HKR.out.cell 0
    have e1 : wc.cell? ⟨R, 1, none⟩ = some (.int .i64 (V.2.1 : Int)) := HKR.out.cell 1
    have e2 : wc.cell? ⟨R, 2, none⟩ = some (.int .u32 (V.2.2 : Int)) := HKR.out.cell 2
    have HO : Hid (∀ wy, Below wc.heap.size wc wy → OwnR wy w0.heap.size (.slice A s.rp.length c) s.rp.length s.rp ∧ w0.heap.size ≤ wy.heap.size) := keepHid (fun wy hb => ⟨(HCC.out.below hb).reps.own, (HCC.out.below hb).base.bel.size⟩)
    have HAP : Hid (∀ wy, Below wc.heap.size wc wy → ∀ G2 cap w4, OwnR w4 w0.heap.size (.slice (some ⟨G2, 0, none⟩) (s.rp.length + 1) cap) (s.rp.length + 1) (s.rp ++ [V]) → wy.grownBy w4 (Value.slice A s.rp.length c).ownBlock → ((Value.slice A s.rp.length c).ownBlock = some G2 ∨ G2 = wy.heap.size) →
        w4.cell? ⟨G, 7, none⟩ = some (.slice A s.rp.length c) ∧ w4.frozen? ⟨G, 7, none⟩ = false ∧ ∀ w5, w4.setCell ⟨G, 7, none⟩ (.slice (some ⟨G2, 0, none⟩) (s.rp.length + 1) cap) = w5 → (w5.cell? ⟨R, 0, none⟩ = some (.int .i64 (V.1 : Int)) ∧ w5.cell? ⟨R, 1, none⟩ = some (.int .i64 (V.2.1 : Int)) ∧ w5.cell? ⟨R, 2, none⟩ = some (.int .u32 (V.2.2 : Int))) ∧ TOut w0 G κ p z1 z2 r.2 w w5) := keepHid (fun wy hb G2 cap w4 q1 q2 q3 => by
      have hy := HCC.out.below hb
      have ht := turn_grown q2
      have hcol := H.out.reps.col
      have hGn : ¬ (Value.slice A s.rp.length c).ownBlock = some G := fun e => by have := hcol G e; rw [H.out.g] at this; omega
      have hRn : ¬ (Value.slice A s.rp.length c).ownBlock = some R := fun e => by have := (H.out.lt R (by rw [hcol R e]; omega)).2; omega
      have hb4 := ht.blk hy.blk hGn
      refine ⟨hb4.cell 7, hb4.frozen 7, fun w5 h5 => ?_⟩
      have hk4 := ht.blk (HKR.out.below hb HKR.out.lt) hRn
      have t5 : Turn (fun i => i = G) w4 w5 := by rw [← h5]; exact turnAt _ _ (Turn.refl _ w4)
      have hk5 := t5.blk hk4 (fun e => by have := H.out.blk.lt; omega)
      have hbw : Below w.heap.size w wy := HBC.out.trans (hb.mono HBC.out.size)
      refine ⟨⟨hk5.cell 0, hk5.cell 1, hk5.cell 2⟩, ?_⟩
      rw [hr]
      exact H.out.replied hbw q1 ht (q3.imp id fun e => by rw [e]; exact hbw.size) h5)
    have hlv : (lin20 V.1 V.2.1 V.2.2).length ≤ 64 := by
      have l1 := dig_sixteen (n := V.1) (by omega)
      have l2 := dig_sixteen (n := V.2.1) (by omega)
      have l3 := dig_sixteen (n := V.2.2) (by omega)
      unfold lin20
      simp only [List.length_append, List.length_cons, List.length_nil]
      omega
    have HK1 : Hid (∀ w, (Op.stringOp .add (strB (lin20 V.1 V.2.1 V.2.2)) ⟨#[61, 62, 32]⟩).run Tryz.prog w = .ok (.string (strB (lin20 V.1 V.2.1 V.2.2 ++ promptL))) w) := keepHid (fun w => run_strAdd _ promptL (by simp only [promptL, List.length_cons, List.length_nil]; omega) w)
    have HLN := keepHid (fun wz h4 => line_any20 V.1 V.2.1 V.2.2 (by omega) (by omega) v3 wz h4)
    have HR1 : Hid (r.1 = lin20 V.1 V.2.1 V.2.2 ++ promptL) := keepHid (by rw [hr])
    generalize hN : s.rp.length = N at *
    have hN2 : N ≤ 1000000000 := hrp
    clear hr HV HNO v1 v2 v3 hlv hemp hemp2 hqx hqs
    go_upto_region 12 with fail
    go_region_law (first
      | ((refine step_append_rps rfl (.tmp 46) (.tmp 48) rfl w0.heap.size (.slice A N c) N s.rp (by simp [Act.eval]) (HO.out _ (by (repeat (first | (with_reducible exact Below.refl _ _) | (with_reducible refine bel20a ?_ _) | (with_reducible refine Below.drew ?_) | (with_reducible refine below_drewN ?_ _))))).1 ⟨wc.heap.size, 0, none⟩ 1 1 [V] (by simp [Act.eval]) rfl (by first | exact rp_cells V | exact rp_cells (w := wc.drew) V) (by omega) (by omega) (HO.out _ (by (repeat (first | (with_reducible exact Below.refl _ _) | (with_reducible refine bel20a ?_ _) | (with_reducible refine Below.drew ?_) | (with_reducible refine below_drewN ?_ _))))).2 ?_); intro G2 cap w4 q1 q2 q3; obtain ⟨g0, g1, hf⟩ := HAP.out _ (by (repeat (first | (with_reducible exact Below.refl _ _) | (with_reducible refine bel20a ?_ _) | (with_reducible refine Below.drew ?_) | (with_reducible refine below_drewN ?_ _)))) G2 cap w4 q1 q2 q3; have HF := keepHid hf; clear q1 q2 q3 hf))
    all_goals
      obtain ⟨w5, hw5⟩ : ∃ w5, w4.setCell ⟨G, 7, none⟩ (.slice (some ⟨G2, 0, none⟩) (N + 1) cap) = w5 := ⟨_, rfl⟩
      obtain ⟨⟨u0, u1, u2⟩, hout⟩ := HF.out w5 hw5
      have HOUT := keepHid hout
      have HL := keepHid (HLN.out w5 hout.four)
      have k1 := HK1.out
      try rw [hw5]
      clear hout HF HAP HO HLN hw5 g0 g1 c7 c7a
      generalize strB (lin20 V.1 V.2.1 V.2.2) = LX at *
      go_wp2_with fail
      refine HL.out.mono ?_
      rintro e w6 ⟨rfl, hb6⟩
      have HPP : Hid (ExecP w0 G κ p z1 z2 r w (.returned (.string (strB (lin20 V.1 V.2.1 V.2.2 ++ promptL)))) w6) := keepHid ⟨by rw [HR1.out], HOUT.out.below hb6⟩
      generalize strB (lin20 V.1 V.2.1 V.2.2 ++ promptL) = LY at *
      clear hb6
      go_wp2
      go_ret
      exact HPP.out
end


section
variable {w0 w : World} {G GS : Nat} {κ : Nat → Nat} {p : BP Fl} {z1 z2 : Int} {lv iv rv : Value} {s : Bd}
theorem aw_put {w2 : World} (h : TgtM w0 w G κ p z1 z2 GS lv iv rv s) (h2 : w.setCell ⟨G, 3, none⟩ (.bool true) = w2) : TOut w0 G κ p z1 z2 { s with aw := true } w w2 := by
  have ht : Turn (fun i => i = G) w w2 := by rw [← h2]; exact turnAt _ _ (Turn.refl _ w)
  have hs : w2.heap.size = w.heap.size := by rw [← h2]; simp
  have hn : ∀ k, k ≠ 1 → ∀ i, κ i = k → ¬ i = G := fun k hk i hi e => by rw [e, h.g] at hi; exact hk hi.symm
  exact ⟨κ, ⟨_, _, _, _, h.anew (κ' := κ) ht (by rw [← h2]; exact h.blk.put 3 _) (fun i hi => ⟨(h.lt i hi).1, by rw [hs]; exact (h.lt i hi).2⟩) (fun i _ => rfl) rfl (h.line.turns ht (hn 3 (by omega))) (h.reps.turns ht (hn 4 (by omega))) (h.lod.turns ht (hn 5 (by omega)))⟩, ht.mono fun i hi => by rw [hi, h.g]; omega, fun i hi => .inl hi⟩
theorem line_put {w2 : World} (h : TgtM w0 w G κ p z1 z2 GS lv iv rv s) (h2 : w.setCell ⟨G, 4, none⟩ (.slice none 0 0) = w2) : TgtM w0 w2 G κ p z1 z2 GS (.slice none 0 0) iv rv { s with ln := [] } ∧ Turn (fun i => κ i ≠ 0) w w2 := by
  have ht : Turn (fun i => i = G) w w2 := by rw [← h2]; exact turnAt _ _ (Turn.refl _ w)
  have hs : w2.heap.size = w.heap.size := by rw [← h2]; simp
  have hn : ∀ k, k ≠ 1 → ∀ i, κ i = k → ¬ i = G := fun k hk i hi e => by rw [e, h.g] at hi; exact hk hi.symm
  exact ⟨h.anew ht (by rw [← h2]; exact h.blk.put 4 _) (fun i hi => ⟨(h.lt i hi).1, by rw [hs]; exact (h.lt i hi).2⟩) (fun i _ => rfl) rfl (LineAt.nil_ _ _ _) (h.reps.turns ht (hn 4 (by omega))) (h.lod.turns ht (hn 5 (by omega))), ht.mono fun i hi => by rw [hi, h.g]; omega⟩
/-- A byte is laid behind a line's others. -/
theorem TgtM.lined {w4 w5 wy : World} {lv' : Value} {ln' : List UInt8} (h : TgtM w0 w G κ p z1 z2 GS lv iv rv s) (hb : Below w.heap.size w wy) (ho : OwnB w4 w0.heap.size 5 lv' ln'.length ln') (ht : Turn (fun i => lv.ownBlock = some i) wy w4)
    (hw : lv'.ownBlock = lv.ownBlock ∨ lv'.ownBlock = some wy.heap.size) (h5 : w4.setCell ⟨G, 4, none⟩ lv' = w5) :
    TOut w0 G κ p z1 z2 { s with ln := ln' } w w5 := by
  have hy := h.below hb
  have hcol : ∀ i, lv'.ownBlock = some i → κ i = 3 ∨ (κ i = 0 ∧ w.heap.size ≤ i) := fun i hi => by
    rcases hw with e | e
    · exact .inl (h.line.col i (e ▸ hi))
    · rw [e] at hi
      obtain rfl := Option.some.inj hi
      refine .inr ⟨?_, hb.size⟩
      rcases Nat.eq_zero_or_pos (κ wy.heap.size) with q | q
      · exact q
      · have := (hy.lt wy.heap.size (by omega)).2; omega
  have hn3 : ∀ k, k ≠ 3 → ∀ i, κ i = k → ¬ lv.ownBlock = some i := fun k h3 i hi e => by rw [h.line.col i e] at hi; omega
  have hk : ∀ k, k ≠ 0 → ∀ i, κ i = k → (if lv'.ownBlock = some i then 3 else κ i) = k := fun k h0 i hi => by
    by_cases e : lv'.ownBlock = some i
    · rw [if_pos e]
      rcases hcol i e with q | q <;> omega
    · rw [if_neg e]; exact hi
  have t5 : Turn (fun i => i = G) w4 w5 := by rw [← h5]; exact turnAt _ _ (Turn.refl _ w4)
  have s5 : w5.heap.size = w4.heap.size := by rw [← h5]; simp
  have hn1 : ∀ k, k ≠ 1 → ∀ i, κ i = k → ¬ i = G := fun k hk i hi e => by rw [e, h.g] at hi; exact hk hi.symm
  have hz : ∀ i, (if lv'.ownBlock = some i then 3 else κ i) ≠ 0 → κ i ≠ 0 ∨ lv'.ownBlock = some i := fun i hi => by
    by_cases e : lv'.ownBlock = some i
    · exact .inr e
    · rw [if_neg e] at hi; exact .inl hi
  refine ⟨fun i => if lv'.ownBlock = some i then 3 else κ i, ⟨GS, lv', iv, rv, ⟨?_, hk 1 (by omega) G h.g, hk 2 (by omega) GS h.gs, ?_, ⟨?_, ?_⟩, ?_, ?_, ?_, ?_⟩⟩, ?_, ?_⟩
  · rw [← h5]; exact (ht.blk hy.blk (hn3 1 (by omega) G h.g)).put 4 _
  · exact ((hy.sto.turn ht (hn3 2 (by omega) GS h.gs))).turn t5 (hn1 2 (by omega) GS h.gs)
  · exact ho.keep fun i hi hlt => t5.block i hlt fun e => by
      rcases hcol i hi with q | q
      · rw [e, h.g] at q; omega
      · rw [e, h.g] at q; omega
  · intro i hi
    simp [hi]
  · exact ((hy.reps.turns ht (hn3 4 (by omega))).turns t5 (hn1 4 (by omega))).hue (hk 4 (by omega))
  · exact ((hy.lod.turns ht (hn3 5 (by omega))).turns t5 (hn1 5 (by omega))).hue (hk 5 (by omega))
  · intro i hi
    rw [s5]
    rcases hz i hi with q | q
    · exact ⟨(hy.lt i q).1, Nat.lt_of_lt_of_le (hy.lt i q).2 ht.size⟩
    · exact World.ownsRow.lt ho i q
  · exact (hy.base.turns ht (fun i hi => (h.lt i (by rw [h.line.col i hi]; omega)).1)).turns t5 (fun i hi => by rw [hi]; exact (h.lt G (by rw [h.g]; omega)).1)
  · exact (((Turn.of_below hb).trans (ht.mono fun i hi => by rw [h.line.col i hi]; omega)).trans (t5.mono fun i hi => by rw [hi, h.g]; omega))
  · intro i hi
    rcases hz i hi with q | q
    · exact .inl q
    · rcases hcol i q with g | g
      · exact .inl (by omega)
      · exact .inr g.2
theorem take_asleep (h : s.aw = false) (c : UInt8) : take20 p s c = (readyL, { s with aw := true }) := by unfold take20; rw [if_pos h]
theorem take_cr (h : s.aw = true) : take20 p s 13 = exec20 p { s with ln := [] } s.ln := by unfold take20; rw [if_neg (by rw [h]; simp), if_pos rfl]
theorem take_byte {c : UInt8} (h : s.aw = true) (hc : c ≠ 13) (hl : s.ln.length < 80) : take20 p s c = ([], { s with ln := s.ln ++ [c] }) := by unfold take20; rw [if_neg (by rw [h]; simp), if_neg hc, if_pos hl]
theorem take_lost {c : UInt8} (h : s.aw = true) (hc : c ≠ 13) (hl : ¬ s.ln.length < 80) : take20 p s c = ([], s) := by unfold take20; rw [if_neg (by rw [h]; simp), if_neg hc, if_neg hl]
set_option maxRecDepth 100000 in
set_option maxHeartbeats 8000000 in
theorem take_any20 (h : TgtM w0 w G κ p z1 z2 GS lv iv rv s) (c : UInt8) (hl : s.ln.length ≤ 80) (hrp : s.rp.length ≤ 1000000000) :
    Calls Tryz.prog 33 #[ptV G, .int .u8 (c.toNat : Int)] w (ExecP w0 G κ p z1 z2 (take20 p s c) w) := by
  have H := keepHid h
  have c3 : w.cell? ⟨G, 3, none⟩ = some (.bool s.aw) := h.blk.cell 3
  have c4 : w.cell? ⟨G, 4, none⟩ = some lv := h.blk.cell 4
  have hf := h.blk.frozen
  obtain ⟨A, cl, hlv⟩ : ∃ A cl, lv = .slice A s.ln.length cl := by
    obtain ⟨A, cl, e, _⟩ := h.line.own.form
    exact ⟨A, cl, e⟩
  subst hlv
  clear h
  cases haw : s.aw with
  | false =>
    rw [haw] at c3
    obtain ⟨w2, hw2⟩ : ∃ w2, w.setCell ⟨G, 3, none⟩ (.bool true) = w2 := ⟨_, rfl⟩
    have HP : Hid (ExecP w0 G κ p z1 z2 (take20 p s c) w (.returned (.string ⟨#[13, 10, 61, 62, 32]⟩)) w2) := keepHid (by rw [take_asleep haw]; exact ⟨rfl, aw_put H.out hw2⟩)
    unfold ptV
    clear haw c4
    go_enter Tryz.func33, Tryz.ntmps33
    go_wp2
    try rw [hw2]
    go_ret
    exact HP.out
  | true =>
  rw [haw] at c3
  by_cases hc : c = 13
  · subst hc
    have hcv := run_str (P := Tryz.prog) (w := w) (c := cl) 31 5 9 Tryz.underlying31 Tryz.underlying5 Tryz.underlying9 (H.out.line.own.bys (by omega))
    obtain ⟨w2, hw2⟩ : ∃ w2, w.setCell ⟨G, 4, none⟩ (.slice none 0 0) = w2 := ⟨_, rfl⟩
    obtain ⟨h2, t2⟩ := line_put H.out hw2
    have HEX : Hid (Calls Tryz.prog 52 #[.pointer (some ⟨G, 0, none⟩), .string (strB s.ln)] w2 (ExecP w0 G κ p z1 z2 (take20 p s 13) w)) := keepHid (by
      rw [take_cr haw]
      refine (execute_any h2 s.ln (by omega) hrp).mono fun e w' hh => ⟨hh.1, TOut.of t2 (fun i hi => .inl hi) hh.2⟩)
    rw [show (((13 : UInt8).toNat : Nat) : Int) = 13 from rfl]
    generalize strB s.ln = X at *
    generalize take20 p s 13 = r at *
    generalize s.ln.length = N at *
    unfold ptV
    clear haw h2 t2
    go_enter Tryz.func33, Tryz.ntmps33
    go_wp2_with fail
    try rw [hw2]
    refine HEX.out.mono ?_
    rintro e w3 ⟨rfl, hout⟩
    have HO := keepHid hout
    clear hout hw2 hcv c3 c4 hf
    go_wp2
    go_ret
    exact ⟨rfl, HO.out⟩
  · have hq : ((c.toNat : Int) == 13) = false := by
      have := u8_ne (c := c) (d := 13) hc
      simpa using this
    have hq2 : ¬ (c.toNat : Int) = 13 := by simpa using hq
    by_cases hlen : s.ln.length < 80
    · have hlen2 : (s.ln.length : Int) < 80 := by omega
      obtain ⟨w1, hw1⟩ : ∃ w1, w.alloc (.cells #[.int .u8 (c.toNat : Int)] 5) = w1 := ⟨_, rfl⟩
      have hb1 : Below w.heap.size w w1 := by rw [← hw1]; exact (Below.refl _ _).alloc (Nat.le_refl _) _
      have hk1 : Blk w1 w.heap.size 5 (byteVals [c]) := by rw [← hw1]; exact Blk.new w _ _
      have HY : Hid (Bys w1 (w.heap.size + 1) (some ⟨w.heap.size, 0, none⟩) 1 [c]) := keepHid (bys_blk hk1 rfl (by omega))
      have HOW : Hid (OwnB w1 w0.heap.size 5 (.slice A s.ln.length cl) s.ln.length s.ln) := keepHid ((H.out.below hb1).line.own)
      have d4 : w1.cell? ⟨G, 4, none⟩ = some (.slice A s.ln.length cl) := (H.out.below hb1).blk.cell 4
      have HSZ : Hid (w0.heap.size ≤ w1.heap.size) := keepHid ((H.out.below hb1).base.bel.size)
      obtain ⟨N, hN⟩ : ∃ N, s.ln.length = N := ⟨_, rfl⟩
      have HFIN : Hid (∀ A2 c2 w4 w5, OwnB w4 w0.heap.size 5 (.slice A2 (N + 1) c2) (N + 1) (s.ln ++ [c]) → Turn (fun i => (Value.slice A N cl).ownBlock = some i) w1 w4 → ((Value.slice A2 (N + 1) c2).ownBlock = (Value.slice A N cl).ownBlock ∨ (Value.slice A2 (N + 1) c2).ownBlock = some w1.heap.size) →
          w4.setCell ⟨G, 4, none⟩ (.slice A2 (N + 1) c2) = w5 → ExecP w0 G κ p z1 z2 (take20 p s c) w (.returned (.string ⟨#[]⟩)) w5) := keepHid (fun A2 c2 w4 w5 q1 q2 q3 q4 => by
        rw [take_byte haw hc hlen]
        have hl1 : (s.ln ++ [c]).length = N + 1 := by rw [List.length_append, hN]; rfl
        have H' : TgtM w0 w G κ p z1 z2 GS (.slice A N cl) iv rv s := by rw [← hN]; exact H.out
        exact ⟨rfl, H'.lined hb1 (by rw [hl1]; exact q1) q2 q3 q4⟩)
      have HC4 : Hid (∀ w4, Turn (fun i => (Value.slice A N cl).ownBlock = some i) w1 w4 → w4.cell? ⟨G, 4, none⟩ = some (.slice A N cl) ∧ w4.frozen? ⟨G, 4, none⟩ = false) := keepHid (fun w4 ht => by
        rw [hN] at H
        have hG : ¬ (Value.slice A N cl).ownBlock = some G := fun e => by have := H.out.line.col G e; rw [H.out.g] at this; omega
        have hb := ht.blk (H.out.below hb1).blk hG
        exact ⟨hb.cell 4, hb.frozen 4⟩)
      rw [hN] at HOW d4 c4 hlen2
      generalize take20 p s c = r at *
      unfold ptV
      generalize (c.toNat : Int) = cv at *
      clear haw hb1 hk1 hc hlen hl
      go_enter Tryz.func33, Tryz.ntmps33
      go_wp2_with (at_builtin; refine wpList_append_bytes _ rfl _ _ 31 rfl w0.heap.size 5 byteT (.slice A N cl) N s.ln (by rfl) HOW.out (w.heap.size + 1) (some ⟨w.heap.size, 0, none⟩) 1 1 [c] (by rfl) HY.out (N + 1) rfl (by omega) HSZ.out ?_)
      intro A2 c2 w4 q1 q2 q3 _ _
      obtain ⟨w5, hw5⟩ : ∃ w5, w4.setCell ⟨G, 4, none⟩ (.slice A2 (N + 1) c2) = w5 := ⟨_, rfl⟩
      obtain ⟨f4, f5⟩ := HC4.out w4 q2
      have HR := keepHid (HFIN.out A2 c2 w4 w5 q1 q2 q3 hw5)
      clear q1 q2 q3 HFIN HC4
      clear hw1 HY HOW d4 c3 c4
      go_wp2
      try rw [hw5]
      go_ret
      exact HR.out
    · have hlen2 : ¬ (s.ln.length : Int) < 80 := by omega
      have HP : Hid (ExecP w0 G κ p z1 z2 (take20 p s c) w (.returned (.string ⟨#[]⟩)) w) := keepHid (by rw [take_lost haw hc hlen]; exact ⟨rfl, TOut.same ⟨_, _, _, _, H.out⟩ (Below.refl _ _)⟩)
      generalize take20 p s c = r at *
      generalize s.ln.length = N at *
      unfold ptV
      generalize (c.toNat : Int) = cv at *
      clear haw hc hlen hl
      go_enter Tryz.func33, Tryz.ntmps33
      go_wp2
      go_ret
      exact HP.out
end


def lenS : Value → Nat
  | .slice _ n _ => n
  | _ => 0
theorem exec_out (p : BP Fl) (s : Bd) (l : List UInt8) : (exec20 p s l).1.length ≤ 64 ∧ (exec20 p s l).2.rp.length ≤ s.rp.length + 1 := by
  unfold exec20
  split
  · exact ⟨by simp [readyL], by simp⟩
  split
  · split
    · split
      · exact ⟨by simp, by simp⟩
      · exact ⟨by simp [noL, readyL], by simp⟩
    split
    · split
      · rename_i a n ha hn
        split
        · have l1 := dig_eight (hexN_is ha).1
          have l2 := dig_eight (hexN_is hn).1
          have l3 := dig_eight (pr_u32 (getL s.st a n))
          refine ⟨?_, by simp⟩
          simp only [lin20, promptL, List.length_append, List.length_cons, List.length_nil]
          omega
        · exact ⟨by simp [noL, readyL], by simp⟩
      · exact ⟨by simp [noL, readyL], by simp⟩
    · exact ⟨by simp [noL, readyL], by simp⟩
  · exact ⟨by simp [noL, readyL], by simp⟩
theorem take_out (p : BP Fl) (s : Bd) (c : UInt8) : (take20 p s c).1.length ≤ 64 ∧ (take20 p s c).2.rp.length ≤ s.rp.length + 1 := by
  unfold take20
  split
  · exact ⟨by simp [readyL], by simp⟩
  split
  · exact exec_out p { s with ln := [] } s.ln
  split
  · exact ⟨by simp, by simp⟩
  · exact ⟨by simp, by simp⟩
/-- A call between leaves what was told. -/
theorem Told.step {w0 w w1 w2 : World} {κ κ1 κ2 : Nat → Nat} {v : Value} {n : Nat} {xs : List UInt8} (h : Told w0 w w1 κ κ1 v n xs) (h2 : Turn (fun i => κ1 i ≠ 0) w1 w2) (h3 : ∀ i, κ2 i ≠ 0 → κ1 i ≠ 0 ∨ w1.heap.size ≤ i) : Told w0 w w2 κ κ2 v n xs := by
  refine ⟨h.own.keep fun i hi hlt => h2.block i hlt (fun hh => hh (h.zero i hi)), fun i hi => ?_, ?_, fun i hi => ?_, h.le⟩
  · have hlt := (World.ownsRow.lt h.own i hi).2
    rcases Nat.eq_zero_or_pos (κ2 i) with h0 | h0
    · exact h0
    · rcases h3 i (by omega) with q | q
      · exact absurd (h.zero i hi) q
      · omega
  · refine ⟨h2.os.trans h.turn.os, h2.tape.trans h.turn.tape, h2.output.trans h.turn.output, Nat.le_trans h.turn.size h2.size, fun i hi hn => (h2.block i (Nat.lt_of_lt_of_le hi h.turn.size) (fun h1 => ?_)).trans (h.turn.block i hi hn)⟩
    rcases h.new i h1 with q | q
    · exact hn q
    · omega
  · rcases h3 i hi with q | q
    · exact h.new i q
    · exact .inr (Nat.le_trans h.turn.size q)
/-- Bytes are appended, the Target known in its parts. -/
theorem Told.appM {w0 w w2 w3 : World} {G GS : Nat} {κ κ2 : Nat → Nat} {p : BP Fl} {z1 z2 : Int} {s2 : Bd} {lv iv rv v v' : Value} {n k : Nat} {xs zs : List UInt8} (h : Told w0 w w2 κ κ2 v n xs) (hT : TgtM w0 w2 G κ2 p z1 z2 GS lv iv rv s2)
    (ho : OwnB w3 w.heap.size 5 v' k zs) (ht : Turn (fun i => v.ownBlock = some i) w2 w3) (hw : v'.ownBlock = v.ownBlock ∨ v'.ownBlock = some w2.heap.size) : TgtM w0 w3 G κ2 p z1 z2 GS lv iv rv s2 ∧ Told w0 w w3 κ κ2 v' k zs := by
  have h2 := h.app ⟨GS, lv, iv, rv, hT⟩ ho ht hw
  refine ⟨hT.turns ht fun i hi => ⟨h.zero i hi, ?_⟩, h2.2⟩
  have := (World.ownsRow.lt h.own i hi).1
  have := h.le
  omega
theorem add_zero (ad : Addr) : ad.add 0 = ad := by unfold Addr.add; simp
/-- Where a Put is. -/
def PutR (w0 w : World) (G : Nat) (κ : Nat → Nat) (p : BP Fl) (z1 z2 : Int) (s : Bd) (b : List UInt8) (C B : Nat) (I : Bd → Nat → List UInt8 → Prop) (A : Option Addr) (m : Nat) (v : Value) (n : Nat) (wr : World) : Prop :=
  ∃ κ1 s1 xs rest, Bys w w.heap.size A m rest ∧ (∀ ad, A = some ad → 0 < m → κ ad.block = 0) ∧ Told w0 w wr κ κ1 v n xs ∧ Tgt w0 wr G κ1 p z1 z2 s1 ∧ feed20 p s b = (xs ++ (feed20 p s1 rest).1, (feed20 p s1 rest).2) ∧ Ok20 C B s1 ∧ I s1 n rest


set_option maxRecDepth 100000 in
set_option maxHeartbeats 16000000 in
theorem put_gen {w0 w : World} {G : Nat} {κ : Nat → Nat} {p : BP Fl} (hp : Rdr p) {z1 z2 : Int} {s : Bd} (h : Tgt w0 w G κ p z1 z2 s) {C B : Nat} (hok : Ok20 C B s) (hC : C ≤ 500000) (hB : B ≤ 500000000) (A : Option Addr) (N c : Nat) (b : List UInt8) (hb : Bys w w.heap.size A N b)
    (hc : N ≤ c) (hcm : c ≤ 9223372036854775807) (hap : ∀ ad, A = some ad → 0 < N → κ ad.block = 0) (I : Bd → Nat → List UInt8 → Prop) (hI0 : I s 0 b) (hIs : ∀ s n c rest, s.ld = .non → I s n (c :: rest) → I (take20 p s c).2 (n + (take20 p s c).1.length) rest)
    (hIb : ∀ s n rest, I s n rest → n ≤ 100000000000 ∧ (s.ld ≠ .non → rest.length ≤ 400000000) ∧ s.rp.length ≤ 1000000000) :
    Calls Tryz.prog 16 #[ptV G, .slice A N c] w (TRow w0 G κ p z1 z2 (feed20 p s b) w) := by
  have HSTART : Hid (PutR w0 w G κ p z1 z2 s b C B I A N (.slice none 0 0) 0 w) := keepHid ⟨κ, s, [], b, hb, hap, ⟨OwnB.nil _ _ _, fun i hi => by simp [Value.ownBlock] at hi, Turn.refl _ _, fun i hi => .inl hi, h.base.bel.size⟩, h, rfl, hok, hI0⟩
  have HP := keepHid hp
  have HLE := keepHid h.base.bel.size
  have HIS := keepHid hIs
  have HIB := keepHid hIb
  clear hb hap h hok hI0 hIs hIb hp
  unfold ptV
  go_enter Tryz.func16, Tryz.ntmps16
  go_wp2_with fail
  go_loopw [5, 1] (fun vt vb wr => ∃ (A : Option Addr) (m c n : Nat) (A2 : Option Addr) (c2 : Nat), vt = .slice A2 n c2 ∧ vb = .slice A m c ∧ m ≤ c ∧ c ≤ 9223372036854775807 ∧ Hid (n ≤ c2 ∧ c2 ≤ 9223372036854775807) ∧ Hid (PutR w0 w G κ p z1 z2 s b C B I A m (.slice A2 n c2) n wr)) (fun _ vb _ => lenS vb)
  case atStart => exact ⟨A, N, c, 0, none, 0, rfl, rfl, hc, hcm, keepHid (by omega), HSTART⟩
  case round =>
    clear HSTART hc hcm
    obtain ⟨A, m, c, n, A2, c2, rfl, rfl, hmc, hcm, HCC, HREL⟩ := hrel
    obtain ⟨κ1, s1, xs, rest, hy, hap, htd, htg, hfe, hok, hi⟩ := HREL.out
    obtain ⟨hib1, hib2, hib3⟩ := HIB.out _ _ _ hi
    have HI := keepHid hi
    have HYW := keepHid hy
    have HY := keepHid (hy.turn htd.turn (Nat.le_refl _) (fun h0 ad e hh => hh (hap ad e h0)))
    have HAP := keepHid hap
    have HTD := keepHid htd
    have HFE := keepHid hfe
    have HOK := keepHid hok
    have hn64 : n ≤ 100000000000 := hib1
    have hws := htd.turn.size
    obtain ⟨GS, lv, iv, rv, hM⟩ := htg
    have HM := keepHid hM
    have c5 : wr.cell? ⟨G, 5, none⟩ = some iv := hM.blk.cell 5
    have hor := hM.lod.or
    have HZ : Hid (∀ ad, A = some ad → 0 < m → κ1 ad.block = 0 ∧ ad.block < w.heap.size) := keepHid (fun ad e h0 => by
      obtain ⟨ad', c', e', hlt, _⟩ := hy.at_ h0
      have : ad' = ad := by rw [e] at e'; exact (Option.some.inj e').symm
      subst this
      refine ⟨?_, hlt⟩
      rcases Nat.eq_zero_or_pos (κ1 ad'.block) with q | q
      · exact q
      · rcases htd.new ad'.block (by omega) with q1 | q1
        · exact absurd (hap ad' e h0) q1
        · omega)
    have hrl := hy.len
    clear hy hap htd hfe hok hM HREL hi
    rcases hor with ⟨hnon, rfl⟩ | ⟨hld, T, GR, rfl⟩
    · by_cases hm : m = 0
      · subst hm
        have hrest : rest = [] := List.eq_nil_of_length_eq_zero hrl
        have HR : Hid (TRow w0 G κ p z1 z2 (feed20 p s b) w (.returned (.slice A2 n c2)) wr) := keepHid (by
          refine HTD.out.row ⟨GS, lv, .nilIface, rv, ?_⟩ ?_ HCC.out.1 HCC.out.2
          · rw [HFE.out, hrest, feed_nil hnon]; exact HM.out
          · rw [HFE.out, hrest, feed_nil hnon]; simp)
        generalize feed20 p s b = r at *
        clear hnon hrl hib1 hib2 hib3 HI HIS HIB hws HZ HY HAP HTD HFE HOK HM hn64 HCC
        go_wp2
        go_ret
        exact HR.out
      · obtain ⟨c0, rest', hrest⟩ : ∃ c0 rest', rest = c0 :: rest' := by
          cases rest with
          | nil => simp at hrl; omega
          | cons a q => exact ⟨a, q, rfl⟩
        subst hrest
        obtain ⟨ad, c0', had, hlt0, hx0, hcell0⟩ := HY.out.at_ (k := 0) (by omega)
        obtain rfl : c0 = c0' := by simpa using hx0
        rw [add_zero] at hcell0
        subst had
        have hm1 : 1 ≤ m := by omega
        have hmI : (0 : Int) < (m : Int) := by omega
        have hto := take_out p s1 c0
        have HTK := keepHid (take_any20 HM.out c0 HOK.out.ln hib3)
        have HFE2 : Hid (feed20 p s b = (xs ++ ((take20 p s1 c0).1 ++ (feed20 p (take20 p s1 c0).2 rest').1), (feed20 p (take20 p s1 c0).2 rest').2)) := keepHid (by rw [HFE.out, feed_take hnon])
        have HI2 := keepHid (HIS.out s1 n c0 rest' hnon HI.out)
        have HOK2 := keepHid (take_ok (p := p) HOK.out c0)
        have HCUT := keepHid (HYW.out.cut (k := 1) (cap := c) (by omega) hmc)
        have HNEXT : Hid (∀ κ2 w3 A3 c3, Tgt w0 w3 G κ2 p z1 z2 (take20 p s1 c0).2 → Told w0 w w3 κ κ2 (.slice A3 (n + (take20 p s1 c0).1.length) c3) (n + (take20 p s1 c0).1.length) (xs ++ (take20 p s1 c0).1) →
            PutR w0 w G κ p z1 z2 s b C B I (if c = 1 then some ad else (some ad : Option Addr).map (·.add 1)) (m - 1) (.slice A3 (n + (take20 p s1 c0).1.length) c3) (n + (take20 p s1 c0).1.length) w3) := keepHid (fun κ2 w3 A3 c3 hT hD => by
          refine ⟨κ2, (take20 p s1 c0).2, xs ++ (take20 p s1 c0).1, rest', HCUT.out, ?_, hD, hT, ?_, HOK2.out, HI2.out⟩
          · intro ad' e _
            split at e
            · exact HAP.out ad' e (by omega)
            · obtain rfl := Option.some.inj e
              rw [ad_block]; exact HAP.out ad rfl (by omega)
          · rw [HFE2.out, List.append_assoc])
        generalize take20 p s1 c0 = tk at *
        obtain ⟨n1, hn1⟩ : ∃ n1, n + tk.1.length = n1 := ⟨_, rfl⟩
        rw [hn1] at HNEXT
        have hn1b : n1 ≤ 140737488355328 := by omega
        clear hnon hrl hib1 hib2 hib3 HI HIS HIB HI2 HZ HY HYW HAP HFE HFE2 HOK HOK2 HM hn64 hx0 hlt0 HCUT hto hm
        go_wp2_with fail
        refine HTK.out.mono ?_
        rintro e w2 ⟨rfl, hout⟩
        obtain ⟨κ2, hT2, hD2⟩ := HTD.out.next hout
        have HT2 := keepHid hT2
        have HD2 := keepHid hD2
        have hws2 := hD2.turn.size
        clear hout hT2 hD2 HTK HTD hcell0 c5 hws
        go_wp2_with (at_builtin; refine wpList_append_textO rfl _ _ rfl w.heap.size (.slice A2 n c2) n xs tk.1 (by rfl) HD2.out.own (by rfl) n1 hn1 hn1b hws2 ?_)
        intro A3 c3 w3 q1 q2 q3 q4 q5
        obtain ⟨hT3, hD3⟩ := HD2.out.app HT2.out q1 q2 q3
        have HR := keepHid (HNEXT.out κ2 w3 A3 c3 hT3 hD3)
        have HQ := keepHid (And.intro q4 q5)
        clear q1 q2 q3 q4 q5 hT3 hD3 HNEXT hn1b hws2
        go_wp2
        go_roundw
        case rel => exact ⟨_, m - 1, c - 1, n1, A3, c3, rfl, rfl, by omega, by omega, HQ, HR⟩
        case measure => simp [lenS]; omega
    · have hm4 : m ≤ 400000000 := by rw [← hrl]; exact hib2 hld
      clear c5
      cases hs : s1.ld with
      | non => exact absurd hs hld
      | one crc r1 =>
        have hl := HM.out.lod
        rw [hs] at hl
        obtain ⟨GR', e, -⟩ := hl
        obtain ⟨rfl, rfl⟩ : T = 76 ∧ GR = GR' := by
          injection e with e1 e2
          refine ⟨e1, ?_⟩
          injection e2 with e2
          injection e2 with e2
          injection e2
        clear e
        have c5 : wr.cell? ⟨G, 5, none⟩ = some (.iface 76 (ptV GR)) := HM.out.blk.cell 5
        have hfit : s1.ld.fit := ⟨C, B, HOK.out.few, hC, hB⟩
        have HPT := keepHid (lod_one_put HM.out hs hfit A m c rest (HY.out.more hws) hm4 (fun ad e h0 => (HZ.out ad e h0).1))
        have l1 := Lod.put_out p rest s1.ld
        have l2 := fin_out_few { s1 with ld := (s1.ld.put p rest).2 }
        have hni : s1.ld.isNon = false := by rw [hs]; rfl
        have HFE2 : Hid (feed20 p s b = (xs ++ ((s1.ld.put p rest).1 ++ (fin20 { s1 with ld := (s1.ld.put p rest).2 }).1), (fin20 { s1 with ld := (s1.ld.put p rest).2 }).2)) := keepHid (by rw [HFE.out, feed_load hni, lput_is])
        have HF : Hid (∀ w1 κ2, TgtM w0 w1 G κ2 p z1 z2 GS lv (.iface 76 (ptV GR)) rv { s1 with ld := (s1.ld.put p rest).2 } → Calls Tryz.prog 29 #[.pointer (some ⟨G, 0, none⟩)] w1 (FinPost w0 G κ2 p z1 z2 { s1 with ld := (s1.ld.put p rest).2 } w1)) := keepHid (fun w1 κ2 h1 => finish_any (.inl ⟨rfl, by rw [hs]; exact ⟨_, _, rfl⟩⟩) h1 HOK.out.ad ⟨C + 1, B + rest.length, Lod.few_put p rest HOK.out.few, by omega⟩)
        have h2 := HOK.out
        generalize feed20 p s b = r at *
        generalize s1.ld.put p rest = lt at *
        obtain ⟨s2, hs2⟩ : ∃ s2, { s1 with ld := lt.2 } = s2 := ⟨_, rfl⟩
        have HS2 := keepHid hs2
        rw [hs2] at HF l2 HFE2
        clear hs2 h2 hs hfit hni hld hrl hib1 hib2 hib3 HI HIS HIB HZ HY HYW HAP HFE HOK
        unfold ptV at c5 HPT
        by_cases hm0 : 0 < m
        all_goals
          go_wp2_with fail
          refine HPT.out.mono ?_
          rintro e w5 ⟨A5, k5, κ5, rfl, ho5, hc51, hc52, hm5, ht5, hk5, hz5⟩
          have hd5 := HTD.out.step (ht5.mono (fun i hi => by rw [hi]; omega)) hk5
          have HD5 := keepHid hd5
          have hws5 := hd5.turn.size
          have HM5 : Hid (TgtM w0 w5 G κ5 p z1 z2 GS lv (.iface 76 (ptV GR)) rv s2) := keepHid (by rw [← HS2.out]; exact hm5)
          obtain ⟨n5, hn5⟩ : ∃ n5, lt.1.length = n5 := ⟨_, rfl⟩
          have HY5 : Hid (Bys w5 w5.heap.size A5 n5 lt.1) := keepHid (by rw [← hn5]; exact ho5.bys (by omega))
          rw [hn5] at l1 ⊢
          obtain ⟨n6, hn6⟩ : ∃ n6, n + n5 = n6 := ⟨_, rfl⟩
          have hn6b : n6 ≤ 140737488355328 := by omega
          clear ho5 hc51 hc52 hm5 ht5 hk5 hz5 hd5 HPT c5 HTD HM hws
          go_wp2_with (at_builtin; refine wpList_append_bytes _ rfl _ _ 31 rfl w.heap.size 5 byteT (.slice A2 n c2) n xs (by rfl) HD5.out.own w5.heap.size A5 n5 k5 lt.1 (by rfl) HY5.out n6 hn6 hn6b hws5 ?_)
          intro A6 c6 w6 q1 q2 q3 _ _
          obtain ⟨hM6, hD6⟩ := HD5.out.appM HM5.out q1 q2 q3
          have HD6 := keepHid hD6
          have HFN := keepHid (HF.out w6 κ5 hM6)
          have hn6c : n6 ≤ 100000000002 := by omega
          unfold FinPost at HFN
          generalize fin20 s2 = f1 at *
          obtain ⟨n7, hn7⟩ : ∃ n7, n6 + f1.1.length = n7 := ⟨_, rfl⟩
          have hn7b : n7 ≤ 140737488355328 := by omega
          clear q1 q2 q3 hM6 hD6 HF HY5 HM5 HD5 hn6b hws5
          go_wp2_with fail
          refine HFN.out.mono ?_
          rintro e w7 ⟨rfl, hout⟩
          obtain ⟨κ7, hT7, hD7⟩ := HD6.out.next hout
          have HT7 := keepHid hT7
          have HD7 := keepHid hD7
          have hws7 := hD7.turn.size
          clear hout hT7 hD7 HFN HD6
          go_wp2_with (at_builtin; refine wpList_append_textO rfl _ _ rfl w.heap.size (.slice A6 n6 c6) n6 (xs ++ lt.1) f1.1 (by rfl) HD7.out.own (by rfl) n7 hn7 hn7b hws7 ?_)
          intro A8 c8 w8 q1 q2 q3 q4 q5
          obtain ⟨hT8, hD8⟩ := HD7.out.app HT7.out q1 q2 q3
          have HR := keepHid (hD8.row (r := r) (by rw [HFE2.out]; exact hT8) (by rw [HFE2.out]) q4 q5)
          clear q1 q2 q3 q4 q5 hT8 hD8
          go_wp2
          go_ret
          exact HR.out
      | files f =>
        have hl := HM.out.lod
        rw [hs] at hl
        obtain ⟨GR', e, -⟩ := hl
        obtain ⟨rfl, rfl⟩ : T = 77 ∧ GR = GR' := by
          injection e with e1 e2
          refine ⟨e1, ?_⟩
          injection e2 with e2
          injection e2 with e2
          injection e2
        clear e
        have c5 : wr.cell? ⟨G, 5, none⟩ = some (.iface 77 (ptV GR)) := HM.out.blk.cell 5
        have hfit : s1.ld.fit := ⟨C, B, HOK.out.few, hC, hB⟩
        have HPT := keepHid (lod_files_put HP.out HM.out hs hfit A m c rest (HY.out.more hws) hm4 (fun ad e h0 => (HZ.out ad e h0).1))
        have l1 := Lod.put_out p rest s1.ld
        have l2 := fin_out_few { s1 with ld := (s1.ld.put p rest).2 }
        have hni : s1.ld.isNon = false := by rw [hs]; rfl
        have HFE2 : Hid (feed20 p s b = (xs ++ ((s1.ld.put p rest).1 ++ (fin20 { s1 with ld := (s1.ld.put p rest).2 }).1), (fin20 { s1 with ld := (s1.ld.put p rest).2 }).2)) := keepHid (by rw [HFE.out, feed_load hni, lput_is])
        have HF : Hid (∀ w1 κ2, TgtM w0 w1 G κ2 p z1 z2 GS lv (.iface 77 (ptV GR)) rv { s1 with ld := (s1.ld.put p rest).2 } → Calls Tryz.prog 29 #[.pointer (some ⟨G, 0, none⟩)] w1 (FinPost w0 G κ2 p z1 z2 { s1 with ld := (s1.ld.put p rest).2 } w1)) := keepHid (fun w1 κ2 h1 => finish_any (.inr ⟨rfl, by rw [hs]; exact ⟨_, rfl⟩⟩) h1 HOK.out.ad ⟨C + 1, B + rest.length, Lod.few_put p rest HOK.out.few, by omega⟩)
        have h2 := HOK.out
        generalize feed20 p s b = r at *
        generalize s1.ld.put p rest = lt at *
        obtain ⟨s2, hs2⟩ : ∃ s2, { s1 with ld := lt.2 } = s2 := ⟨_, rfl⟩
        have HS2 := keepHid hs2
        rw [hs2] at HF l2 HFE2
        clear hs2 h2 hs hfit hni hld hrl hib1 hib2 hib3 HI HIS HIB HZ HY HYW HAP HFE HOK
        unfold ptV at c5 HPT
        by_cases hm0 : 0 < m
        all_goals
          go_wp2_with fail
          refine HPT.out.mono ?_
          rintro e w5 ⟨A5, k5, κ5, rfl, ho5, hc51, hc52, hm5, ht5, hk5, hz5⟩
          have hd5 := HTD.out.step (ht5.mono (fun i hi => by rw [hi]; omega)) hk5
          have HD5 := keepHid hd5
          have hws5 := hd5.turn.size
          have HM5 : Hid (TgtM w0 w5 G κ5 p z1 z2 GS lv (.iface 77 (ptV GR)) rv s2) := keepHid (by rw [← HS2.out]; exact hm5)
          obtain ⟨n5, hn5⟩ : ∃ n5, lt.1.length = n5 := ⟨_, rfl⟩
          have HY5 : Hid (Bys w5 w5.heap.size A5 n5 lt.1) := keepHid (by rw [← hn5]; exact ho5.bys (by omega))
          rw [hn5] at l1 ⊢
          obtain ⟨n6, hn6⟩ : ∃ n6, n + n5 = n6 := ⟨_, rfl⟩
          have hn6b : n6 ≤ 140737488355328 := by omega
          clear ho5 hc51 hc52 hm5 ht5 hk5 hz5 hd5 HPT c5 HTD HM hws
          go_wp2_with (at_builtin; refine wpList_append_bytes _ rfl _ _ 31 rfl w.heap.size 5 byteT (.slice A2 n c2) n xs (by rfl) HD5.out.own w5.heap.size A5 n5 k5 lt.1 (by rfl) HY5.out n6 hn6 hn6b hws5 ?_)
          intro A6 c6 w6 q1 q2 q3 _ _
          obtain ⟨hM6, hD6⟩ := HD5.out.appM HM5.out q1 q2 q3
          have HD6 := keepHid hD6
          have HFN := keepHid (HF.out w6 κ5 hM6)
          have hn6c : n6 ≤ 100000000002 := by omega
          unfold FinPost at HFN
          generalize fin20 s2 = f1 at *
          obtain ⟨n7, hn7⟩ : ∃ n7, n6 + f1.1.length = n7 := ⟨_, rfl⟩
          have hn7b : n7 ≤ 140737488355328 := by omega
          clear q1 q2 q3 hM6 hD6 HF HY5 HM5 HD5 hn6b hws5
          go_wp2_with fail
          refine HFN.out.mono ?_
          rintro e w7 ⟨rfl, hout⟩
          obtain ⟨κ7, hT7, hD7⟩ := HD6.out.next hout
          have HT7 := keepHid hT7
          have HD7 := keepHid hD7
          have hws7 := hD7.turn.size
          clear hout hT7 hD7 HFN HD6
          go_wp2_with (at_builtin; refine wpList_append_textO rfl _ _ rfl w.heap.size (.slice A6 n6 c6) n6 (xs ++ lt.1) f1.1 (by rfl) HD7.out.own (by rfl) n7 hn7 hn7b hws7 ?_)
          intro A8 c8 w8 q1 q2 q3 q4 q5
          obtain ⟨hT8, hD8⟩ := HD7.out.app HT7.out q1 q2 q3
          have HR := keepHid (hD8.row (r := r) (by rw [HFE2.out]; exact hT8) (by rw [HFE2.out]) q4 q5)
          clear q1 q2 q3 q4 q5 hT8 hD8
          go_wp2
          go_ret
          exact HR.out

/-- Not too many bytes. -/
theorem put_any20 {w0 w : World} {G : Nat} {κ : Nat → Nat} {p : BP Fl} (hp : Rdr p) {z1 z2 : Int} {s : Bd} (h : Tgt w0 w G κ p z1 z2 s) {C B : Nat} (hok : Ok20 C B s) (hC : C ≤ 500000) (hB : B ≤ 500000000) (A : Option Addr) (N c : Nat) (b : List UInt8) (hb : Bys w w.heap.size A N b)
    (hN : N ≤ 400000000) (hc : N ≤ c) (hcm : c ≤ 9223372036854775807) (hap : ∀ ad, A = some ad → 0 < N → κ ad.block = 0) (hrp : s.rp.length + N ≤ 1000000000) :
    Calls Tryz.prog 16 #[ptV G, .slice A N c] w (TRow w0 G κ p z1 z2 (feed20 p s b) w) :=
  put_gen hp h hok hC hB A N c b hb hc hcm hap (fun s1 n rest => s1.rp.length + rest.length ≤ 1000000000 ∧ n ≤ 64 * (N - rest.length) ∧ rest.length ≤ N) ⟨by rw [hb.len]; exact hrp, by omega, by rw [hb.len]; exact Nat.le_refl _⟩
    (fun s n c rest _ hh => by
      have := take_out p s c
      simp only [List.length_cons] at hh
      exact ⟨by omega, by omega, by omega⟩)
    (fun s n rest hh => ⟨by omega, fun _ => by omega, by omega⟩)


def hexC : List UInt8 := hexL
theorem hexC_get {n : Nat} (h : n < 16) : hexL[n]? = some (chr n) := by
  unfold chr
  rw [List.getD_eq_getElem?_getD]
  have : n < hexL.length := by show n < 16; exact h
  rw [List.getElem?_eq_getElem this]
  rfl
set_option maxRecDepth 100000 in
theorem hex_any (n : Nat) : ∀ (hn : n < 9223372036854775808) (w : World), Calls Tryz.prog 18 #[.int .i64 (n : Int)] w fun e w' => e = .returned (.string (strB (digL 16 n))) ∧ w = w' := by
  induction n using Nat.strongRecOn with
  | ind n ih =>
    intro hn w
    by_cases h : n < 16
    · have hi : (n : Int) < 16 := by omega
      have hwr : IntKind.i64.wrap ((n : Int) + 1) = (n : Int) + 1 := by rw [IntKind.wrap_i64]; omega
      have hc := run_cut1 (hexC_get h) (n : Int) ((n : Int) + 1) rfl rfl
      have HD : Hid (digL 16 n = [chr n]) := keepHid (digL_lt h)
      have hc' : ∀ w, (Instr.slice 9 (.string ⟨#[48, 49, 50, 51, 52, 53, 54, 55, 56, 57, 97, 98, 99, 100, 101, 102]⟩) (some (.int .i64 (n : Int))) (some (.int .i64 ((n : Int) + 1))) none).run Tryz.prog w = .ok (.string (strB [chr n])) w := fun w => hc w
      have HX : Hid (strB (digL 16 n) = strB [chr n]) := keepHid (by rw [HD.out])
      clear hc ih hn h
      generalize strB [chr n] = X at *
      go_enter Tryz.func18, Tryz.ntmps18
      go_wp2
      go_ret
      exact ⟨by rw [HX.out]; rfl, rfl⟩
    · have hi : ¬ (n : Int) < 16 := by omega
      have hlq := dig_sixteen (n := n / 16) (by omega)
      have hlr := dig_sixteen (n := n % 16) (by omega)
      have hadd : ∀ w, (Op.stringOp .add (strB (digL 16 (n / 16))) (strB (digL 16 (n % 16)))).run Tryz.prog w = .ok (.string (strB (digL 16 (n / 16) ++ digL 16 (n % 16)))) w := fun w => run_strAdd _ _ (by omega) w
      have HD : Hid (strB (digL 16 n) = strB (digL 16 (n / 16) ++ digL 16 (n % 16))) := keepHid (by rw [digL_ge (n := n) (by omega) (by omega), digL_lt (n := n % 16) (by omega)])
      have HQ := keepHid (ih (n / 16) (by omega) (by omega))
      have HR := keepHid (ih (n % 16) (by omega) (by omega))
      obtain ⟨q, hq⟩ : ∃ q, n / 16 = q := ⟨_, rfl⟩
      obtain ⟨r, hr⟩ : ∃ r, n % 16 = r := ⟨_, rfl⟩
      have t1 : Int.tdiv (n : Int) 16 = (q : Int) := by rw [Int.tdiv_eq_ediv_of_nonneg (by omega)]; omega
      have t2 : Int.tmod (n : Int) 16 = (r : Int) := by rw [Int.tmod_eq_emod_of_nonneg (by omega)]; omega
      have t3 : (n : Int) / 16 = (q : Int) := by omega
      have t4 : (n : Int) % 16 = (r : Int) := by omega
      rw [hq, hr] at hadd HD
      rw [hq] at HQ
      rw [hr] at HR
      generalize strB (digL 16 q ++ digL 16 r) = X at *
      generalize strB (digL 16 q) = XQ at *
      generalize strB (digL 16 r) = XR at *
      have hq1 : (q : Int) ≤ 9223372036854775807 := by omega
      have hr1 : (r : Int) < 16 := by omega
      clear ih h hlq hlr hq hr
      go_enter Tryz.func18, Tryz.ntmps18
      go_wp2_with fail
      refine (HQ.out _).mono ?_
      rintro e w1 ⟨rfl, rfl⟩
      go_wp2_with fail
      refine (HR.out _).mono ?_
      rintro e w1 ⟨rfl, rfl⟩
      go_wp2
      go_ret
      exact ⟨by rw [HD.out]; rfl, rfl⟩


theorem bp_ex (z1 z2 : Int) : ∃ p : BP Fl, Rdr p ∧ capZ z1 9 = p.T ∧ capZ z2 99 = p.W := by
  obtain ⟨rd, h1, h2⟩ := rd_ex
  exact ⟨⟨capZ z1 9, capZ z2 99, [], [], [], rd, fun f => f.size.toNat, endsB⟩, ⟨h1, h2, fun f => rfl, fun bs => rfl⟩, rfl, rfl⟩
/-- Bytes apart from a board. -/
structure Fre (w : World) (κ : Nat → Nat) (A : Option Addr) (n : Nat) (b : List UInt8) : Prop where
  bys : Bys w w.heap.size A n b
  col : ∀ ad, A = some ad → 0 < n → κ ad.block = 0
theorem Fre.turn {w w' : World} {κ κ' : Nat → Nat} {A : Option Addr} {n : Nat} {b : List UInt8} (h : Fre w κ A n b) (ht : Turn (fun i => κ i ≠ 0) w w') (hk : ∀ i, κ' i ≠ 0 → κ i ≠ 0 ∨ w.heap.size ≤ i) : Fre w' κ' A n b := by
  refine ⟨(h.bys.turn ht (Nat.le_refl _) (fun h0 ad e hh => hh (h.col ad e h0))).more ht.size, fun ad e h0 => ?_⟩
  obtain ⟨ad', c, e', hlt, _⟩ := h.bys.at_ h0
  have : ad' = ad := by rw [e] at e'; exact (Option.some.inj e').symm
  subst this
  rcases Nat.eq_zero_or_pos (κ' ad'.block) with q | q
  · exact q
  · rcases hk ad'.block (by omega) with q1 | q1
    · exact absurd (h.col ad' e h0) q1
    · omega
theorem Fre.below {w w' : World} {κ : Nat → Nat} {A : Option Addr} {n : Nat} {b : List UInt8} (h : Fre w κ A n b) (hb : Below w.heap.size w w') : Fre w' κ A n b := ⟨(h.bys.below hb).more hb.size, h.col⟩
theorem Fre.str {w : World} {κ : Nat → Nat} {A : Option Addr} {n : Nat} {b : List UInt8} (h : Fre w κ A n b) (c : Nat) : (convert 31 9 (.slice A n c)).run Tryz.prog w = .ok (.string (strB b)) w :=
  run_str (P := Tryz.prog) (w := w) (c := c) 31 5 9 Tryz.underlying31 Tryz.underlying5 Tryz.underlying9 h.bys
/-- A row that is made: apart. -/
theorem Fre.new {w0 w : World} {G : Nat} {κ : Nat → Nat} {p : BP Fl} {z1 z2 : Int} {s : Bd} (h : Tgt w0 w G κ p z1 z2 s) (b : List UInt8) (n : Nat) (hn : b.length = n) (hm : n ≤ 9223372036854775807) (cs : Array Value) (hcs : cs = byteVals b) : Fre (w.alloc (.cells cs 5)) κ (some ⟨w.heap.size, 0, none⟩) n b := by
  subst hn hcs
  have hk : Blk (w.alloc (.cells (byteVals b) 5)) w.heap.size 5 (byteVals b) := Blk.new w _ _
  refine ⟨(bys_blk hk rfl hm).more (by simp), fun ad e _ => ?_⟩
  obtain rfl := Option.some.inj e
  show κ w.heap.size = 0
  rcases Nat.eq_zero_or_pos (κ w.heap.size) with q | q
  · exact q
  · have := (h.lt w.heap.size (by omega)).2; omega
/-- A row that is made and may not be written. -/
theorem Fre.newm {w0 w : World} {G : Nat} {κ : Nat → Nat} {p : BP Fl} {z1 z2 : Int} {s : Bd} (h : Tgt w0 w G κ p z1 z2 s) (b : List UInt8) (n : Nat) (hn : b.length = n) (hm : n ≤ 1000000) (cs : Array Value) (hcs : cs = byteVals b) (m : Nat × Nat) : Fre (w.alloc (.cells cs 5 m)) κ (some ⟨w.heap.size, 0, none⟩) n b := by
  refine ⟨(bys_newm w 5 b n hn (by unfold maxLen; omega) cs hcs m _ rfl).more (by simp), fun ad e _ => ?_⟩
  obtain rfl := Option.some.inj e
  show κ w.heap.size = 0
  rcases Nat.eq_zero_or_pos (κ w.heap.size) with q | q
  · exact q
  · have := (h.lt w.heap.size (by omega)).2; omega
/-- What a call told, as a law sees it. -/
def LawR (w0 : World) (G : Nat) (κ : Nat → Nat) (p : BP Fl) (z1 z2 : Int) (out : List UInt8) (n : Nat) (s' : Bd) (w : World) (e : Ending) (w' : World) : Prop :=
  ∃ A c κ', e = .returned (.slice A n c) ∧ Fre w' κ' A n out ∧ Tgt w0 w' G κ' p z1 z2 s' ∧ Turn (fun i => κ i ≠ 0) w w' ∧ (∀ i, κ' i ≠ 0 → κ i ≠ 0 ∨ w.heap.size ≤ i) ∧ n ≤ c ∧ c ≤ 9223372036854775807
theorem TRow.law {w0 w w' : World} {G : Nat} {κ : Nat → Nat} {p : BP Fl} {z1 z2 : Int} {r : List UInt8 × Bd} {out : List UInt8} {s' : Bd} {e : Ending} (h : TRow w0 G κ p z1 z2 r w e w') (hr : r = (out, s')) (n : Nat) (hn : out.length = n) (hm : n ≤ 9223372036854775807) : LawR w0 G κ p z1 z2 out n s' w e w' := by
  subst hr hn
  obtain ⟨A, c, κ', e1, e2, e3, e4, e5, e6, e7, e8⟩ := h
  exact ⟨A, c, κ', e1, ⟨e2.bys hm, fun ad e _ => e8 ad e⟩, e5, e6, e7, e3, e4⟩
/-- A row that is made, and comes to a board. -/
theorem put_lit {w0 w : World} {G : Nat} {κ : Nat → Nat} {p : BP Fl} (hp : Rdr p) {z1 z2 : Int} {s : Bd} (h : Tgt w0 w G κ p z1 z2 s) {C B : Nat} (hok : Ok20 C B s) (hC : C ≤ 500000) (hB : B ≤ 500000000) (A : Option Addr) (N c : Nat) (b : List UInt8) (hf : Fre w κ A N b) (hN : N ≤ 400000000) (hc : N ≤ c) (hcm : c ≤ 9223372036854775807)
    (hrp : s.rp.length + N ≤ 1000000000) (out : List UInt8) (s' : Bd) (hr : feed20 p s b = (out, s')) (n : Nat) (hn : out.length = n) (hm : n ≤ 9223372036854775807) :
    Calls Tryz.prog 16 #[.pointer (some ⟨G, 0, none⟩), .slice A N c] w (LawR w0 G κ p z1 z2 out n s' w) :=
  (show Calls Tryz.prog 16 #[ptV G, .slice A N c] w _ from put_any20 hp h hok hC hB A N c b hf.bys hN hc hcm hf.col hrp).mono fun e w' hh => hh.law hr n hn hm
theorem feed_wake {p : BP Fl} {s : Bd} (c : UInt8) (h1 : s.aw = false) (h2 : s.ld = .non) : feed20 p s [c] = (readyL, { s with aw := true }) := by
  have ht : take20 p s c = (readyL, { s with aw := true }) := by unfold take20; rw [if_pos h1]
  rw [feed_take h2, ht]
  have : feed20 p { s with aw := true } [] = ([], { s with aw := true }) := feed_nil h2
  rw [this, List.append_nil]
theorem feed_cr {p : BP Fl} {s : Bd} (h1 : s.aw = true) (h2 : s.ld = .non) (h3 : s.ln = []) : feed20 p s [13] = (readyL, s) := by
  have ht : take20 p s 13 = (readyL, s) := by
    unfold take20
    rw [if_neg (by rw [h1]; simp), if_pos rfl, h3]
    obtain ⟨aw, ln, ld, ad, rp, st⟩ := s
    obtain rfl : ln = [] := h3
    unfold exec20
    rw [if_pos rfl]
  rw [feed_take h2, ht]
  have : feed20 p s [] = ([], s) := feed_nil h2
  rw [this, List.append_nil]
/-- A board that is awake, and has told nothing yet. -/
def aw20 : Bd := { new20 with aw := true }
theorem aw_ok : Ok20 1 1 aw20 := ⟨rfl, Nat.zero_le _, by show 0 < 4294967296; omega, zeros_len _, trivial, trivial⟩
theorem ok_any {C B : Nat} {s : Bd} (h : Ok20 C B s) (hC : C ≤ 10) (hB : B ≤ 2000) : Ok20 10 2000 s := h.mono hC hB

/-! ### The document's examples -/
theorem ask_03 : askL 0 3 ++ [13] = [115, 117, 109, 32, 48, 32, 51, 13] := by
  unfold askL
  rw [digL_lt (by omega), digL_lt (by omega)]
  rfl
set_option maxRecDepth 100000 in
set_option maxHeartbeats 8000000 in
theorem awake_any20 (w : World) (hs : Sup w) : Calls Tryz.prog 9 #[] w fun e w' => e = .returned (.bool true) ∧ Below w.heap.size w w' := by
  obtain ⟨p, hp, hT, hW⟩ := bp_ex 3 5
  have hst : Stan w w p 3 5 := ⟨Below.refl _ _, hs, hT, hW⟩
  have HOF := keepHid (of_any20 hst)
  have HP := keepHid hp
  clear hs hT hW hst hp
  go_enter Tryz.func9, Tryz.ntmps9
  go_wp2_with fail
  refine HOF.out.mono ?_
  rintro e w1 ⟨G, κ1, rfl, hT1, hb1, _⟩
  have HT1 := keepHid hT1
  obtain ⟨GS, c0⟩ : ∃ GS, w1.cell? ⟨G, 0, none⟩ = some (.pointer (some ⟨GS, 0, none⟩)) := by
    obtain ⟨GS, lv, iv, rv, hM⟩ := hT1
    exact ⟨GS, hM.blk.cell 0⟩
  obtain ⟨w2, hw2⟩ : ∃ w2, w1.alloc (.cells #[.int .u8 120] 5) = w2 := ⟨_, rfl⟩
  have hb2 : Below w1.heap.size w1 w2 := by rw [← hw2]; exact (Below.refl _ _).alloc (Nat.le_refl _) _
  have hf2 : Fre w2 κ1 (some ⟨w1.heap.size, 0, none⟩) 1 [120] := by rw [← hw2]; exact Fre.new hT1 [120] 1 rfl (by omega) _ rfl
  have HPUT := keepHid (put_lit HP.out (hT1.below hb2) new_ok (by omega) (by omega) _ 1 1 [120] hf2 (by omega) (Nat.le_refl _) (by omega) (by show 0 + 1 ≤ 1000000000; omega) readyL aw20 (feed_wake 120 rfl rfl) 5 rfl (by omega))
  clear hT1 hb1 hb2 hf2 HOF
  unfold ptV
  go_wp2_with fail
  try rw [hw2]
  clear hw2 c0
  refine HPUT.out.mono ?_
  rintro e w3 ⟨A3, c3, κ3, rfl, hf3, hT3, ht3, hk3, hc31, hc32⟩
  obtain ⟨P, hPP⟩ : ∃ P, prNum (prL (getL aw20.st 0 3)) = P := ⟨_, rfl⟩
  have hP32 : P < 4294967296 := by rw [← hPP]; exact pr_u32 _
  obtain ⟨w4, hw4⟩ : ∃ w4, w3.alloc (.cells #[.int .u8 115, .int .u8 117, .int .u8 109, .int .u8 32, .int .u8 48, .int .u8 32, .int .u8 51, .int .u8 13] 5 (8, 9)) = w4 := ⟨_, rfl⟩
  have hb4 : Below w3.heap.size w3 w4 := by rw [← hw4]; exact (Below.refl _ _).alloc (Nat.le_refl _) _
  have hf4 : Fre w4 κ3 (some ⟨w3.heap.size, 0, none⟩) 8 [115, 117, 109, 32, 48, 32, 51, 13] := by rw [← hw4]; exact Fre.newm hT3 [115, 117, 109, 32, 48, 32, 51, 13] 8 rfl (by omega) _ rfl _
  obtain ⟨n5, hn5⟩ : ∃ n5, (lin20 0 3 P ++ promptL).length = n5 := ⟨_, rfl⟩
  have hlin : (lin20 0 3 P).length ≤ 64 := by
    have l1 := dig_sixteen (n := 0) (by omega)
    have l2 := dig_sixteen (n := 3) (by omega)
    have l3 := dig_sixteen (n := P) (by omega)
    unfold lin20
    simp only [List.length_append, List.length_cons, List.length_nil]
    omega
  have hn5b : n5 ≤ 9223372036854775807 := by rw [← hn5, List.length_append]; simp only [promptL, List.length_cons, List.length_nil]; omega
  have HPUT2 := keepHid (put_lit HP.out (hT3.below hb4) aw_ok (by omega) (by omega) _ 8 8 [115, 117, 109, 32, 48, 32, 51, 13] hf4 (by omega) (Nat.le_refl _) (by omega) (by show 0 + 8 ≤ 1000000000; omega) (lin20 0 3 P ++ promptL) { aw20 with rp := [(0, 3, P)] }
    (by rw [← ask_03, feed_ask (by omega) (by omega) rfl rfl rfl, if_pos (by omega), hPP]; rfl) n5 hn5 hn5b)
  have HF3 := keepHid (hf3.below hb4)
  have hcs : (convert 31 31 (.slice (some ⟨w3.heap.size, 0, none⟩) 8 8)).run Tryz.prog (w3.alloc (.cells #[.int .u8 115, .int .u8 117, .int .u8 109, .int .u8 32, .int .u8 48, .int .u8 32, .int .u8 51, .int .u8 13] 5)) = .ok (.slice (some ⟨w3.heap.size, 0, none⟩) 8 8) w4 := by
    rw [← hw4]
    exact Lib.run_convert_bytes_const (P := Tryz.prog) w3 31 5 #[.int .u8 115, .int .u8 117, .int .u8 109, .int .u8 32, .int .u8 48, .int .u8 32, .int .u8 51, .int .u8 13] 8 8 Tryz.underlying31 Tryz.underlying5
  clear hf3 hT3 ht3 hk3 hc31 hc32 hb4 hf4 HPUT hPP HT1
  go_wp2_with fail
  try rw [hw4]
  clear hw4
  refine HPUT2.out.mono ?_
  rintro e w5 ⟨A5, c5, κ5, rfl, hf5, hT5, ht5, hk5, hc51, hc52⟩
  have HF3b := keepHid (HF3.out.turn ht5 hk5)
  have HF5 := keepHid hf5
  have HT5 := keepHid hT5
  have HRP := keepHid (replies_any hT5 (by show 1 ≤ _; omega))
  clear hf5 hT5 ht5 hk5 hc51 hc52 HPUT2 HF3 HP
  unfold ptV at HRP
  go_wp2_with fail
  refine HRP.out.mono ?_
  rintro e w6 ⟨A6, c6, rfl, ho6, hb6⟩
  obtain ⟨g6, c6', hv6, _, hg6, hc6⟩ := ho6.form (by show 0 < 1; omega)
  obtain ⟨rfl, rfl⟩ : A6 = some ⟨g6, 0, none⟩ ∧ c6 = c6' := by injection hv6 with q1 q2 q3; exact ⟨q1, q3⟩
  have hown : OwnR w6 w5.heap.size (.slice (some ⟨g6, 0, none⟩) 1 c6) 1 [((0 : Nat), (3 : Nat), P)] := ho6
  have e0 : w6.cell? ⟨g6, 0, none⟩ = some (.int .i64 0) := hown.cell (j := 0) (s := (0, 3, P)) rfl (r := 0) (by omega)
  have e1 : w6.cell? ⟨g6, 1, none⟩ = some (.int .i64 3) := hown.cell (j := 0) (s := (0, 3, P)) rfl (r := 1) (by omega)
  have e2 : w6.cell? ⟨g6, 2, none⟩ = some (.int .u32 (P : Int)) := hown.cell (j := 0) (s := (0, 3, P)) rfl (r := 2) (by omega)
  have hT6 := HT5.out.below hb6
  have hF3c := HF3b.out.below hb6
  have hF5c := HF5.out.below hb6
  have d0 := fun q os => cell_regrown e0 q os
  have d1 := fun q os => cell_regrown e1 q os
  have d2 := fun q os => cell_regrown e2 q os
  have cv1 : ∀ q os, (convert 31 9 (.slice A3 5 c3)).run Tryz.prog (Sort.grow (redrawn w6 q) os) = .ok (.string (strB readyL)) (Sort.grow (redrawn w6 q) os) := fun q os => (hF3c.below (below_regrown w6 q os)).str c3
  have cv2 : ∀ q os, (convert 31 9 (.slice A5 n5 c5)).run Tryz.prog (Sort.grow (redrawn w6 q) os) = .ok (.string (strB (lin20 0 3 P ++ promptL))) (Sort.grow (redrawn w6 q) os) := fun q os => (hF5c.below (below_regrown w6 q os)).str c5
  have CL := keepHid (fun q os => Calls.regrown_of (show Calls Tryz.prog 19 #[.agg #[.int .i64 0, .int .i64 3, .int .u32 (P : Int)]] (Sort.grow (redrawn w6 q) os) _ from line_any20 0 3 P (by omega) (by omega) hP32 (Sort.grow (redrawn w6 q) os) (hT6.base.supw.four.below (below_regrown w6 q os) (Nat.le_refl _))))
  have k1 : ∀ w, (Op.stringOp .add (strB (lin20 0 3 P)) ⟨#[61, 62, 32]⟩).run Tryz.prog w = .ok (.string (strB (lin20 0 3 P ++ promptL))) w := fun w => run_strAdd _ promptL (by simp only [promptL, List.length_cons, List.length_nil]; omega) w
  have hq1 : ((strB readyL).toList == [13, 10, 61, 62, 32]) = true := by rw [strB_toList]; rfl
  have hq2 : ((strB (lin20 0 3 P ++ promptL)).toList == (strB (lin20 0 3 P ++ promptL)).toList) = true := by rw [str_eqB]; exact decide_eq_true rfl
  have hl1 : ([((0 : Nat), (3 : Nat), P)] : List Rp).length = 1 := rfl
  have HB6 := keepHid (hT6.base.bel)
  have hc6i : (1 : Int) ≤ (c6 : Int) := by omega
  generalize strB readyL = K1 at *
  generalize strB (lin20 0 3 P ++ promptL) = K2 at *
  generalize strB (lin20 0 3 P) = K3 at *
  clear ho6 hown hb6 hT6 hF3c hF5c hv6 hg6 hlin hn5b hn5 HRP e0 e1 e2 hP32 hc6
  go_upto_region 7 with fail
  refine wp_region_quiet_below (by kernel_rfl) (by kernel_rfl) ?_
  repeat (go_big_quiet_step (first | (with_reducible exact CL.out _ _)))
  refine wpQuiet_nil ?_
  intro _ hw'
  obtain ⟨⟨dq, osq⟩, hw''⟩ := hw'
  subst hw''
  have HB3 := keepHid (HB6.out.trans ((below_regrown w6 dq osq).mono HB6.out.size))
  clear d0 d1 d2 cv1 cv2 CL
  go_wp2
  go_ret
  exact ⟨rfl, HB3.out⟩
end Go.Proofs.YtonloefjhofeeaaGreatDoor
