/-
  What a line does.
-/
import Derived.Test.YtonloefjhofeeaaGreatDoorBoardTick
import Derived.Test.YtonloefjhofeeaaGreatDoorSplit
import Derived.Deep.RegionLaw
namespace Go.Proofs.YtonloefjhofeeaaGreatDoor
open Go.RowKit
set_option linter.unusedVariables false

def ExecP (w0 : World) (G : Nat) (κ : Nat → Nat) (p : BP Fl) (z1 z2 : Int) (r : List UInt8 × Bd) (w : World) (e : Ending) (w' : World) : Prop :=
  e = .returned (.string (strB r.1)) ∧ TOut w0 G κ p z1 z2 r.2 w w'
theorem exec_nil {p : BP Fl} {s : Bd} : exec20 p s [] = (readyL, s) := by unfold exec20; rw [if_pos rfl]
theorem exec_few {p : BP Fl} {s : Bd} {l : List UInt8} (h0 : l ≠ []) (h : (splitW l).length ≠ 3) : exec20 p s l = (noL, s) := by
  unfold exec20
  rw [if_neg h0]
  split
  · rename_i x y z e; rw [e] at h; exact absurd rfl h
  · rfl
theorem exec_word {p : BP Fl} {s : Bd} {l x y z : List UInt8} (h0 : l ≠ []) (h : splitW l = [x, y, z]) (h1 : x ≠ wLoad) (h2 : x ≠ wSum) : exec20 p s l = (noL, s) := by
  unfold exec20
  rw [if_neg h0, h]
  simp only
  rw [if_neg h1, if_neg h2]
theorem exec_begin {p : BP Fl} {s : Bd} {l y z : List UInt8} {k a : Nat} (h0 : l ≠ []) (h : splitW l = [wLoad, y, z]) (h1 : wayOf y = some k) (h2 : hexN z = some a) : exec20 p s l = ([], { s with ad := a, ld := begin20 p k }) := by
  unfold exec20
  rw [if_neg h0, h]
  simp only [if_true, h1, h2]
theorem exec_nobegin {p : BP Fl} {s : Bd} {l y z : List UInt8} (h0 : l ≠ []) (h : splitW l = [wLoad, y, z]) (h1 : wayOf y = none ∨ hexN z = none) : exec20 p s l = (noL, s) := by
  unfold exec20
  rw [if_neg h0, h]
  simp only [if_true]
  split
  · rename_i k a e1 e2
    rcases h1 with h1 | h1
    · rw [h1] at e1; cases e1
    · rw [h1] at e2; cases e2
  · rfl
theorem exec_reply {p : BP Fl} {s : Bd} {l y z : List UInt8} {a n : Nat} (h0 : l ≠ []) (h : splitW l = [wSum, y, z]) (h1 : hexN y = some a) (h2 : hexN z = some n) (h3 : a + n ≤ 16384) : exec20 p s l = (lin20 a n (prNum (prL (getL s.st a n))) ++ promptL, { s with rp := s.rp ++ [(a, n, prNum (prL (getL s.st a n)))] }) := by
  unfold exec20
  rw [if_neg h0, h]
  simp only [h1, h2]
  rw [if_neg (by decide), if_pos trivial, if_pos h3]
theorem exec_noreply {p : BP Fl} {s : Bd} {l y z : List UInt8} (h0 : l ≠ []) (h : splitW l = [wSum, y, z]) (h1 : ∀ a n, hexN y = some a → hexN z = some n → ¬ a + n ≤ 16384) : exec20 p s l = (noL, s) := by
  unfold exec20
  rw [if_neg h0, h]
  simp only
  rw [if_neg (by decide), if_pos trivial]
  split
  · rename_i a n e1 e2
    rw [if_neg (h1 a n e1 e2)]
  · rfl
theorem three_of {l : List (List UInt8)} (h : l.length = 3) : ∃ x y z, l = [x, y, z] := by
  match l, h with
  | [x, y, z], _ => exact ⟨x, y, z, rfl⟩
section
variable {w0 w : World} {G GS : Nat} {κ : Nat → Nat} {p : BP Fl} {z1 z2 : Int} {lv iv rv : Value} {s : Bd}
theorem pr_u32 (bs : List UInt8) : prNum (prL bs) < 4294967296 := by
  have h := pr_lt bs
  unfold prNum
  omega
/-- A reply is laid behind the others. -/
theorem TgtM.replied {w4 w5 : World} {G2 cap : Nat} {V : Rp} {wy : World} (h : TgtM w0 w G κ p z1 z2 GS lv iv rv s) (hb : Below w.heap.size w wy) (ho : OwnR w4 w0.heap.size (.slice (some ⟨G2, 0, none⟩) (s.rp.length + 1) cap) (s.rp.length + 1) (s.rp ++ [V])) (ht : Turn (fun i => rv.ownBlock = some i) wy w4)
    (hw : rv.ownBlock = some G2 ∨ w.heap.size ≤ G2) (h5 : w4.setCell ⟨G, 7, none⟩ (.slice (some ⟨G2, 0, none⟩) (s.rp.length + 1) cap) = w5) :
    TOut w0 G κ p z1 z2 { s with rp := s.rp ++ [V] } w w5 := by
  have hy := h.below hb
  have hG2 : κ G2 = 4 ∨ (κ G2 = 0 ∧ w.heap.size ≤ G2) := by
    rcases hw with e | e
    · exact .inl (h.reps.col G2 e)
    · refine .inr ⟨?_, e⟩
      rcases Nat.eq_zero_or_pos (κ G2) with q | q
      · exact q
      · have := (h.lt G2 (by omega)).2; omega
  have hlt2 : G2 < w4.heap.size := (World.ownsRow.lt ho G2 rfl).2
  have hge2 : w0.heap.size ≤ G2 := (World.ownsRow.lt ho G2 rfl).1
  have hne : ∀ k, k ≠ 4 → k ≠ 0 → ∀ i, κ i = k → ¬ i = G2 := fun k h4 h0 i hi e => by rw [e] at hi; omega
  have hk : ∀ k, k ≠ 0 → ∀ i, κ i = k → (if i = G2 then 4 else κ i) = k := fun k h0 i hi => by
    by_cases e : i = G2
    · rw [if_pos e]; rw [e] at hi; omega
    · rw [if_neg e]; exact hi
  have hn4 : ∀ k, k ≠ 4 → ∀ i, κ i = k → ¬ rv.ownBlock = some i := fun k h4 i hi e => by rw [h.reps.col i e] at hi; omega
  have t5 : Turn (fun i => i = G) w4 w5 := by rw [← h5]; exact turnAt _ _ (Turn.refl _ w4)
  have s5 : w5.heap.size = w4.heap.size := by rw [← h5]; simp
  have hn1 : ∀ k, k ≠ 1 → ∀ i, κ i = k → ¬ i = G := fun k hk i hi e => by rw [e, h.g] at hi; exact hk hi.symm
  have hG : G ≠ G2 := fun e => by have := h.g; rw [e] at this; omega
  have hz : ∀ i, (if i = G2 then 4 else κ i) ≠ 0 → κ i ≠ 0 ∨ i = G2 := fun i hi => by
    by_cases e : i = G2
    · exact .inr e
    · rw [if_neg e] at hi; exact .inl hi
  refine ⟨fun i => if i = G2 then 4 else κ i, ⟨GS, lv, iv, .slice (some ⟨G2, 0, none⟩) (s.rp.length + 1) cap, ⟨?_, hk 1 (by omega) G h.g, hk 2 (by omega) GS h.gs, ?_, ?_, ⟨?_, ?_, ?_⟩, ?_, ?_, ?_⟩⟩, ?_, ?_⟩
  · rw [← h5]; exact (ht.blk hy.blk (hn4 1 (by omega) G h.g)).put 7 _
  · exact ((hy.sto.turn ht (hn4 2 (by omega) GS h.gs))).turn t5 (hn1 2 (by omega) GS h.gs)
  · exact ((hy.line.turns ht (hn4 3 (by omega))).turns t5 (hn1 3 (by omega))).hue (hk 3 (by omega))
  · have : (s.rp ++ [V]).length = s.rp.length + 1 := by simp
    show OwnR w5 w0.heap.size _ (s.rp ++ [V]).length (s.rp ++ [V])
    rw [this]
    exact ho.turn t5 (fun i hi e => by
      have : i = G2 := by simp [Value.ownBlock] at hi; omega
      exact hG (by rw [← e, this]))
  · intro i hi
    have : i = G2 := by simp [Value.ownBlock] at hi; omega
    simp [this]
  · intro e; simp at e
  · exact ((hy.lod.turns ht (hn4 5 (by omega))).turns t5 (hn1 5 (by omega))).hue (hk 5 (by omega))
  · intro i hi
    rw [s5]
    rcases hz i hi with q | q
    · exact ⟨(hy.lt i q).1, Nat.lt_of_lt_of_le (hy.lt i q).2 ht.size⟩
    · rw [q]; exact ⟨hge2, hlt2⟩
  · exact (hy.base.turns ht (fun i hi => (h.lt i (by rw [h.reps.col i hi]; omega)).1)).turns t5 (fun i hi => by rw [hi]; exact (h.lt G (by rw [h.g]; omega)).1)
  · exact (((Turn.of_below hb).trans (ht.mono fun i hi => by rw [h.reps.col i hi]; omega)).trans (t5.mono fun i hi => by rw [hi, h.g]; omega))
  · intro i hi
    rcases hz i hi with q | q
    · exact .inl q
    · rcases hG2 with g | g
      · exact .inl (by rw [q]; omega)
      · exact .inr (by rw [q]; exact g.2)
end


/-- A reply laid into a block of its own: made ahead of what comes between, or behind it. -/
theorem lay_ahead {w1 wa w5 : World} {R : Nat} (V : Rp) (h1 : Blk wa R 54 #[.int .i64 0, .int .i64 0, .int .u32 0]) (hb : Below wa.heap.size wa w5) (h2 : Below w1.heap.size w1 wa) (hR : w1.heap.size ≤ R) :
    Blk (((w5.setCell ⟨R, 0, none⟩ (.int .i64 (V.1 : Int))).setCell ⟨R, 1, none⟩ (.int .i64 (V.2.1 : Int))).setCell ⟨R, 2, none⟩ (.int .u32 (V.2.2 : Int))) R 54 (rpA V) ∧
    Below w1.heap.size w1 (((w5.setCell ⟨R, 0, none⟩ (.int .i64 (V.1 : Int))).setCell ⟨R, 1, none⟩ (.int .i64 (V.2.1 : Int))).setCell ⟨R, 2, none⟩ (.int .u32 (V.2.2 : Int))) :=
  ⟨(((h1.below hb h1.lt).put 0 _).put 1 _).put 2 _, (((h2.trans (hb.mono h2.size)).setCell (p := ⟨R, 0, none⟩) hR _).setCell (p := ⟨R, 1, none⟩) hR _).setCell (p := ⟨R, 2, none⟩) hR _⟩
theorem alloc_kept {wa w5 : World} {R : Nat} (h1 : Blk wa R 54 #[.int .i64 0, .int .i64 0, .int .u32 0]) (hb : Below wa.heap.size wa w5) :
    w5.cell? ⟨R, 0, none⟩ = some (.int .i64 0) ∧ w5.cell? ⟨R, 1, none⟩ = some (.int .i64 0) ∧ w5.cell? ⟨R, 2, none⟩ = some (.int .u32 0) ∧ (∀ i, w5.frozen? ⟨R, i, none⟩ = false) ∧ Blk w5 R 54 #[.int .i64 0, .int .i64 0, .int .u32 0] := by
  have h := h1.below hb h1.lt
  exact ⟨h.cell 0, h.cell 1, h.cell 2, h.frozen, h⟩
theorem bel20a {w1 w5 : World} (h : Below w1.heap.size w1 w5) (o : Obj) : Below w1.heap.size w1 (w5.alloc o) := h.alloc h.size o
theorem bel20s {w1 w5 : World} (h : Below w1.heap.size w1 w5) {i : Nat} (u : Value) : Below w1.heap.size w1 (w5.setCell ⟨w1.heap.size, i, none⟩ u) := h.setCell (p := ⟨w1.heap.size, i, none⟩) (Nat.le_refl _) u
theorem TOut.below {w0 w w5 w6 : World} {G : Nat} {κ : Nat → Nat} {p : BP Fl} {z1 z2 : Int} {s' : Bd} (h : TOut w0 G κ p z1 z2 s' w w5) (hb : Below w5.heap.size w5 w6) : TOut w0 G κ p z1 z2 s' w w6 := by
  obtain ⟨κ', h1, h2, h3⟩ := h
  exact ⟨κ', h1.below hb, h2.trans (Turn.of_below hb), h3⟩
theorem TOut.four {w0 w w5 : World} {G : Nat} {κ : Nat → Nat} {p : BP Fl} {z1 z2 : Int} {s' : Bd} (h : TOut w0 G κ p z1 z2 s' w w5) : Four w5 := by
  obtain ⟨κ', h1, _⟩ := h
  exact h1.base.supw.four
theorem rp_cells {w : World} (V : Rp) : ∀ j u, ([V].flatMap rpL)[j]? = some u → (w.alloc (.cells #[.int .i64 (V.1 : Int), .int .i64 (V.2.1 : Int), .int .u32 (V.2.2 : Int)] 54)).cell? ((⟨w.heap.size, 0, none⟩ : Addr).add j) = some u := by
  intro j u hu
  have e : (⟨w.heap.size, 0, none⟩ : Addr).add j = ⟨w.heap.size, j, none⟩ := by unfold Addr.add; split <;> simp_all
  rw [e, (Blk.new w 54 #[.int .i64 (V.1 : Int), .int .i64 (V.2.1 : Int), .int .u32 (V.2.2 : Int)]).cell]
  simpa [rpL] using hu

section
variable {w0 w : World} {G GS : Nat} {κ : Nat → Nat} {p : BP Fl} {z1 z2 : Int} {lv iv rv : Value} {s : Bd}
set_option maxRecDepth 100000 in
set_option maxHeartbeats 8000000 in
theorem execute_any (h : TgtM w0 w G κ p z1 z2 GS lv iv rv s) (l : List UInt8) (hl : l.length ≤ 65536) (hrp : s.rp.length ≤ 1000000000) :
    Calls Tryz.prog 52 #[ptV G, .string (strB l)] w (ExecP w0 G κ p z1 z2 (exec20 p s l) w) := by
  have H := keepHid h
  by_cases h0 : l = []
  · subst h0
    have HP : Hid (ExecP w0 G κ p z1 z2 (exec20 p s []) w (.returned (.string ⟨#[13, 10, 61, 62, 32]⟩)) w) := keepHid (by rw [exec_nil]; exact ⟨rfl, TOut.same ⟨_, _, _, _, h⟩ (Below.refl _ _)⟩)
    have hemp : (strB []).toList.isEmpty = true := by rw [strB_toList]; rfl
    have hemp2 : ((strB []).toList = []) = True := by rw [strB_toList]; simp
    generalize strB [] = X at *
    clear h
    unfold ptV
    go_enter Tryz.func52, Tryz.ntmps52
    go_wp2
    go_ret
    exact HP.out
  have hemp : (strB l).toList.isEmpty = false := by rw [strB_toList]; simpa using h0
  have hemp2 : ((strB l).toList = []) = False := by rw [strB_toList]; simpa using h0
  have HSP := keepHid (split_any l (by omega) w)
  by_cases h3 : (splitW l).length = 3
  case neg =>
    have HP : Hid (∀ w1, Below w.heap.size w w1 → ExecP w0 G κ p z1 z2 (exec20 p s l) w (.returned (.string ⟨#[63, 13, 10, 61, 62, 32]⟩)) w1) := keepHid (fun w1 hb => by rw [exec_few h0 h3]; exact ⟨rfl, TOut.same ⟨_, _, _, _, H.out⟩ hb⟩)
    have hq : ¬ ((splitW l).length : Int) = 3 := by omega
    generalize (splitW l).length = N at *
    generalize strB l = X at *
    clear h h0 h3 hl
    unfold ptV
    go_enter Tryz.func52, Tryz.ntmps52
    go_wp2_with fail
    refine HSP.out.mono ?_
    rintro e w1 ⟨rfl, hk1, hb1⟩
    have HR := keepHid (HP.out w1 hb1)
    clear hk1 hb1
    go_wp2
    go_ret
    exact HR.out
  case pos =>
  obtain ⟨x, y, z, hxyz⟩ := three_of h3
  have hall := splitW_all l
  rw [hxyz] at hall
  have hly : y.length ≤ 65536 := Nat.le_trans (hall y (by simp)).1 hl
  have hlz : z.length ≤ 65536 := Nat.le_trans (hall z (by simp)).1 hl
  have HXYZ := keepHid hxyz
  have H0 := keepHid h0
  have HSP3 : Hid (Calls Tryz.prog 67 #[.string (strB l), .string ⟨#[32]⟩] w fun e w' => e = .returned (.slice (some ⟨w.heap.size, 0, none⟩) 3 3) ∧ (w'.cell? ⟨w.heap.size, 0, none⟩ = some (.string (strB x)) ∧ w'.cell? ⟨w.heap.size, 1, none⟩ = some (.string (strB y)) ∧ w'.cell? ⟨w.heap.size, 2, none⟩ = some (.string (strB z))) ∧ Below w.heap.size w w') := keepHid (by
    refine HSP.out.mono fun e w' hh => ⟨by rw [hh.1, h3], ?_, hh.2.2⟩
    have hb := hh.2.1
    have hw : wordC l = #[.string (strB x), .string (strB y), .string (strB z)] := by unfold wordC; rw [hxyz]; rfl
    rw [hw] at hb
    exact ⟨hb.cell 0, hb.cell 1, hb.cell 2⟩)
  have HNO : Hid (∀ w1, Below w.heap.size w w1 → exec20 p s l = (noL, s) → ExecP w0 G κ p z1 z2 (exec20 p s l) w (.returned (.string ⟨#[63, 13, 10, 61, 62, 32]⟩)) w1) := keepHid (fun w1 hb e => by rw [e]; exact ⟨rfl, TOut.same ⟨_, _, _, _, H.out⟩ hb⟩)
  have hqx : ((strB x).toList == [108, 111, 97, 100]) = decide (x = wLoad) := by rw [show ([108, 111, 97, 100] : List UInt8) = (strB wLoad).toList from (strB_toList wLoad).symm]; exact str_eqB x wLoad
  have hqs : ((strB x).toList == [115, 117, 109]) = decide (x = wSum) := by rw [show ([115, 117, 109] : List UInt8) = (strB wSum).toList from (strB_toList wSum).symm]; exact str_eqB x wSum
  clear h h0 h3 hall hl HSP hxyz
  by_cases hx1 : x = wLoad
  · rw [decide_eq_true hx1] at hqx
    subst hx1
    have HBG : Hid (∀ w1, Below w.heap.size w w1 → ∀ wx, Below w1.heap.size w1 wx → Calls Tryz.prog 68 #[.pointer (some ⟨G, 0, none⟩), .string (strB y), .string (strB z)] wx fun e w' => ∃ b : Bool, e = .returned (.bool b) ∧ ExecP w0 G κ p z1 z2 (exec20 p s l) w (.returned (.string (if b = true then ⟨#[]⟩ else ⟨#[63, 13, 10, 61, 62, 32]⟩))) w') := keepHid (fun w1 hb1 wx hbx => by
      have hb := hb1.trans (hbx.mono hb1.size)
      refine (begin_any20 (H.out.below hb) y z hlz).mono ?_
      rintro e w' (⟨k, a, q1, q2, q3, q4⟩ | ⟨q1, q2, q3⟩)
      · refine ⟨true, q3, ?_⟩
        rw [exec_begin H0.out HXYZ.out q1 q2]
        exact ⟨rfl, TOut.of (Turn.of_below hb) (fun i hi => .inl hi) q4⟩
      · exact ⟨false, q2, HNO.out w' (hb.trans (q3.mono hb.size)) (exec_nobegin H0.out HXYZ.out q1)⟩)
    generalize exec20 p s l = r at *
    generalize strB l = X at *
    generalize strB wLoad = XW at *
    generalize strB y = Y at *
    generalize strB z = Z at *
    unfold ptV
    clear hqs
    go_enter Tryz.func52, Tryz.ntmps52
    go_wp2_with fail
    refine HSP3.out.mono ?_
    rintro e w1 ⟨rfl, ⟨d0, d1, d2⟩, hb1⟩
    have HB := keepHid (HBG.out w1 hb1)
    generalize w.heap.size = g at d0 d1 d2 ⊢
    clear hb1 HBG HSP3 HNO
    go_upto_region 7 with fail
    go_region_with (go_at_call 68; (with_reducible refine (HB.out _ (by first | exact Below.refl _ _ | exact (Below.refl _ _).drew | exact below_drewN (Below.refl _ _) _)).mono ?_); rintro e w5 ⟨b5, rfl, hp5⟩; have HP5 := keepHid hp5; clear hp5)
    all_goals
      cases b5
      all_goals
        go_wp2
        go_ret
        exact HP5.out
  rw [decide_eq_false hx1] at hqx
  by_cases hx2 : x = wSum
  case neg =>
    rw [decide_eq_false hx2] at hqs
    have HP := keepHid (fun w1 hb => HNO.out w1 hb (exec_word H0.out HXYZ.out hx1 hx2))
    generalize exec20 p s l = r at *
    generalize strB l = X at *
    generalize strB x = XW at *
    generalize strB y = Y at *
    generalize strB z = Z at *
    unfold ptV
    go_enter Tryz.func52, Tryz.ntmps52
    go_wp2_with fail
    refine HSP3.out.mono ?_
    rintro e w1 ⟨rfl, ⟨d0, d1, d2⟩, hb1⟩
    have HR := keepHid (HP.out w1 hb1)
    generalize w.heap.size = g at d0 d1 d2 ⊢
    clear hb1 HSP3 HNO HP
    go_wp2
    go_ret
    exact HR.out
  case pos =>
  rw [decide_eq_true hx2] at hqs
  subst hx2
  have HRP : Hid (∀ w1, Below w.heap.size w w1 → ∀ wx, Below w1.heap.size w1 wx → Calls Tryz.prog 69 #[.pointer (some ⟨G, 0, none⟩), .string (strB y), .string (strB z)] wx fun e w' => ∃ (V : Rp) (b : Bool), e = .returned (.tuple #[.agg #[.int .i64 (V.1 : Int), .int .i64 (V.2.1 : Int), .int .u32 (V.2.2 : Int)], .bool b]) ∧ Below wx.heap.size wx w' ∧ Below w1.heap.size w1 w' ∧
      Hid ((b = true ∧ V.1 < 4294967296 ∧ V.2.1 < 4294967296 ∧ V.2.2 < 4294967296 ∧ exec20 p s l = (lin20 V.1 V.2.1 V.2.2 ++ promptL, { s with rp := s.rp ++ [V] })) ∨ (b = false ∧ exec20 p s l = (noL, s)))) := keepHid (fun w1 hb1 wx hbx => by
    have hb := hb1.trans (hbx.mono hb1.size)
    refine (reply_any (H.out.below hb) y z hly hlz).mono ?_
    rintro e w' ⟨⟨a, n, q1, q2, q3, q4⟩ | ⟨q1, V, q2⟩, q5⟩
    · have b1 := (hexN_is q1).1
      have b2 := (hexN_is q2).1
      exact ⟨(a, n, prNum (prL (getL s.st a n))), true, q4, q5, hbx.trans (q5.mono hbx.size), keepHid (.inl ⟨rfl, b1, b2, pr_u32 _, exec_reply H0.out HXYZ.out q1 q2 q3⟩)⟩
    · exact ⟨V, false, q2, q5, hbx.trans (q5.mono hbx.size), keepHid (.inr ⟨rfl, exec_noreply H0.out HXYZ.out q1⟩)⟩)
  generalize exec20 p s l = r at *
  generalize strB l = X at *
  generalize strB wSum = XW at *
  generalize strB y = Y at *
  generalize strB z = Z at *
  unfold ptV
  clear hx1 hly hlz
  go_enter Tryz.func52, Tryz.ntmps52
  go_wp2_with fail
  refine HSP3.out.mono ?_
  rintro e w1 ⟨rfl, ⟨d0, d1, d2⟩, hb1⟩
  have HR := keepHid (HRP.out w1 hb1)
  have HB1 := keepHid hb1
  generalize w.heap.size = g at d0 d1 d2 ⊢
  clear hb1 HRP HSP3
  go_upto_region 10 with fail
  go_cut [6, 7] (fun s6 s7 wx => ∃ (R : Nat) (V : Rp) (b : Bool), s6 = .pointer (some ⟨R, 0, none⟩) ∧ s7 = .bool b ∧ Blk wx R 54 (rpA V) ∧ Below w1.heap.size w1 wx ∧ w1.heap.size ≤ R ∧ Hid ((b = true ∧ V.1 < 4294967296 ∧ V.2.1 < 4294967296 ∧ V.2.2 < 4294967296 ∧ r = (lin20 V.1 V.2.1 V.2.2 ++ promptL, { s with rp := s.rp ++ [V] })) ∨ (b = false ∧ r = (noL, s))))
  case first =>
    have HCS : Hid (∀ w', Below w1.heap.size w1 w' → w'.cell? ⟨g, 1, none⟩ = some (.string Y) ∧ w'.cell? ⟨g, 2, none⟩ = some (.string Z) ∧ Below w1.heap.size w1 w') := keepHid (fun w' hb => ⟨(hb.cell (World.block_lt_of_cell? _ _ d1)).trans d1, (hb.cell (World.block_lt_of_cell? _ _ d2)).trans d2, hb⟩)
    go_region_held3 (fun w' => w'.cell? ⟨g, 1, none⟩ = some (.string Y) ∧ w'.cell? ⟨g, 2, none⟩ = some (.string Z) ∧ Below w1.heap.size w1 w') (exact HCS.out _ (by (repeat (first | (with_reducible exact Below.refl _ _) | (with_reducible exact HB15.out) | (with_reducible refine bel20a ?_ _) | (with_reducible refine bel20s ?_ _) | (with_reducible refine Below.drew ?_) | (with_reducible refine below_drewN ?_ _) | (with_reducible refine Below.alloc ?_ (Nat.le_refl _) _))))) (first | (go_at_call 69; (with_reducible refine (HR.out _ (by (repeat (first | (with_reducible exact Below.refl _ _) | (with_reducible refine Below.drew ?_) | (with_reducible refine below_drewN ?_ _) | (with_reducible refine Below.alloc ?_ (Nat.le_refl _) _))))).mono ?_); rintro e w5 ⟨V5, b5, rfl, hb5, hb15, HV5⟩; have HB5 := keepHid hb5; have HB15 := keepHid hb15; (first | (have hq := @alloc_kept (w1.alloc (.cells #[.int .i64 0, .int .i64 0, .int .u32 0] 54)) w5 w1.heap.size (Blk.new w1 54 #[.int .i64 0, .int .i64 0, .int .u32 0]) hb5; obtain ⟨q0, q1, q2, qf, qb⟩ := hq; have HQB := keepHid qb; clear qb) | (have hq := @alloc_kept (w1.drew.alloc (.cells #[.int .i64 0, .int .i64 0, .int .u32 0] 54)) w5 w1.heap.size (Blk.new w1.drew 54 #[.int .i64 0, .int .i64 0, .int .u32 0]) hb5; obtain ⟨q0, q1, q2, qf, qb⟩ := hq; have HQB := keepHid qb; clear qb) | skip); clear hb5 hb15))
    all_goals
      go_wp2_with fail
      go_meet
      case rel => first
        | exact ⟨_, V5, b5, rfl, rfl, Blk.new w5 _ _, bel20a HB15.out _, HB15.out.size, HV5⟩
        | exact ⟨w1.heap.size, V5, b5, rfl, rfl, ((HQB.out.put 0 _).put 1 _).put 2 _, bel20s (bel20s (bel20s HB15.out _) _) _, Nat.le_refl _, HV5⟩
  case rest =>
    obtain ⟨R, V, b, rfl, rfl, hkR, hbc, hR, HV⟩ := hcut
    have HBC := keepHid (HB1.out.trans (hbc.mono HB1.out.size))
    have HKR := keepHid hkR
    have hRg : w.heap.size ≤ R := Nat.le_trans HB1.out.size hR
    clear HR HB1 hbc hR hkR d0 d1 d2
    rcases HV.out with ⟨rfl, v1, v2, v3, hr⟩ | ⟨rfl, hr⟩
    case inr =>
      have HP := keepHid (HNO.out wc HBC.out hr)
      clear hr HV HNO
      go_wp2
      go_ret
      exact HP.out
    case inl =>
    obtain ⟨A, c, hrv⟩ : ∃ A c, rv = .slice A s.rp.length c := by
      rcases H.out.reps.own.2 with ⟨e, e2⟩ | ⟨g, cap, cur, e, _⟩
      · exact ⟨none, 0, by rw [e, e2]⟩
      · exact ⟨_, cap, e⟩
    subst hrv
    have HCC := keepHid (H.out.below HBC.out)
    have c7 : wc.cell? ⟨G, 7, none⟩ = some (.slice A s.rp.length c) := HCC.out.blk.cell 7
    have c7a : ∀ o, (wc.alloc o).cell? ⟨G, 7, none⟩ = some (.slice A s.rp.length c) := fun o => (((Below.refl wc.heap.size wc).alloc (Nat.le_refl _) o).cell (show G < wc.heap.size from HCC.out.blk.lt)).trans c7
    have e0 : wc.cell? ⟨R, 0, none⟩ = some (.int .i64 (V.1 : Int)) := HKR.out.cell 0
    have e1 : wc.cell? ⟨R, 1, none⟩ = some (.int .i64 (V.2.1 : Int)) := HKR.out.cell 1
    have e2 : wc.cell? ⟨R, 2, none⟩ = some (.int .u32 (V.2.2 : Int)) := HKR.out.cell 2
    have HO : Hid (∀ wy, Below wc.heap.size wc wy → OwnR wy w0.heap.size (.slice A s.rp.length c) s.rp.length s.rp ∧ w0.heap.size ≤ wy.heap.size) := keepHid (fun wy hb => ⟨(HCC.out.below hb).reps.own, (HCC.out.below hb).base.bel.size⟩)
    have HAP : Hid (∀ wy, Below wc.heap.size wc wy → ∀ G2 cap w4, OwnR w4 w0.heap.size (.slice (some ⟨G2, 0, none⟩) (s.rp.length + 1) cap) (s.rp.length + 1) (s.rp ++ [V]) → wy.grownBy w4 (Value.slice A s.rp.length c).ownBlock → ((Value.slice A s.rp.length c).ownBlock = some G2 ∨ G2 = wy.heap.size) →
        w4.cell? ⟨G, 7, none⟩ = some (.slice A s.rp.length c) ∧ w4.frozen? ⟨G, 7, none⟩ = false ∧ ∀ w5, w4.setCell ⟨G, 7, none⟩ (.slice (some ⟨G2, 0, none⟩) (s.rp.length + 1) cap) = w5 → (w5.cell? ⟨R, 0, none⟩ = some (.int .i64 (V.1 : Int)) ∧ w5.cell? ⟨R, 1, none⟩ = some (.int .i64 (V.2.1 : Int)) ∧ w5.cell? ⟨R, 2, none⟩ = some (.int .u32 (V.2.2 : Int))) ∧ TOut w0 G κ p z1 z2 r.2 w w5) := keepHid (fun wy hb G2 cap w4 q1 q2 q3 => by
      have hy := HCC.out.below hb
      have ht := turn_grown q2
      have hcol := H.out.reps.col
      have hGn : ¬ (Value.slice A s.rp.length c).ownBlock = some G := fun e => by have := hcol G e; rw [H.out.g] at this; omega
      have hRn : ¬ (Value.slice A s.rp.length c).ownBlock = some R := fun e => by have := (H.out.lt R (by rw [hcol R e]; omega)).2; omega
      have hb4 := ht.blk hy.blk hGn
      refine ⟨hb4.cell 7, hb4.frozen 7, fun w5 h5 => ?_⟩
      have hk4 := ht.blk (HKR.out.below hb HKR.out.lt) hRn
      have t5 : Turn (fun i => i = G) w4 w5 := by rw [← h5]; exact turnAt _ _ (Turn.refl _ w4)
      have hk5 := t5.blk hk4 (fun e => by have := H.out.blk.lt; omega)
      have hbw : Below w.heap.size w wy := HBC.out.trans (hb.mono HBC.out.size)
      refine ⟨⟨hk5.cell 0, hk5.cell 1, hk5.cell 2⟩, ?_⟩
      rw [hr]
      exact H.out.replied hbw q1 ht (q3.imp id fun e => by rw [e]; exact hbw.size) h5)
    have hlv : (lin20 V.1 V.2.1 V.2.2).length ≤ 64 := by
      have l1 := dig_sixteen (n := V.1) (by omega)
      have l2 := dig_sixteen (n := V.2.1) (by omega)
      have l3 := dig_sixteen (n := V.2.2) (by omega)
      unfold lin20
      simp only [List.length_append, List.length_cons, List.length_nil]
      omega
    have HK1 : Hid (∀ w, (Op.stringOp .add (strB (lin20 V.1 V.2.1 V.2.2)) ⟨#[61, 62, 32]⟩).run Tryz.prog w = .ok (.string (strB (lin20 V.1 V.2.1 V.2.2 ++ promptL))) w) := keepHid (fun w => run_strAdd _ promptL (by simp only [promptL, List.length_cons, List.length_nil]; omega) w)
    have HLN := keepHid (fun wz h4 => line_any20 V.1 V.2.1 V.2.2 (by omega) (by omega) v3 wz h4)
    have HR1 : Hid (r.1 = lin20 V.1 V.2.1 V.2.2 ++ promptL) := keepHid (by rw [hr])
    generalize hN : s.rp.length = N at *
    have hN2 : N ≤ 1000000000 := hrp
    clear hr HV HNO v1 v2 v3 hlv hemp hemp2 hqx hqs
    go_upto_region 12 with fail
    go_region_law (first
      | ((refine step_append_rps rfl (.tmp 46) (.tmp 48) rfl w0.heap.size (.slice A N c) N s.rp (by simp [Act.eval]) (HO.out _ (by (repeat (first | (with_reducible exact Below.refl _ _) | (with_reducible refine bel20a ?_ _) | (with_reducible refine Below.drew ?_) | (with_reducible refine below_drewN ?_ _))))).1 ⟨wc.heap.size, 0, none⟩ 1 1 [V] (by simp [Act.eval]) rfl (by first | exact rp_cells V | exact rp_cells (w := wc.drew) V) (by omega) (by omega) (HO.out _ (by (repeat (first | (with_reducible exact Below.refl _ _) | (with_reducible refine bel20a ?_ _) | (with_reducible refine Below.drew ?_) | (with_reducible refine below_drewN ?_ _))))).2 ?_); intro G2 cap w4 q1 q2 q3; obtain ⟨g0, g1, hf⟩ := HAP.out _ (by (repeat (first | (with_reducible exact Below.refl _ _) | (with_reducible refine bel20a ?_ _) | (with_reducible refine Below.drew ?_) | (with_reducible refine below_drewN ?_ _)))) G2 cap w4 q1 q2 q3; have HF := keepHid hf; clear q1 q2 q3 hf))
    all_goals
      obtain ⟨w5, hw5⟩ : ∃ w5, w4.setCell ⟨G, 7, none⟩ (.slice (some ⟨G2, 0, none⟩) (N + 1) cap) = w5 := ⟨_, rfl⟩
      obtain ⟨⟨u0, u1, u2⟩, hout⟩ := HF.out w5 hw5
      have HOUT := keepHid hout
      have HL := keepHid (HLN.out w5 hout.four)
      have k1 := HK1.out
      try rw [hw5]
      clear hout HF HAP HO HLN hw5 g0 g1 c7 c7a
      generalize strB (lin20 V.1 V.2.1 V.2.2) = LX at *
      go_wp2_with fail
      refine HL.out.mono ?_
      rintro e w6 ⟨rfl, hb6⟩
      have HPP : Hid (ExecP w0 G κ p z1 z2 r w (.returned (.string (strB (lin20 V.1 V.2.1 V.2.2 ++ promptL)))) w6) := keepHid ⟨by rw [HR1.out], HOUT.out.below hb6⟩
      generalize strB (lin20 V.1 V.2.1 V.2.2 ++ promptL) = LY at *
      clear hb6
      go_wp2
      go_ret
      exact HPP.out
end
end Go.Proofs.YtonloefjhofeeaaGreatDoor
