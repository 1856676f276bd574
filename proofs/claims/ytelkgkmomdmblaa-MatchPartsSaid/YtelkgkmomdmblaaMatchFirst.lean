/-
  match's First, by contract.
-/
import Derived.Test.YtelkgkmomdmblaaMatchMid
import Derived.Test.YtelkgkmomdmblaaRegexRead
import Derived.LoopTactic
import Derived.Deep.DeepCutAuto
import Derived.Test.YtelkgkmomdmblaaOwnInts
namespace Go.Proofs.Ytelkgkmomdmblaa
open Go.RowKit
set_option linter.unusedVariables false

/-- A pattern that is being read along a text: its own variable P, its kids below it. -/
def PatAt (w : World) (P : Nat) (lo : Nat) (t : Pt) : Prop := ∃ h, lo ≤ P ∧ AtPh w P 0 h ∧ PtK w lo P h t
theorem PatAt.flags {w : World} {P lo : Nat} {t : Pt} (h : PatAt w P lo t) : w.cell? ⟨P, 6, none⟩ = some (.bool (em t)) ∧ w.cell? ⟨P, 7, none⟩ = some (.bool (lv t)) ∧ w.cell? ⟨P, 8, none⟩ = some (.bool (en t)) := by
  obtain ⟨h, _, a, k⟩ := h
  obtain ⟨e1, e2, e3⟩ := k.flags
  rw [← e1, ← e2, ← e3]
  exact at9_0 a
theorem PatAt.lt {w : World} {P lo : Nat} {t : Pt} (h : PatAt w P lo t) : P < w.heap.size := by
  obtain ⟨h, _, a, k⟩ := h
  exact a.lt
theorem PatAt.keep {w w' : World} {P lo : Nat} {t : Pt} (h : PatAt w P lo t) (hk : ∀ i, lo ≤ i → i ≤ P → i < w.heap.size → w'.heap[i]? = w.heap[i]?) : PatAt w' P lo t := by
  obtain ⟨h, hl, a, k⟩ := h
  exact ⟨h, hl, a.keep (hk P hl (Nat.le_refl _) a.lt), k.keep fun g q1 q2 q3 => hk g q1 (by omega) q3⟩
/-- A byte is read. -/
theorem pat_step {w : World} {P lo : Nat} {t : Pt} (h : PatAt w P lo t) (c : UInt8) (b : Bool) :
    Calls Try.prog 23 #[.pointer (some ⟨P, 0, none⟩), .int .u8 (c.toNat : Int), .bool b] w fun e w' => e = .returned (.tuple #[]) ∧ PatAt w' P lo (stp t c b) ∧ Turn (fun i => lo ≤ i ∧ i ≤ P) w w' := by
  obtain ⟨h, hl, a, k⟩ := h
  refine (step_pt t w P 0 lo P h c b a k (.inr (Nat.le_refl _))).mono ?_
  rintro e w' ⟨rfl, r, k'⟩
  exact ⟨rfl, ⟨_, hl, r.at_ a, k'⟩, r.turn.mono fun i hi => by omega⟩
/-- It is made, and laid into a variable. -/
theorem pat_new {w w' w2 : World} {r : Re} {p : Ph} (hk : PtK w' w.heap.size w'.heap.size p (ini r)) (hb : Below w.heap.size w w') (hw : w'.alloc (.cells (phL p).toArray 69) = w2) :
    PatAt w2 w'.heap.size w.heap.size (ini r) ∧ Below w.heap.size w w2 ∧ w2.heap.size = w'.heap.size + 1 := by
  subst hw
  have hb2 : Below w'.heap.size w' (w'.alloc (.cells (phL p).toArray 69)) := (Below.refl _ _).alloc (Nat.le_refl _) _
  exact ⟨⟨p, hb.size, at_blk9 (Blk.new _ _ _), hk.keep fun g _ _ q => hb2.block g q⟩, hb.trans (hb2.mono hb.size), by simp⟩
def FirstPost (r : Re) (bs : List UInt8) (w : World) (e : Ending) (w' : World) : Prop := e = .returned (.tuple #[.int .i64 ((firstL r bs).1 : Int), .bool (firstL r bs).2]) ∧ Below w.heap.size w w'
theorem flE_snoc {bs : List UInt8} {j : Nat} {c : UInt8} (hc : bs[j]? = some c) : flE (bs.take (j + 1)) = flE (bs.take j) ++ [(c, true)] := by
  rw [List.take_succ_of hc]; simp [flE]
set_option maxHeartbeats 4000000 in
theorem first_any {r : Re} {S : Nat → Prop} {h : Hd} {w : World} (bs : List UInt8) (hi : IsS w S h r) (hm : bs.length ≤ 1000000) :
    Calls Try.prog 15 #[hdV h, .string (strB bs)] w (FirstPost r bs w) := by
  obtain ⟨w1, hw1⟩ : ∃ w1, w.alloc (.cells (hdC h) 31) = w1 := ⟨_, rfl⟩
  have hb1 : Below w.heap.size w w1 := by rw [← hw1]; exact (Below.refl _ _).alloc (Nat.le_refl _) _
  have hk1 : Blk w1 w.heap.size 31 (hdC h) := by rw [← hw1]; exact Blk.new _ _ _
  have HO := keepHid (of_all r S h w1 (hi.below hb1))
  unfold hdC at hk1 hw1
  obtain ⟨n0, n1, n2, n3, n4, n5, nf⟩ := blk6 hk1
  have HW1 := keepHid hw1
  have HB1 := keepHid hb1
  obtain ⟨n, hn⟩ : ∃ n, bs.length = n := ⟨_, rfl⟩
  have hsz : (strB bs).size = n := by rw [strB_size, hn]
  have HN := keepHid hn
  rw [hn] at hm
  clear hi hk1 hb1 hw1 hn
  unfold hdV at *
  go_enter Try.func15, Try.ntmps15
  go_upto_region 1 with fail
  rw [HW1.out]
  go_wp2_with fail
  with_reducible refine HO.out.mono ?_
  rintro e w2 ⟨p, rfl, hpk, hb2⟩
  obtain ⟨w3, hw3⟩ : ∃ w3, w2.alloc (.cells (phL p).toArray 69) = w3 := ⟨_, rfl⟩
  obtain ⟨hpa, hb3, hs3⟩ := pat_new hpk hb2 hw3
  have HW3 := keepHid hw3
  unfold phL at HW3
  have HP3 := keepHid hpa
  have HB3 := keepHid (HB1.out.trans (hb3.mono HB1.out.size))
  obtain ⟨f6, f7, f8⟩ := hpa.flags
  rw [em_ini] at f6
  generalize hlo : w1.heap.size = lo at *
  have HLO := keepHid (show Hid (w.heap.size ≤ lo) from keepHid (by rw [← hlo]; exact HB1.out.size))
  clear hpk hb2 hw3 hpa hb3 hs3 n0 n1 n2 n3 n4 n5 nf HO HW1 f7 f8 hlo
  unfold phV
  go_upto_region 2 with fail
  rw [HW3.out]
  generalize w2.heap.size = P at *
  obtain ⟨E, hE⟩ : ∃ E, emp r = E := ⟨_, rfl⟩
  rw [hE] at f6
  have HE := keepHid hE
  clear hE
  cases E
  · go_wp2_with fail
    go_loopw [14] (fun i wr => ∃ j : Nat, j ≤ n ∧ i = .int .i64 j ∧ Hid (∀ i, i ≤ j → hitB r bs i = false) ∧ Hid (PatAt wr P lo (runP (ini r) (flE (bs.take j)))) ∧ Hid (Below w.heap.size w wr)) (fun i _ => n - (intOf i).toNat)
    case atStart => exact ⟨0, Nat.zero_le _, rfl, keepHid (fun i hi => by
      have : i = 0 := by omega
      subst this
      rw [hit_zero]; exact HE.out), keepHid HP3.out, HB3⟩
    case round =>
      obtain ⟨j, hj, rfl, HNO, HPA, HBR⟩ := hrel
      rcases Nat.lt_or_ge j n with hlt | hge
      · obtain ⟨c, hc⟩ : ∃ c, bs[j]? = some c := ⟨_, List.getElem?_eq_getElem (by rw [HN.out]; exact hlt)⟩
        have hix := run_idx hc (j : Int) rfl
        have hji : (j : Int) < (n : Int) := by omega
        have HST := keepHid (pat_step HPA.out c true)
        have hrun : stp (runP (ini r) (flE (bs.take j))) c true = runP (ini r) (flE (bs.take (j + 1))) := by rw [flE_snoc hc, runP_snoc]
        rw [hrun] at HST
        have HHIT : Hid (hitB r bs (j + 1) = en (runP (ini r) (flE (bs.take (j + 1))))) := keepHid (hit_succ (by rw [HN.out]; exact hlt) HE.out)
        clear hc hrun f6
        obtain ⟨t', ht'⟩ : ∃ t', runP (ini r) (flE (bs.take (j + 1))) = t' := ⟨_, rfl⟩
        rw [ht'] at HST HHIT
        have HT' := keepHid ht'
        clear ht'
        go_wp2_with fail
        with_reducible refine HST.out.mono ?_
        rintro e w4 ⟨rfl, hpa, ht⟩
        obtain ⟨-, -, f8⟩ := hpa.flags
        have HPA' := keepHid hpa
        have HBR' := keepHid (HBR.out.trans (ht.below (B := w.heap.size) (fun i hi => by have : w.heap.size ≤ lo := HLO.out; omega) HBR.out.size))
        obtain ⟨E, hE2⟩ : ∃ E, en t' = E := ⟨_, rfl⟩
        rw [hE2] at f8 HHIT
        clear hpa ht hix hE2
        cases E
        · go_wp2
          go_roundw
          case rel => exact ⟨j + 1, by omega, by go_num, keepHid (fun i hi => by
            rcases Nat.lt_or_ge j i with h | h
            · obtain rfl : i = j + 1 := by omega
              exact HHIT.out
            · exact HNO.out i h), by rw [HT'.out]; exact HPA', HBR'⟩
          case measure => simp [intOf]; omega
        · have HFF : Hid (firstL r bs = (j + 1, true)) := keepHid (first_hit (by rw [HN.out]; omega) HHIT.out (fun i hi => HNO.out i (by omega)))
          go_wp2
          go_ret2
          refine ⟨?_, HBR'.out⟩
          rw [HFF.out]
          rfl
      · have HFF : Hid (firstL r bs = (0, false)) := keepHid (first_none (fun i hi => HNO.out i (by rw [HN.out] at hi; omega)))
        go_wp2
        go_ret2
        refine ⟨?_, HBR.out⟩
        rw [HFF.out]
        rfl
  · have HFF : Hid (firstL r bs = (0, true)) := keepHid (first_hit (Nat.zero_le _) (by rw [hit_zero]; exact HE.out) (fun i hi => by omega))
    go_wp2
    go_ret2
    refine ⟨?_, HB3.out⟩
    rw [HFF.out]
    rfl


/-- The places as the call hands them back. -/
def endsI (r : Re) (bs : List UInt8) (f : Int) : List Nat := if 0 ≤ f ∧ f ≤ (bs.length : Int) then endsL r bs f.toNat else []
def EndsPost (xs : List Nat) (w : World) (e : Ending) (w' : World) : Prop := ∃ A m c, e = .returned (.slice A m c) ∧ OwnI w' w.heap.size (.slice A m c) m xs ∧ Below w.heap.size w w'
theorem endsTo_len (r : Re) (s : List UInt8) (f k : Nat) : (endsTo r s f k).length ≤ k + 1 := by
  unfold endsTo
  refine Nat.le_trans (List.length_filter_le _ _) ?_
  simp
theorem own_len {w : World} {base m : Nat} {v : Value} {xs : List Nat} (h : OwnI w base v m xs) : xs.length = m := by
  have := h.1
  simpa using this
theorem mid_emp {s : List UInt8} {f j : Nat} (hf : f ≤ j) (hj : j ≤ s.length) : (mid s f j).isEmpty = decide (j = f) := by
  have h := mid_len (s := s) (f := f) (k := j) hj
  by_cases e : j = f
  · subst e
    rw [mid_self]; simp
  · cases hm : mid s f j with
    | nil => rw [hm] at h; simp at h; omega
    | cons c l => simp [e]
theorem OwnI.below {w w' : World} {base n : Nat} {v : Value} {xs : List Nat} (h : OwnI w base v n xs) (hb : Below w.heap.size w w') : OwnI w' base v n xs := own_keep h fun i _ q => hb.block i q
theorem OwnI.low {w : World} {base base' n : Nat} {v : Value} {xs : List Nat} (h : OwnI w base v n xs) (hb : base' ≤ base) : OwnI w base' v n xs := by
  refine ⟨h.1, ?_⟩
  rcases h.2 with h0 | ⟨g, cap, cur, hv, hg, r⟩
  · exact .inl h0
  · exact .inr ⟨g, cap, cur, hv, Nat.le_trans hb hg, r⟩
theorem PatAt.lo {w : World} {P lo : Nat} {t : Pt} (h : PatAt w P lo t) : lo ≤ P := by
  obtain ⟨_, h, _⟩ := h
  exact h
set_option maxHeartbeats 4000000 in
theorem ends_out {h : Hd} {w : World} (bs : List UInt8) (f : Int) (hf : f < 0 ∨ (bs.length : Int) < f) :
    Calls Try.prog 14 #[hdV h, .string (strB bs), .int .i64 f] w fun e w' => e = .returned (.slice none 0 0) ∧ Below w.heap.size w w' := by
  obtain ⟨n, hn⟩ : ∃ n, bs.length = n := ⟨_, rfl⟩
  have hsz : (strB bs).size = n := by rw [strB_size, hn]
  rw [hn] at hf
  clear hn
  unfold hdV
  rcases Classical.em (f < 0) with h0 | h0
  · clear hf
    go_enter Try.func14, Try.ntmps14
    go_wp2
    go_ret
    exact ⟨rfl, (Below.refl _ _).alloc (Nat.le_refl _) _⟩
  · have h1 : (n : Int) < f := by omega
    clear hf
    go_enter Try.func14, Try.ntmps14
    go_wp2
    go_ret
    exact ⟨rfl, (Below.refl _ _).alloc (Nat.le_refl _) _⟩

theorem sl_one {w : World} {v : Value} {k : Nat} (hv : v = .int .i64 (k : Int)) : Sl natV (w.alloc (.cells #[v] 3)) (some ⟨w.heap.size, 0, none⟩) 1 [k] := by
  subst hv
  have := Blk.new w 3 #[natV k]
  exact Sl.of_blk (xs := [k]) this rfl (by unfold maxLen; omega)
set_option maxRecDepth 100000 in
set_option maxHeartbeats 4000000 in
theorem ends_in {r : Re} {S : Nat → Prop} {h : Hd} {w : World} (bs : List UInt8) (f : Nat) (hi : IsS w S h r) (hm : bs.length ≤ 1000000) (hf : f ≤ bs.length) :
    Calls Try.prog 14 #[hdV h, .string (strB bs), .int .i64 (f : Int)] w (EndsPost (endsL r bs f) w) := by
  obtain ⟨w1, hw1⟩ : ∃ w1, w.alloc (.cells (hdC h) 31) = w1 := ⟨_, rfl⟩
  have hb1 : Below w.heap.size w w1 := by rw [← hw1]; exact (Below.refl _ _).alloc (Nat.le_refl _) _
  have hk1 : Blk w1 w.heap.size 31 (hdC h) := by rw [← hw1]; exact Blk.new _ _ _
  have HO := keepHid (of_all r S h w1 (hi.below hb1))
  unfold hdC at hk1 hw1
  obtain ⟨n0, n1, n2, n3, n4, n5, nf⟩ := blk6 hk1
  have HW1 := keepHid hw1
  have HB1 := keepHid hb1
  obtain ⟨n, hn⟩ : ∃ n, bs.length = n := ⟨_, rfl⟩
  have hsz : (strB bs).size = n := by rw [strB_size, hn]
  have HN := keepHid hn
  rw [hn] at hm hf
  have hf0 : ¬ (f : Int) < 0 := by omega
  have hfn : ¬ (n : Int) < (f : Int) := by omega
  clear hi hk1 hb1 hw1 hn
  unfold hdV at *
  go_enter Try.func14, Try.ntmps14
  go_upto_region 3 with fail
  rw [HW1.out]
  go_wp2_with fail
  with_reducible refine HO.out.mono ?_
  rintro e w2 ⟨p, rfl, hpk, hb2⟩
  obtain ⟨w3, hw3⟩ : ∃ w3, w2.alloc (.cells (phL p).toArray 69) = w3 := ⟨_, rfl⟩
  obtain ⟨hpa, hb3, hs3⟩ := pat_new hpk hb2 hw3
  have HW3 := keepHid hw3
  unfold phL at HW3
  have HP3 := keepHid hpa
  have HB3 := keepHid (HB1.out.trans (hb3.mono HB1.out.size))
  obtain ⟨f6, f7, f8⟩ := hpa.flags
  rw [em_ini] at f6
  have HPS : Hid (w3.heap.size = w2.heap.size + 1) := keepHid hs3
  generalize hlo : w1.heap.size = lo at *
  have HLO := keepHid (show w.heap.size ≤ lo from by rw [← hlo]; exact HB1.out.size)
  clear hpk hb2 hw3 hpa hb3 hs3 n0 n1 n2 n3 n4 n5 nf HO HW1 f7 f8 hlo hf0 hfn
  unfold phV
  go_upto_region 4 with fail
  rw [HW3.out]
  generalize w2.heap.size = P at *
  obtain ⟨E, hE⟩ : ∃ E, emp r = E := ⟨_, rfl⟩
  rw [hE] at f6
  have HE := keepHid hE
  clear hE
  have HST : Hid (endsTo r bs f f = if E then [f] else []) := keepHid (by rw [endsTo_start, HE.out])
  go_upto_if 21 with fail
  go_cut [8] (fun v wx => ∃ A m c, v = .slice A m c ∧ Hid (OwnI wx (P + 1) (.slice A m c) m (endsTo r bs f f)) ∧ Hid (PatAt wx P lo (ini r)) ∧ Hid (Below w.heap.size w wx))
  case first =>
    cases E
    · go_wp2_with fail
      go_meet
      case rel => exact ⟨none, 0, 0, rfl, by rw [HST.out]; exact keepHid (World.ownsRow_nil _ _ _ _), HP3, HB3⟩
    · obtain ⟨w4, hw4⟩ : ∃ w4, w3.alloc (.cells #[.int .i64 (f : Int)] 3) = w4 := ⟨_, rfl⟩
      have hb34 : Below w3.heap.size w3 w4 := by rw [← hw4]; exact (Below.refl _ _).alloc (Nat.le_refl _) _
      have HSL : Hid (Sl natV w4 (some ⟨w3.heap.size, 0, none⟩) 1 [f]) := keepHid (by rw [← hw4]; exact sl_one rfl)
      have HW4 := keepHid hw4
      have HPA4 : Hid (PatAt w4 P lo (ini r)) := keepHid (HP3.out.keep fun i _ _ q => hb34.block i q)
      have HB4 := keepHid (HB3.out.trans (hb34.mono HB3.out.size))
      have HS4 : Hid (P + 1 ≤ w4.heap.size) := keepHid (by have := HPS.out; have := hb34.size; omega)
      clear hw4 hb34
      go_wp2_with (first | (at_builtin; rw [HW4.out]; refine wpList_append_ints _ rfl _ _ rfl (P + 1) (.slice none 0 0) 0 [] rfl (World.ownsRow_nil _ _ _ _) (some ⟨w3.heap.size, 0, none⟩) 1 1 [f] rfl HSL.out (by omega) HS4.out ?_; intro v5 w5 ho5 hg5 hv5))
      obtain ⟨A5, c5, rfl, -, -⟩ := own_val ho5
      have hb45 : Below w4.heap.size w4 w5 := below_grown hg5 (fun i hi => by simp [Value.ownBlock] at hi) (Nat.le_refl _)
      go_wp2_with fail
      go_meet
      case rel => exact ⟨A5, _, c5, rfl, by rw [HST.out]; exact keepHid ho5, keepHid (HPA4.out.keep fun i _ _ q => hb45.block i q), keepHid (HB4.out.trans (hb45.mono HB4.out.size))⟩
  case rest =>
  obtain ⟨A0, m0, c0, rfl, HO0, HPA0, HB0⟩ := hcut
  clear f6 HST
  go_wp2_with fail
  go_loopw [8, 9] (fun v i wr => ∃ (j : Nat) (A : Option Addr) (m c : Nat), f ≤ j ∧ j ≤ n ∧ i = .int .i64 j ∧ v = .slice A m c ∧ Hid (OwnI wr (P + 1) (.slice A m c) m (endsTo r bs f j)) ∧ Hid (PatAt wr P lo (runP (ini r) (flA (mid bs f j)))) ∧ Hid (Below w.heap.size w wr) ∧ Hid (P + 1 ≤ wr.heap.size)) (fun _ i _ => n - (intOf i).toNat)
  case atStart => exact ⟨f, A0, m0, c0, Nat.le_refl _, hf, rfl, rfl, HO0, by rw [mid_self]; exact HPA0, HB0, keepHid (by have := HPA0.out.lt; omega)⟩
  case round =>
    obtain ⟨j, A, m, c, hfj, hj, rfl, rfl, HOW, HPA, HBR, HSZ⟩ := hrel
    have HFJ := keepHid hfj
    rcases Nat.lt_or_ge j n with hlt | hge
    · obtain ⟨L, hL⟩ : ∃ L, lv (runP (ini r) (flA (mid bs f j))) = L := ⟨_, rfl⟩
      obtain ⟨z, hz⟩ : ∃ z, ((j : Int) == (f : Int)) = z := ⟨_, rfl⟩
      have HZ : Hid (z = (mid bs f j).isEmpty) := keepHid (by
        rw [← hz, mid_emp hfj (by rw [HN.out]; exact hj)]
        rw [Bool.eq_iff_iff]
        simp
        omega)
      obtain ⟨-, f7, -⟩ := HPA.out.flags
      rw [hL] at f7
      have HLL := keepHid hL
      have hji : (j : Int) < (n : Int) := by omega
      by_cases hgo : z = true ∨ L = true
      · obtain ⟨b, hb⟩ : ∃ b, bs[j]? = some b := ⟨_, List.getElem?_eq_getElem (by rw [HN.out]; exact hlt)⟩
        have hix := run_idx hb (j : Int) rfl
        obtain ⟨t', ht'⟩ : ∃ t', runP (ini r) (flA (mid bs f (j + 1))) = t' := ⟨_, rfl⟩
        have HST := keepHid (pat_step HPA.out b z)
        have hrun : stp (runP (ini r) (flA (mid bs f j))) b z = t' := by rw [← ht', mid_snoc hfj hb, flA_snoc, runP_snoc, HZ.out]
        rw [hrun] at HST
        have HEN : Hid (en t' = mtB r (mid bs f (j + 1))) := keepHid (by
          rw [← ht', en_flA, mid_emp (by omega) (by rw [HN.out]; omega)]
          have : ¬ j + 1 = f := by omega
          simp [this])
        have HT' := keepHid ht'
        have HES : Hid (endsTo r bs f (j + 1) = endsTo r bs f j ++ (if en t' then [j + 1] else [])) := keepHid (by rw [endsTo_succ r bs hfj, HEN.out])
        have HML : Hid (m ≤ 1000001) := keepHid (by have := own_len HOW.out; have := endsTo_len r bs f j; omega)
        obtain ⟨E, hE2⟩ : ∃ E, en t' = E := ⟨_, rfl⟩
        have HE2 := keepHid hE2
        rw [hE2] at HES
        clear hb hrun ht' hE2 hL
        have hcases : (z = true) ∨ (z = false ∧ L = true) := by
          cases z
          · right; exact ⟨rfl, by simpa using hgo⟩
          · exact .inl rfl
        clear hgo
        rcases hcases with rfl | ⟨rfl, rfl⟩
        all_goals
          go_wp2_with fail
          with_reducible refine HST.out.mono ?_
          rintro e w4 ⟨rfl, hpa, ht⟩
          obtain ⟨-, -, f8⟩ := hpa.flags
          rw [HE2.out] at f8
          have hlo : w.heap.size ≤ lo := HLO.out
          have hltP := hpa.lt
          have HPA' : Hid (PatAt w4 P lo (runP (ini r) (flA (mid bs f (j + 1))))) := keepHid (by rw [HT'.out]; exact hpa)
          have HBR' := keepHid (HBR.out.trans (ht.below (B := w.heap.size) (fun i hi => by omega) HBR.out.size))
          have HOW' : Hid (OwnI w4 (P + 1) (.slice A m c) m (endsTo r bs f j)) := keepHid (own_keep HOW.out fun i hi q => ht.block i q (fun hh => by have := (HOW.out.lt i hi).1; omega))
          have HSZ' : Hid (P + 1 ≤ w4.heap.size) := keepHid hltP
          clear hpa ht f7 hix hltP hlo
          cases E
          · go_wp2_with fail
            go_roundw
            case rel => exact ⟨j + 1, A, m, c, by have := HFJ.out; omega, by omega, by go_num, rfl, by rw [HES.out]; simpa using HOW', HPA', HBR', HSZ'⟩
            case measure => simp [intOf]; omega
          · obtain ⟨w5, hw5⟩ : ∃ w5, w4.alloc (.cells #[.int .i64 ((j : Int) + 1)] 3) = w5 := ⟨_, rfl⟩
            have hb45 : Below w4.heap.size w4 w5 := by rw [← hw5]; exact (Below.refl _ _).alloc (Nat.le_refl _) _
            have HSL : Hid (Sl natV w5 (some ⟨w4.heap.size, 0, none⟩) 1 [j + 1]) := keepHid (by rw [← hw5]; exact sl_one (by rw [show ((j + 1 : Nat) : Int) = (j : Int) + 1 by omega]))
            have HW5 := keepHid hw5
            have HPA5 := keepHid (HPA'.out.keep (w' := w5) fun i _ _ q => hb45.block i q)
            have HBR5 := keepHid (HBR'.out.trans (hb45.mono HBR'.out.size))
            have HOW5 := keepHid (HOW'.out.below hb45)
            have HSZ5 : Hid (P + 1 ≤ w5.heap.size) := keepHid (Nat.le_trans HSZ'.out hb45.size)
            clear hw5 hb45
            go_wp2_with (first | (at_builtin; rw [HW5.out]; refine wpList_append_ints _ rfl _ _ rfl (P + 1) (.slice A m c) m (endsTo r bs f j) rfl HOW5.out (some ⟨w4.heap.size, 0, none⟩) 1 1 [j + 1] rfl HSL.out (by have := HML.out; omega) HSZ5.out ?_; intro v6 w6 ho6 hg6 hv6))
            obtain ⟨A6, c6, rfl, -, -⟩ := own_val ho6
            have hb56 : Below (P + 1) w5 w6 := below_grown hg6 (fun i hi => (HOW5.out.lt i hi).1) HSZ5.out
            have HPA6 := keepHid (HPA5.out.keep (w' := w6) fun i _ q1 q => hb56.block i (by omega))
            have HBR6 : Hid (Below w.heap.size w w6) := keepHid (HBR5.out.trans (hb56.mono (by have := HLO.out; have := HPA'.out.lo; omega)))
            have HO6 := keepHid ho6
            have HSZ6 : Hid (P + 1 ≤ w6.heap.size) := keepHid (Nat.le_trans HSZ5.out hb56.size)
            clear ho6 hg6 hv6 hb56
            go_wp2_with fail
            go_roundw
            case rel => exact ⟨j + 1, A6, _, c6, by have := HFJ.out; omega, by omega, by go_num, rfl, by rw [HES.out]; exact HO6, HPA6, HBR6, HSZ6⟩
            case measure => simp [intOf]; omega
      · have hzf : z = false := by cases z <;> simp_all
        have hLf : L = false := by cases L <;> simp_all
        subst hzf hLf
        have HNE : Hid (f < j) := keepHid (by
          rcases Nat.eq_or_lt_of_le hfj with h | h
          · subst h
            simp at hz
          · exact h)
        have HFF : Hid (endsL r bs f = endsTo r bs f j) := keepHid (ends_dead HNE.out (by rw [HN.out]; omega) HLL.out)
        clear hL hgo
        go_wp2
        go_ret
        exact ⟨A, m, c, rfl, by rw [HFF.out]; exact HOW.out.low (by have := HLO.out; have := HPA.out.lo; omega), HBR.out⟩
    · have HFF : Hid (endsL r bs f = endsTo r bs f j) := keepHid (by
        have : j = bs.length := by rw [HN.out]; omega
        rw [this]; rfl)
      go_wp2
      go_ret
      exact ⟨A, m, c, rfl, by rw [HFF.out]; exact HOW.out.low (by have := HLO.out; have := HPA.out.lo; omega), HBR.out⟩
theorem mends_any {r : Re} {S : Nat → Prop} {h : Hd} {w : World} (bs : List UInt8) (f : Int) (hi : IsS w S h r) (hm : bs.length ≤ 1000000) :
    Calls Try.prog 14 #[hdV h, .string (strB bs), .int .i64 f] w (EndsPost (endsI r bs f) w) := by
  unfold endsI
  by_cases hc : 0 ≤ f ∧ f ≤ (bs.length : Int)
  · rw [if_pos hc]
    have e : ((f.toNat : Nat) : Int) = f := Int.toNat_of_nonneg hc.1
    have := ends_in bs f.toNat hi hm (by omega)
    rwa [e] at this
  · rw [if_neg hc]
    exact (ends_out bs f (by omega)).mono fun e w' ⟨he, hb⟩ => ⟨_, _, _, he, World.ownsRow_nil _ _ _ _, hb⟩
end Go.Proofs.Ytelkgkmomdmblaa
