/-
  match's First, by contract.
-/
import Derived.Test.YtgidoieppplhpaaDoorMatchMid
import Derived.Test.YtgidoieppplhpaaDoorRegexRead
import Derived.LoopTactic
import Derived.Deep.DeepCutAuto
import Derived.Test.YtgidoieppplhpaaDoorOwnInts
namespace Go.Proofs.YtgidoieppplhpaaDoor
open Go.RowKit
set_option linter.unusedVariables false

/-- A pattern that is being read along a text: its own variable P, its kids below it. -/
def PatAt (w : World) (P : Nat) (lo : Nat) (t : Pt) : Prop := ∃ h, lo ≤ P ∧ AtPh w P 0 h ∧ PtK w lo P h t
theorem PatAt.flags {w : World} {P lo : Nat} {t : Pt} (h : PatAt w P lo t) : w.cell? ⟨P, 6, none⟩ = some (.bool (em t)) ∧ w.cell? ⟨P, 7, none⟩ = some (.bool (lv t)) ∧ w.cell? ⟨P, 8, none⟩ = some (.bool (en t)) := by
  obtain ⟨h, _, a, k⟩ := h
  obtain ⟨e1, e2, e3⟩ := k.flags
  rw [← e1, ← e2, ← e3]
  exact at9_0 a
theorem PatAt.lt {w : World} {P lo : Nat} {t : Pt} (h : PatAt w P lo t) : P < w.heap.size := by
  obtain ⟨h, _, a, k⟩ := h
  exact a.lt
theorem PatAt.keep {w w' : World} {P lo : Nat} {t : Pt} (h : PatAt w P lo t) (hk : ∀ i, lo ≤ i → i ≤ P → i < w.heap.size → w'.heap[i]? = w.heap[i]?) : PatAt w' P lo t := by
  obtain ⟨h, hl, a, k⟩ := h
  exact ⟨h, hl, a.keep (hk P hl (Nat.le_refl _) a.lt), k.keep fun g q1 q2 q3 => hk g q1 (by omega) q3⟩
/-- A byte is read. -/
theorem pat_step {w : World} {P lo : Nat} {t : Pt} (h : PatAt w P lo t) (c : UInt8) (b : Bool) :
    Calls Tryd.prog 23 #[.pointer (some ⟨P, 0, none⟩), .int .u8 (c.toNat : Int), .bool b] w fun e w' => e = .returned (.tuple #[]) ∧ PatAt w' P lo (stp t c b) ∧ Turn (fun i => lo ≤ i ∧ i ≤ P) w w' := by
  obtain ⟨h, hl, a, k⟩ := h
  refine (step_pt t w P 0 lo P h c b a k (.inr (Nat.le_refl _))).mono ?_
  rintro e w' ⟨rfl, r, k'⟩
  exact ⟨rfl, ⟨_, hl, r.at_ a, k'⟩, r.turn.mono fun i hi => by omega⟩
/-- It is made, and laid into a variable. -/
theorem pat_new {w w' w2 : World} {r : Re} {p : Ph} (hk : PtK w' w.heap.size w'.heap.size p (ini r)) (hb : Below w.heap.size w w') (hw : w'.alloc (.cells (phL p).toArray 76) = w2) :
    PatAt w2 w'.heap.size w.heap.size (ini r) ∧ Below w.heap.size w w2 ∧ w2.heap.size = w'.heap.size + 1 := by
  subst hw
  have hb2 : Below w'.heap.size w' (w'.alloc (.cells (phL p).toArray 76)) := (Below.refl _ _).alloc (Nat.le_refl _) _
  exact ⟨⟨p, hb.size, at_blk9 (Blk.new _ _ _), hk.keep fun g _ _ q => hb2.block g q⟩, hb.trans (hb2.mono hb.size), by simp⟩
def FirstPost (r : Re) (bs : List UInt8) (w : World) (e : Ending) (w' : World) : Prop := e = .returned (.tuple #[.int .i64 ((firstL r bs).1 : Int), .bool (firstL r bs).2]) ∧ Below w.heap.size w w'
theorem flE_snoc {bs : List UInt8} {j : Nat} {c : UInt8} (hc : bs[j]? = some c) : flE (bs.take (j + 1)) = flE (bs.take j) ++ [(c, true)] := by
  rw [List.take_succ_of hc]; simp [flE]
set_option maxHeartbeats 4000000 in
theorem first_any {r : Re} {S : Nat → Prop} {h : Hd} {w : World} (bs : List UInt8) (hi : IsS w S h r) (hm : bs.length ≤ 1000000) :
    Calls Tryd.prog 12 #[hdV h, .string (strB bs)] w (FirstPost r bs w) := by
  obtain ⟨w1, hw1⟩ : ∃ w1, w.alloc (.cells (hdC h) 32) = w1 := ⟨_, rfl⟩
  have hb1 : Below w.heap.size w w1 := by rw [← hw1]; exact (Below.refl _ _).alloc (Nat.le_refl _) _
  have hk1 : Blk w1 w.heap.size 32 (hdC h) := by rw [← hw1]; exact Blk.new _ _ _
  have HO := keepHid (of_all r S h w1 (hi.below hb1))
  unfold hdC at hk1 hw1
  obtain ⟨n0, n1, n2, n3, n4, n5, nf⟩ := blk6 hk1
  have HW1 := keepHid hw1
  have HB1 := keepHid hb1
  obtain ⟨n, hn⟩ : ∃ n, bs.length = n := ⟨_, rfl⟩
  have hsz : (strB bs).size = n := by rw [strB_size, hn]
  have HN := keepHid hn
  rw [hn] at hm
  clear hi hk1 hb1 hw1 hn
  unfold hdV at *
  go_enter Tryd.func12, Tryd.ntmps12
  go_upto_region 1 with fail
  rw [HW1.out]
  go_wp2_with fail
  with_reducible refine HO.out.mono ?_
  rintro e w2 ⟨p, rfl, hpk, hb2⟩
  obtain ⟨w3, hw3⟩ : ∃ w3, w2.alloc (.cells (phL p).toArray 76) = w3 := ⟨_, rfl⟩
  obtain ⟨hpa, hb3, hs3⟩ := pat_new hpk hb2 hw3
  have HW3 := keepHid hw3
  unfold phL at HW3
  have HP3 := keepHid hpa
  have HB3 := keepHid (HB1.out.trans (hb3.mono HB1.out.size))
  obtain ⟨f6, f7, f8⟩ := hpa.flags
  rw [em_ini] at f6
  generalize hlo : w1.heap.size = lo at *
  have HLO := keepHid (show Hid (w.heap.size ≤ lo) from keepHid (by rw [← hlo]; exact HB1.out.size))
  clear hpk hb2 hw3 hpa hb3 hs3 n0 n1 n2 n3 n4 n5 nf HO HW1 f7 f8 hlo
  unfold phV
  go_upto_region 2 with fail
  rw [HW3.out]
  generalize w2.heap.size = P at *
  obtain ⟨E, hE⟩ : ∃ E, emp r = E := ⟨_, rfl⟩
  rw [hE] at f6
  have HE := keepHid hE
  clear hE
  cases E
  · go_wp2_with fail
    go_loopw [14] (fun i wr => ∃ j : Nat, j ≤ n ∧ i = .int .i64 j ∧ Hid (∀ i, i ≤ j → hitB r bs i = false) ∧ Hid (PatAt wr P lo (runP (ini r) (flE (bs.take j)))) ∧ Hid (Below w.heap.size w wr)) (fun i _ => n - (intOf i).toNat)
    case atStart => exact ⟨0, Nat.zero_le _, rfl, keepHid (fun i hi => by
      have : i = 0 := by omega
      subst this
      rw [hit_zero]; exact HE.out), keepHid HP3.out, HB3⟩
    case round =>
      obtain ⟨j, hj, rfl, HNO, HPA, HBR⟩ := hrel
      rcases Nat.lt_or_ge j n with hlt | hge
      · obtain ⟨c, hc⟩ : ∃ c, bs[j]? = some c := ⟨_, List.getElem?_eq_getElem (by rw [HN.out]; exact hlt)⟩
        have hix := run_idx hc (j : Int) rfl
        have hji : (j : Int) < (n : Int) := by omega
        have HST := keepHid (pat_step HPA.out c true)
        have hrun : stp (runP (ini r) (flE (bs.take j))) c true = runP (ini r) (flE (bs.take (j + 1))) := by rw [flE_snoc hc, runP_snoc]
        rw [hrun] at HST
        have HHIT : Hid (hitB r bs (j + 1) = en (runP (ini r) (flE (bs.take (j + 1))))) := keepHid (hit_succ (by rw [HN.out]; exact hlt) HE.out)
        clear hc hrun f6
        obtain ⟨t', ht'⟩ : ∃ t', runP (ini r) (flE (bs.take (j + 1))) = t' := ⟨_, rfl⟩
        rw [ht'] at HST HHIT
        have HT' := keepHid ht'
        clear ht'
        go_wp2_with fail
        with_reducible refine HST.out.mono ?_
        rintro e w4 ⟨rfl, hpa, ht⟩
        obtain ⟨-, -, f8⟩ := hpa.flags
        have HPA' := keepHid hpa
        have HBR' := keepHid (HBR.out.trans (ht.below (B := w.heap.size) (fun i hi => by have : w.heap.size ≤ lo := HLO.out; omega) HBR.out.size))
        obtain ⟨E, hE2⟩ : ∃ E, en t' = E := ⟨_, rfl⟩
        rw [hE2] at f8 HHIT
        clear hpa ht hix hE2
        cases E
        · go_wp2
          go_roundw
          case rel => exact ⟨j + 1, by omega, by go_num, keepHid (fun i hi => by
            rcases Nat.lt_or_ge j i with h | h
            · obtain rfl : i = j + 1 := by omega
              exact HHIT.out
            · exact HNO.out i h), by rw [HT'.out]; exact HPA', HBR'⟩
          case measure => simp [intOf]; omega
        · have HFF : Hid (firstL r bs = (j + 1, true)) := keepHid (first_hit (by rw [HN.out]; omega) HHIT.out (fun i hi => HNO.out i (by omega)))
          go_wp2
          go_ret2
          refine ⟨?_, HBR'.out⟩
          rw [HFF.out]
          rfl
      · have HFF : Hid (firstL r bs = (0, false)) := keepHid (first_none (fun i hi => HNO.out i (by rw [HN.out] at hi; omega)))
        go_wp2
        go_ret2
        refine ⟨?_, HBR.out⟩
        rw [HFF.out]
        rfl
  · have HFF : Hid (firstL r bs = (0, true)) := keepHid (first_hit (Nat.zero_le _) (by rw [hit_zero]; exact HE.out) (fun i hi => by omega))
    go_wp2
    go_ret2
    refine ⟨?_, HB3.out⟩
    rw [HFF.out]
    rfl
end Go.Proofs.YtgidoieppplhpaaDoor
