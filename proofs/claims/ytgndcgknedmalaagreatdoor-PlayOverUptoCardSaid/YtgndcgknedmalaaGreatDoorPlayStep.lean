/-
  What is needed of a dialogue's step: package play's stepOf.
-/
import Derived.Test.YtgndcgknedmalaaGreatDoorPlayRows
import Derived.Test.YtgndcgknedmalaaGreatDoorTokenOps
import Derived.Deep.RegionLaw
import Derived.Deep.RegionHeld3
import Derived.Deep.RegionWith
import Derived.Deep.DeepCutAuto
import Derived.Test.YtgndcgknedmalaaGreatDoorPlayRun
import Derived.Test.YtgndcgknedmalaaGreatDoorDialogStep
namespace Go.Proofs.YtgndcgknedmalaaGreatDoor
open Go.RowKit
set_option linter.unusedVariables false

theorem pst_text {ss : List Sp} {x : Sp} (h : x.kind = 0) : pstO ss x = ⟨0, x.text, [], [], x.n, findS ss x.dst⟩ := by
  unfold pstO
  rw [if_pos h, if_neg (by omega), if_neg (by omega), h]
theorem pst_wait {ss : List Sp} {x : Sp} (h : x.kind = 1) : pstO ss x = ⟨1, [], x.arms.map Ar.pat, x.arms.map (fun a => (findS ss a.dst).toNat), x.n, findS ss x.dst⟩ := by
  unfold pstO
  rw [if_neg (by omega), if_pos h, if_pos h, h]
theorem pst_rest {ss : List Sp} {x : Sp} (h0 : x.kind ≠ 0) (h1 : x.kind ≠ 1) : pstO ss x = ⟨x.kind, [], [], [], x.n, findS ss x.dst⟩ := by
  unfold pstO
  rw [if_neg h0, if_neg h1, if_neg h1]
theorem bel_allo {a w : World} (h : Below a.heap.size a w) (o : Obj) : Below a.heap.size a (w.alloc o) := h.alloc h.size o
theorem bel_se {a w : World} {p : Addr} (h : Below a.heap.size a w) (hp : a.heap.size ≤ p.block) (u : Value) : Below a.heap.size a (w.setCell p u) := h.setCell hp u
theorem blk7 {w : World} {g : Nat} {t : TypeId} {a0 a1 a2 a3 a4 a5 a6 b0 b1 b2 b3 b4 b5 b6 : Value} (h : Blk w g t #[a0, a1, a2, a3, a4, a5, a6]) :
    Blk (((((((w.setCell ⟨g, 0, none⟩ b0).setCell ⟨g, 1, none⟩ b1).setCell ⟨g, 2, none⟩ b2).setCell ⟨g, 3, none⟩ b3).setCell ⟨g, 4, none⟩ b4).setCell ⟨g, 5, none⟩ b5).setCell ⟨g, 6, none⟩ b6) g t #[b0, b1, b2, b3, b4, b5, b6] := by
  have k := ((((((h.put 0 b0).put 1 b1).put 2 b2).put 3 b3).put 4 b4).put 5 b5).put 6 b6
  simpa using k
theorem bel7 {B g : Nat} {w w' : World} (hb : Below B w w') (hg : B ≤ g) (b0 b1 b2 b3 b4 b5 b6 : Value) :
    Below B w (((((((w'.setCell ⟨g, 0, none⟩ b0).setCell ⟨g, 1, none⟩ b1).setCell ⟨g, 2, none⟩ b2).setCell ⟨g, 3, none⟩ b3).setCell ⟨g, 4, none⟩ b4).setCell ⟨g, 5, none⟩ b5).setCell ⟨g, 6, none⟩ b6) :=
  ((((((hb.setCell (p := ⟨g, 0, none⟩) hg b0).setCell (p := ⟨g, 1, none⟩) hg b1).setCell (p := ⟨g, 2, none⟩) hg b2).setCell (p := ⟨g, 3, none⟩) hg b3).setCell (p := ⟨g, 4, none⟩) hg b4).setCell (p := ⟨g, 5, none⟩) hg b5).setCell (p := ⟨g, 6, none⟩) hg b6
/-- The result's block is read at the return. -/
theorem ret_stp (w : World) (g : Nat) (k0 n0 f0 : Int) (x0 : ByteArray) (P0 Q0 : Option Addr) (np cp nq cq : Nat) (tmps : Array Value) (hb : Blk w g 60 #[.int .i64 k0, .string x0, .slice P0 np cp, .slice Q0 nq cq, .int .i64 n0, .int .i64 f0, .int .i64 0]) (h4 : tmps.getD 4 undef = .pointer (some ⟨g, 0, none⟩)) :
    (results Tryz.f18 tmps).run Tryz.prog w = .ok (.agg #[.int .i64 k0, .string x0, .slice P0 np cp, .slice Q0 nq cq, .int .i64 n0, .int .i64 f0, .int .i64 0]) w := by
  have q0 := hb.cell 0; have q1 := hb.cell 1; have q2 := hb.cell 2; have q3 := hb.cell 3; have q4 := hb.cell 4; have q5 := hb.cell 5; have q6 := hb.cell 6
  simp at q0 q1 q2 q3 q4 q5 q6
  rw [results_cell_one (p := 4) (ty := 60) rfl, h4]
  simp [go_sem, q0, q1, q2, q3, q4, q5, q6]
/-- What the loop over the arms has come to. -/
structure StpMid (w2 wx : World) (g5 : Nat) (P Q : Value) (k : Nat) (ps : List (List UInt8)) (qs : List Nat) : Prop where
  own : OwnX wx (g5 + 1) P k ps
  ints : OwnI wx (g5 + 1) Q k qs
  bel : Below w2.heap.size w2 wx
theorem stp_other {w w' : World} {base n m : Nat} {P Q : Value} {ps : List (List UInt8)} {e : TypeId} {vs : List Value} (h : w.ownsRow base e 1 Q m vs) (ho : OwnX w base P n ps) (hg : w.grownBy w' P.ownBlock) (hne : 9 ≠ e) : w'.ownsRow base e 1 Q m vs :=
  own_keep h fun i hi hl => hg.block i hl fun e2 => by
    obtain ⟨c1, b1⟩ := own_obj h hi
    obtain ⟨c2, b2⟩ := own_obj ho e2.symm
    exact blk_type b2 b1 hne rfl
theorem stp_other2 {w w' : World} {base n m : Nat} {P Q : Value} {qs : List Nat} {e : TypeId} {vs : List Value} (h : w.ownsRow base e 1 P m vs) (ho : OwnI w base Q n qs) (hg : w.grownBy w' Q.ownBlock) (hne : 3 ≠ e) : w'.ownsRow base e 1 P m vs :=
  own_keep h fun i hi hl => hg.block i hl fun e2 => by
    obtain ⟨c1, b1⟩ := own_obj h hi
    obtain ⟨c2, b2⟩ := own_obj ho e2.symm
    exact blk_type b2 b1 hne rfl
set_option maxRecDepth 100000 in
set_option maxHeartbeats 16000000 in
theorem stepOf_any (ss : List Sp) (x : Sp) (A : Option Addr) (n c : Nat) (P : Option Addr) (m pc : Nat) (hm9 : m ≤ 1000000) (ht : x.text.length ≤ 1048576) (hp : ∀ a ∈ x.arms, a.pat.length ≤ 1048576) (hfd : x.kind = 1 → ∀ a ∈ x.arms, 0 ≤ findS ss a.dst)
    (w : World) (hS : StS w A n ss) (hA : ArS w P m x.arms) :
    Calls Tryz.prog 18 #[.agg #[.string (strB x.label), .int .i64 x.kind, .string (strB x.text), .slice P m pc, .int .i64 x.n, .string (strB x.dst), .int .i64 x.pos], .slice A n c] w
      fun e w' => (∃ P' Q', e = .returned (stpV (pstO ss x) P' Q') ∧ OwnPQ w' w.heap.size (pstO ss x) P' Q') ∧ Below w.heap.size w w' := by
  obtain ⟨w1, hw1⟩ : ∃ w1, w.alloc (.cells #[.string (strB x.label), .int .i64 x.kind, .string (strB x.text), .slice P m pc, .int .i64 x.n, .string (strB x.dst), .int .i64 x.pos] 26) = w1 := ⟨_, rfl⟩
  have hK1 : Blk w1 w.heap.size 26 #[.string (strB x.label), .int .i64 x.kind, .string (strB x.text), .slice P m pc, .int .i64 x.n, .string (strB x.dst), .int .i64 x.pos] := by rw [← hw1]; exact Blk.new w _ _
  have hB1 : Below w.heap.size w w1 := by rw [← hw1]; exact (Below.refl _ _).alloc (Nat.le_refl _) _
  obtain ⟨w2, hw2⟩ : ∃ w2, w1.alloc (.cells #[.int .i64 0, .string ⟨#[]⟩, .slice none 0 0, .slice none 0 0, .int .i64 0, .int .i64 0, .int .i64 0] 60) = w2 := ⟨_, rfl⟩
  have hK2 : Blk w2 w1.heap.size 60 #[.int .i64 0, .string ⟨#[]⟩, .slice none 0 0, .slice none 0 0, .int .i64 0, .int .i64 0, .int .i64 0] := by rw [← hw2]; exact Blk.new w1 _ _
  have hB2 : Below w1.heap.size w1 w2 := by rw [← hw2]; exact (Below.refl _ _).alloc (Nat.le_refl _) _
  have hG1 : w.heap.size < w1.heap.size := hK1.lt
  have hG2 : w1.heap.size < w2.heap.size := hK2.lt
  have HKB := keepHid (hK1.below hB2 hK1.lt)
  have HKR := keepHid hK2
  have HB2 := keepHid (hB1.trans (hB2.mono hB1.size))
  have HS2 := keepHid (hS.below HB2.out (Nat.le_refl _))
  have HA2 := keepHid (hA.below HB2.out (Nat.le_refl _))
  have HML := keepHid hA.len
  have HG1 := keepHid hG1
  have HG2 := keepHid hG2
  obtain ⟨FD, hFD⟩ : ∃ F, findS ss x.dst = F := ⟨_, rfl⟩
  have HF0 := keepHid (fun w' (hb : Below w2.heap.size w2 w') => (dfind_any ss x.dst A n c w' (HS2.out.below hb (Nat.le_refl _))).mono (fun e w'' (h : _ ∧ _) => (⟨h.1, hb.trans (h.2.mono hb.size), fun t cs hz => hz.below h.2 hz.lt⟩ : e = .returned (.int .i64 (findS ss x.dst)) ∧ Below w2.heap.size w2 w'' ∧ ∀ t cs, Blk w' w2.heap.size t cs → Blk w'' w2.heap.size t cs)))
  rw [hFD] at HF0
  have HFA := keepHid (fun t w' (hb : Below w2.heap.size w2 w') => dfind_any ss t A n c w' (HS2.out.below hb (Nat.le_refl _)))
  have HCS : Hid (∀ w', Below w2.heap.size w2 w' → w'.cell? ⟨w.heap.size, 1, none⟩ = some (.int .i64 x.kind) ∧ w'.cell? ⟨w.heap.size, 4, none⟩ = some (.int .i64 x.n) ∧ w'.cell? ⟨w.heap.size, 5, none⟩ = some (.string (strB x.dst)) ∧ Below w2.heap.size w2 w') := keepHid (fun w' hb => by
    have h := HKB.out.below hb (Nat.lt_trans hG1 hG2)
    exact ⟨h.cell 1, h.cell 4, h.cell 5, hb⟩)
  have c1 : w2.cell? ⟨w.heap.size, 1, none⟩ = some (.int .i64 x.kind) := HKB.out.cell 1
  have HFD := keepHid hFD
  have HFF := keepHid hfd
  have HPT := keepHid hp
  have HTL := keepHid ht
  have HTX : Hid (x.kind = 0 → ∀ w', Calls Tryz.prog 28 #[.string (strB x.text)] w' fun e w'' => e = .returned (.string (strB x.text)) ∧ Below w'.heap.size w' w'') := keepHid (fun _ w' => sclone_any x.text w' (by omega))
  have HBX := HKB
  clear hK1 hK2 hB1 hB2 hS hA hFD hfd hp ht hG1 hG2
  obtain ⟨TX, hTX⟩ : ∃ X, strB x.text = X := ⟨_, rfl⟩
  rw [hTX] at HTX HKB HBX hw1
  have HTE := keepHid hTX
  clear hTX
  obtain ⟨LB, hLB⟩ : ∃ X, strB x.label = X := ⟨_, rfl⟩
  obtain ⟨DD, hDD⟩ : ∃ X, strB x.dst = X := ⟨_, rfl⟩
  rw [hLB, hDD] at HKB HBX hw1
  rw [hDD] at HF0 HCS
  rw [HTE.out, hLB, hDD]
  obtain ⟨KK, hKK⟩ : ∃ X, x.kind = X := ⟨_, rfl⟩
  rw [hKK] at HKB HBX hw1 c1 HCS HTX ⊢
  have HKK := keepHid hKK
  clear hLB hDD hKK
  go_enter Tryz.func18, Tryz.ntmps18
  go_upto_region 1 with fail
  try rw [hw1]
  try rw [hw2]
  clear hw1 hw2
  go_cut [5] (fun s wx => ∃ g5, s = .pointer (some ⟨g5, 0, none⟩) ∧ Hid (Blk wx g5 60 #[.int .i64 KK, .string ⟨#[]⟩, .slice none 0 0, .slice none 0 0, .int .i64 x.n, .int .i64 FD, .int .i64 0]) ∧ Hid (Below w2.heap.size w2 wx) ∧ Hid (w2.heap.size ≤ g5))
  case first =>
    go_region_held3 (fun w' => w'.cell? ⟨w.heap.size, 1, none⟩ = some (.int .i64 KK) ∧ w'.cell? ⟨w.heap.size, 4, none⟩ = some (.int .i64 x.n) ∧ w'.cell? ⟨w.heap.size, 5, none⟩ = some (.string DD) ∧ Below w2.heap.size w2 w') (exact HCS.out _ (by (repeat (first | (with_reducible exact Below.refl _ _) | (with_reducible exact HB5.out) | (with_reducible refine Below.drew ?_) | (with_reducible refine bel_allo ?_ _) | (with_reducible refine bel_se ?_ (Nat.le_refl _) _))))) (first
      | (go_at_call 27; (with_reducible refine (HF0.out _ (by (first | exact Below.refl _ _ | exact Below.drew (Below.refl _ _) | exact (Below.refl _ _).alloc (Nat.le_refl _) _ | exact Below.drew ((Below.refl _ _).alloc (Nat.le_refl _) _) | exact (Below.drew (Below.refl _ _)).alloc (Nat.le_refl _) _))).mono ?_); rintro e w5 ⟨rfl, hb5, hz5⟩; (try (have hz := hz5 60 #[.int .i64 0, .string ⟨#[]⟩, .slice none 0 0, .slice none 0 0, .int .i64 0, .int .i64 0, .int .i64 0] (by first | exact Blk.new w2 _ _ | exact (Blk.new w2 _ _).drew | exact Blk.new w2.drew _ _); have HZ := keepHid hz; have zz0 := hz.cell 0; have zz1 := hz.cell 1; have zz2 := hz.cell 2; have zz3 := hz.cell 3; have zz4 := hz.cell 4; have zz5 := hz.cell 5; have zz6 := hz.cell 6; have zzf := hz.frozen; simp at zz0 zz1 zz2 zz3 zz4 zz5 zz6; clear hz)); have HB5 := keepHid hb5; clear hb5 hz5))
    all_goals
      go_wp2_with fail
      go_meet
      case rel =>
        first
          | ((with_reducible refine ⟨w5.heap.size, rfl, ?_, ?_, keepHid HB5.out.size⟩)
             · first | (with_reducible exact keepHid (Blk.new w5 _ _)) | (with_reducible exact keepHid (Blk.new w5 _ _).drew)
             · first | (with_reducible exact keepHid (bel_allo HB5.out _)) | (with_reducible exact keepHid (bel_allo HB5.out _).drew))
          | ((with_reducible refine ⟨w2.heap.size, rfl, ?_, ?_, keepHid (Nat.le_refl _)⟩)
             · first | (with_reducible exact keepHid (blk7 HZ.out)) | (with_reducible exact keepHid (blk7 HZ.out).drew)
             · first | (with_reducible exact keepHid (bel7 HB5.out (Nat.le_refl _) _ _ _ _ _ _ _)) | (with_reducible exact keepHid (bel7 HB5.out (Nat.le_refl _) _ _ _ _ _ _ _).drew))
  case rest =>
    obtain ⟨g5, rfl, HK5, HBW, HGE⟩ := hcut
    clear HCS HF0 c1
    generalize wc = wb at *
    have HKC := keepHid (HKB.out.below HBW.out (Nat.lt_trans HG1.out HG2.out))
    have c1 : wb.cell? ⟨w.heap.size, 1, none⟩ = some (.int .i64 KK) := HKC.out.cell 1
    have HFIN : Hid (∀ wz w9, Below w2.heap.size w2 wz → (∀ i, w.heap.size ≤ i → i ≠ w1.heap.size → w9.heap[i]? = wz.heap[i]?) → Below w.heap.size w w9 → True) := keepHid (fun _ _ _ _ _ => trivial)
    clear HFIN
    by_cases h0 : KK = 0
    · have e0 : (KK == 0) = true := by simp [h0]
      have HPE := keepHid (pst_text (ss := ss) (show x.kind = 0 by rw [HKK.out]; exact h0))
      have c2 : wb.cell? ⟨w.heap.size, 2, none⟩ = some (.string TX) := HKC.out.cell 2
      have HCL := keepHid (HTX.out h0)
      subst h0
      go_wp2_with fail
      refine (HCL.out _).mono ?_
      rintro e w3 ⟨rfl, hb3⟩
      have HK3 := keepHid (HK5.out.below hb3 HK5.out.lt)
      have HB3 := keepHid (HBW.out.trans (hb3.mono HBW.out.size))
      clear hb3 HCL
      have f1 := HK3.out.frozen 1
      have d1 := HK3.out.cell 1
      simp at d1
      obtain ⟨wz, hwz⟩ : ∃ wz, w3.setCell ⟨g5, 1, none⟩ (.string TX) = wz := ⟨_, rfl⟩
      have HKZ : Hid (Blk wz g5 60 #[.int .i64 0, .string TX, .slice none 0 0, .slice none 0 0, .int .i64 x.n, .int .i64 FD, .int .i64 0]) := keepHid (by rw [← hwz]; exact HK3.out.put 1 _)
      have HBZ : Hid (Below w2.heap.size w2 wz) := keepHid (by rw [← hwz]; exact HB3.out.setCell (p := ⟨g5, 1, none⟩) HGE.out _)
      have HRZ := keepHid (HKR.out.below HBZ.out HKR.out.lt)
      have r0 := HRZ.out.cell 0; have r1 := HRZ.out.cell 1; have r2 := HRZ.out.cell 2; have r3 := HRZ.out.cell 3; have r4 := HRZ.out.cell 4; have r5 := HRZ.out.cell 5; have r6 := HRZ.out.cell 6; have rf := HRZ.out.frozen
      have z0 := HKZ.out.cell 0; have z1 := HKZ.out.cell 1; have z2 := HKZ.out.cell 2; have z3 := HKZ.out.cell 3; have z4 := HKZ.out.cell 4; have z5 := HKZ.out.cell 5; have z6 := HKZ.out.cell 6
      simp at r0 r1 r2 r3 r4 r5 r6 z0 z1 z2 z3 z4 z5 z6
      go_wp2_with fail
      try rw [hwz]
      go_wp2
      refine bodyPost_ret (ret_stp _ _ _ _ _ _ _ _ _ _ _ _ _ (blk7 HRZ.out) rfl) rfl ?_
      refine ⟨⟨.slice none 0 0, .slice none 0 0, by rw [HPE.out, HFD.out]; unfold stpV; rw [HTE.out], by rw [HPE.out]; exact ⟨World.ownsRow_nil _ _ _ _, World.ownsRow_nil _ _ _ _⟩⟩, ?_⟩
      exact bel7 (HB2.out.trans (HBZ.out.mono HB2.out.size)) (Nat.le_of_lt HG1.out) _ _ _ _ _ _ _
    have e0 : (KK == 0) = false := by simp [h0]
    by_cases h1 : KK = 1
    · have HPE := keepHid (pst_wait (ss := ss) (show x.kind = 1 by rw [HKK.out]; exact h1))
      have HF1 := keepHid (HFF.out (by rw [HKK.out]; exact h1))
      have e1 : (KK == 1) = true := by simp [h1]
      have c3 : wb.cell? ⟨w.heap.size, 3, none⟩ = some (.slice P m pc) := HKC.out.cell 3
      subst h1
      clear h0
      have HTK : Hid (x.arms.length = m) := HML
      go_wp2_with fail
      clear c1
      go_loopw [30] (fun iv wr => ∃ (k : Nat) (P2 : Option Addr) (pc2 : Nat) (Q2 : Option Addr) (qc2 : Nat), k ≤ m ∧ iv = .int .i64 (k : Int) ∧ Hid (Blk wr g5 60 #[.int .i64 1, .string ⟨#[]⟩, .slice P2 k pc2, .slice Q2 k qc2, .int .i64 x.n, .int .i64 FD, .int .i64 0]) ∧ Hid (StpMid w2 wr g5 (.slice P2 k pc2) (.slice Q2 k qc2) k ((x.arms.take k).map Ar.pat) ((x.arms.take k).map (fun a => (findS ss a.dst).toNat)))) (fun iv _ => m - (intOf iv).toNat)
      case atStart => exact ⟨0, none, 0, none, 0, Nat.zero_le _, rfl, HK5, keepHid ⟨World.ownsRow_nil _ _ _ _, World.ownsRow_nil _ _ _ _, HBW.out⟩⟩
      case round =>
        obtain ⟨k, P2, pc2, Q2, qc2, hk, rfl, HKI, HM⟩ := hrel
        generalize wr = wq at *
        by_cases hlt : k < m
        · obtain ⟨a, ha⟩ : ∃ a, x.arms[k]? = some a := ⟨_, List.getElem?_eq_getElem (by rw [HML.out]; exact hlt)⟩
          obtain ⟨ad, rfl, hadl, a0, a1⟩ := (HA2.out.below HM.out.bel (Nat.le_refl _)).at_ ha
          have ham := List.mem_of_getElem? ha
          have hk' : (k : Int) < (m : Int) := by omega
          have HTP : Hid ((x.arms.take (k + 1)).map Ar.pat = (x.arms.take k).map Ar.pat ++ [a.pat]) := keepHid (by rw [List.take_succ_of ha, List.map_append]; rfl)
          have HTQ : Hid ((x.arms.take (k + 1)).map (fun a => (findS ss a.dst).toNat) = (x.arms.take k).map (fun a => (findS ss a.dst).toNat) ++ [(findS ss a.dst).toNat]) := keepHid (by rw [List.take_succ_of ha, List.map_append]; rfl)
          obtain ⟨w3, hw3⟩ : ∃ w3, wq.alloc (.cells #[.string (strB a.pat), .string (strB a.dst)] 28) = w3 := ⟨_, rfl⟩
          have hK3 : Blk w3 wq.heap.size 28 #[.string (strB a.pat), .string (strB a.dst)] := by rw [← hw3]; exact Blk.new wq _ _
          have hB3 : Below wq.heap.size wq w3 := by rw [← hw3]; exact (Below.refl _ _).alloc (Nat.le_refl _) _
          have HKA := keepHid hK3
          have HGA : Hid (g5 < wq.heap.size) := keepHid HKI.out.lt
          have HKI3 := keepHid (HKI.out.below hB3 HKI.out.lt)
          have HM3 : Hid (StpMid w2 w3 g5 (.slice P2 k pc2) (.slice Q2 k qc2) k ((x.arms.take k).map Ar.pat) ((x.arms.take k).map (fun a => (findS ss a.dst).toNat))) := keepHid ⟨HM.out.own.below hB3, own_keep HM.out.ints fun i _ hi => hB3.block i hi, HM.out.bel.trans (hB3.mono HM.out.bel.size)⟩
          have HSC := keepHid (fun wx (hb : Below w3.heap.size w3 wx) => (sclone_any a.pat wx (by have := HPT.out a ham; omega)).mono (fun e w'' (h : _ ∧ _) => (⟨h.1, hb.trans (h.2.mono hb.size)⟩ : e = .returned (.string (strB a.pat)) ∧ Below w3.heap.size w3 w'')))
          obtain ⟨F, hF⟩ : ∃ F : Nat, findS ss a.dst = (F : Int) := ⟨(findS ss a.dst).toNat, by have := HF1.out a ham; omega⟩
          have HF := keepHid hF
          have HW3 := keepHid hw3
          clear ham ha hK3 hB3 HM hadl HKI hw3
          obtain ⟨PA, hPA⟩ : ∃ X, strB a.pat = X := ⟨_, rfl⟩
          have HPA := keepHid hPA
          rw [hPA] at HSC HKA HW3 a0
          clear hPA
          obtain ⟨DA, hDA⟩ : ∃ X, strB a.dst = X := ⟨_, rfl⟩
          have HDA := keepHid hDA
          rw [hDA] at HKA HW3 a1
          clear hDA
          have HNEW : Hid (∀ w7, Below w3.heap.size w3 w7 → w7.cell? ⟨g5, 2, none⟩ = some (.slice P2 k pc2) ∧ (w7.alloc (.cells #[.string PA] 9)).cell? ⟨g5, 2, none⟩ = some (.slice P2 k pc2) ∧ OwnX (w7.alloc (.cells #[.string PA] 9)) (g5 + 1) (.slice P2 k pc2) k ((x.arms.take k).map Ar.pat) ∧ (w7.alloc (.cells #[.string PA] 9)).cell? ⟨w7.heap.size, 0, none⟩ = some (.string PA) ∧ g5 + 1 ≤ (w7.alloc (.cells #[.string PA] 9)).heap.size ∧
              ∀ G cap w9, w9.ownsRow (g5 + 1) 9 1 (.slice (some ⟨G, 0, none⟩) (k + 1) cap) (k + 1) (((x.arms.take k).map Ar.pat).map strV ++ [.string PA]) → (w7.alloc (.cells #[.string PA] 9)).grownBy w9 (Value.slice P2 k pc2).ownBlock → Below (g5 + 1) (w7.alloc (.cells #[.string PA] 9)) w9 →
                w9.cell? ⟨g5, 2, none⟩ = some (.slice P2 k pc2) ∧ w9.frozen? ⟨g5, 2, none⟩ = false ∧
                Blk (w9.setCell ⟨g5, 2, none⟩ (.slice (some ⟨G, 0, none⟩) (k + 1) cap)) g5 60 #[.int .i64 1, .string ⟨#[]⟩, .slice (some ⟨G, 0, none⟩) (k + 1) cap, .slice Q2 k qc2, .int .i64 x.n, .int .i64 FD, .int .i64 0] ∧ OwnX (w9.setCell ⟨g5, 2, none⟩ (.slice (some ⟨G, 0, none⟩) (k + 1) cap)) (g5 + 1) (.slice (some ⟨G, 0, none⟩) (k + 1) cap) (k + 1) ((x.arms.take (k + 1)).map Ar.pat) ∧
                OwnI (w9.setCell ⟨g5, 2, none⟩ (.slice (some ⟨G, 0, none⟩) (k + 1) cap)) (g5 + 1) (.slice Q2 k qc2) k ((x.arms.take k).map (fun a => (findS ss a.dst).toNat)) ∧ Below w2.heap.size w2 (w9.setCell ⟨g5, 2, none⟩ (.slice (some ⟨G, 0, none⟩) (k + 1) cap)) ∧
                Blk (w9.setCell ⟨g5, 2, none⟩ (.slice (some ⟨G, 0, none⟩) (k + 1) cap)) wq.heap.size 28 #[.string PA, .string DA]) := keepHid (fun w7 hb => by
            have hb' := hb.alloc hb.size (.cells #[.string PA] 9)
            have h7 := HKI3.out.below hb HKI3.out.lt
            have h8 := HKI3.out.below hb' HKI3.out.lt
            have hlt3 : g5 < w3.heap.size := HKI3.out.lt
            have hgw : w2.heap.size ≤ g5 := HGE.out
            refine ⟨h7.cell 2, h8.cell 2, HM3.out.own.below hb', (Blk.new w7 9 #[.string PA]).cell 0, by have := hb'.size; omega, fun G cap w9 q1 q2 q3 => ?_⟩
            have h9 := h8.below q3 (Nat.lt_succ_self _)
            have hx9 : ∀ i, i ≠ g5 → (w9.setCell ⟨g5, 2, none⟩ (.slice (some ⟨G, 0, none⟩) (k + 1) cap)).heap[i]? = w9.heap[i]? := fun i hi => Below.heap_setCell w9 _ _ i hi
            refine ⟨h9.cell 2, h9.frozen 2, h9.put 2 _, ?_, ?_, ?_, ?_⟩
            · rw [HTP.out]
              have q1' : OwnX w9 (g5 + 1) (.slice (some ⟨G, 0, none⟩) (k + 1) cap) (k + 1) ((x.arms.take k).map Ar.pat ++ [a.pat]) := by
                unfold OwnX
                rw [List.map_append]
                show w9.ownsRow _ _ _ _ _ (_ ++ [strV a.pat])
                unfold strV
                rw [HPA.out]
                exact q1
              exact own_keep q1' fun i hi hl => hx9 i (by have := (World.ownsRow.lt q1' i hi).1; omega)
            · have hi8 : OwnI (w7.alloc (.cells #[.string PA] 9)) (g5 + 1) (.slice Q2 k qc2) k ((x.arms.take k).map (fun a => (findS ss a.dst).toNat)) := own_keep HM3.out.ints fun i _ hl => hb'.block i hl
              have hi9 := stp_other hi8 (HM3.out.own.below hb') q2 (by decide)
              exact own_keep hi9 fun i hi hl => hx9 i (by have := (World.ownsRow.lt hi9 i hi).1; omega)
            · exact ((HM3.out.bel.trans (hb'.mono HM3.out.bel.size)).trans (q3.mono (by omega))).setCell (p := ⟨g5, 2, none⟩) hgw _
            · have hl := HGA.out
              have hA8 := HKA.out.below hb' HKA.out.lt
              have hne : some wq.heap.size ≠ (Value.slice P2 k pc2).ownBlock := fun e => by
                obtain ⟨cc, bb⟩ := own_obj (HM3.out.own.below hb') e.symm
                exact blk_type hA8 bb (by decide) rfl
              exact (hx9 _ (by omega)).trans ((q2.block _ hA8.lt hne).trans hA8))
          go_upto_region 9 with fail
          try rw [HW3.out]
          have i3 : w3.cell? ⟨g5, 2, none⟩ = some (.slice P2 k pc2) := HKI3.out.cell 2
          have ia : w3.cell? ⟨wq.heap.size, 0, none⟩ = some (.string PA) := HKA.out.cell 0
          go_cut [41] (fun s wx => ∃ P3 pc3, s = .pointer (some ⟨g5, 2, none⟩) ∧ Hid (Blk wx g5 60 #[.int .i64 1, .string ⟨#[]⟩, .slice P3 (k + 1) pc3, .slice Q2 k qc2, .int .i64 x.n, .int .i64 FD, .int .i64 0]) ∧ Hid (OwnX wx (g5 + 1) (.slice P3 (k + 1) pc3) (k + 1) ((x.arms.take (k + 1)).map Ar.pat)) ∧ Hid (OwnI wx (g5 + 1) (.slice Q2 k qc2) k ((x.arms.take k).map (fun a => (findS ss a.dst).toNat))) ∧ Hid (Below w2.heap.size w2 wx) ∧ Hid (Blk wx wq.heap.size 28 #[.string PA, .string DA]))
          case first =>
            go_region_law (first
              | (go_simp; go_at_call 28; (with_reducible refine (HSC.out _ (by first | exact Below.refl _ _ | exact (Below.refl _ _).drew | exact (Below.refl _ _).drew.drew)).mono ?_); rintro e w7 ⟨rfl, hb7⟩; obtain ⟨g0, g1, ho, hc, hl, hf⟩ := HNEW.out w7 hb7; have HO7 := keepHid ho; have HC7 := keepHid hc; have HL7 := keepHid hl; have HF7 := keepHid hf; clear hb7 ho hc hl hf)
              | ((refine step_append_one Tryz.underlying58 infoStr rfl (by omega) rfl (.tmp 35) (.tmp 39) rfl (g5 + 1) (.slice P2 k pc2) k (((x.arms.take k).map Ar.pat).map strV) (by simp [Act.eval]) HO7.out ⟨w7.heap.size, 0, none⟩ (by simp [Act.eval]) (.string PA) HC7.out rfl (by omega) HL7.out ?_); intro G9 cap9 w9 q1 q2 q3; obtain ⟨f0, f1, hp9⟩ := HF7.out G9 cap9 w9 q1 q2 q3; have HP9 := keepHid hp9; clear q1 q2 q3 hp9))
            all_goals
              go_wp2_with fail
              go_meet
              case rel => exact ⟨_, _, rfl, keepHid HP9.out.1, keepHid HP9.out.2.1, keepHid HP9.out.2.2.1, keepHid HP9.out.2.2.2.1, keepHid HP9.out.2.2.2.2⟩
          case rest =>
            obtain ⟨P3, pc3, rfl, HKJ, HOX, HOI, HBJ, HKB2⟩ := hcut
            clear HNEW HSC i3 ia HM3 HKI3 HKA HKC
            generalize wc = wj at *
            have HLJ : Hid (g5 < wj.heap.size) := keepHid HKJ.out.lt
            have HFJ := keepHid (fun wx (hb : Below wj.heap.size wj wx) => (HFA.out a.dst wx (HBJ.out.trans (hb.mono HBJ.out.size))).mono (fun e w'' (h : _ ∧ _) => (⟨by rw [h.1, HF.out], hb.trans (h.2.mono hb.size)⟩ : e = .returned (.int .i64 (F : Int)) ∧ Below wj.heap.size wj w'')))
            have HNEW : Hid (∀ w7, Below wj.heap.size wj w7 → w7.cell? ⟨g5, 3, none⟩ = some (.slice Q2 k qc2) ∧ (w7.alloc (.cells #[.int .i64 (F : Int)] 3)).cell? ⟨g5, 3, none⟩ = some (.slice Q2 k qc2) ∧ OwnI (w7.alloc (.cells #[.int .i64 (F : Int)] 3)) (g5 + 1) (.slice Q2 k qc2) k ((x.arms.take k).map (fun a => (findS ss a.dst).toNat)) ∧ (w7.alloc (.cells #[.int .i64 (F : Int)] 3)).cell? ⟨w7.heap.size, 0, none⟩ = some (.int .i64 (F : Int)) ∧ g5 + 1 ≤ (w7.alloc (.cells #[.int .i64 (F : Int)] 3)).heap.size ∧
                ∀ G cap w9, w9.ownsRow (g5 + 1) 3 1 (.slice (some ⟨G, 0, none⟩) (k + 1) cap) (k + 1) (((x.arms.take k).map (fun a => (findS ss a.dst).toNat)).map natV ++ [.int .i64 (F : Int)]) → (w7.alloc (.cells #[.int .i64 (F : Int)] 3)).grownBy w9 (Value.slice Q2 k qc2).ownBlock → Below (g5 + 1) (w7.alloc (.cells #[.int .i64 (F : Int)] 3)) w9 →
                  w9.cell? ⟨g5, 3, none⟩ = some (.slice Q2 k qc2) ∧ w9.frozen? ⟨g5, 3, none⟩ = false ∧
                  Blk (w9.setCell ⟨g5, 3, none⟩ (.slice (some ⟨G, 0, none⟩) (k + 1) cap)) g5 60 #[.int .i64 1, .string ⟨#[]⟩, .slice P3 (k + 1) pc3, .slice (some ⟨G, 0, none⟩) (k + 1) cap, .int .i64 x.n, .int .i64 FD, .int .i64 0] ∧ StpMid w2 (w9.setCell ⟨g5, 3, none⟩ (.slice (some ⟨G, 0, none⟩) (k + 1) cap)) g5 (.slice P3 (k + 1) pc3) (.slice (some ⟨G, 0, none⟩) (k + 1) cap) (k + 1) ((x.arms.take (k + 1)).map Ar.pat) ((x.arms.take (k + 1)).map (fun a => (findS ss a.dst).toNat))) := keepHid (fun w7 hb => by
              have hb' := hb.alloc hb.size (.cells #[.int .i64 (F : Int)] 3)
              have h7 := HKJ.out.below hb HKJ.out.lt
              have h8 := HKJ.out.below hb' HKJ.out.lt
              have hlt3 : g5 < wj.heap.size := HKJ.out.lt
              have hgw : w2.heap.size ≤ g5 := HGE.out
              have hi8 : OwnI (w7.alloc (.cells #[.int .i64 (F : Int)] 3)) (g5 + 1) (.slice Q2 k qc2) k ((x.arms.take k).map (fun a => (findS ss a.dst).toNat)) := own_keep HOI.out fun i _ hl => hb'.block i hl
              refine ⟨h7.cell 3, h8.cell 3, hi8, (Blk.new w7 3 #[.int .i64 (F : Int)]).cell 0, by have := hb'.size; omega, fun G cap w9 q1 q2 q3 => ?_⟩
              have h9 := h8.below q3 (Nat.lt_succ_self _)
              have hx9 : ∀ i, i ≠ g5 → (w9.setCell ⟨g5, 3, none⟩ (.slice (some ⟨G, 0, none⟩) (k + 1) cap)).heap[i]? = w9.heap[i]? := fun i hi => Below.heap_setCell w9 _ _ i hi
              refine ⟨h9.cell 3, h9.frozen 3, h9.put 3 _, ⟨?_, ?_, ?_⟩⟩
              · have hx8 : OwnX (w7.alloc (.cells #[.int .i64 (F : Int)] 3)) (g5 + 1) (.slice P3 (k + 1) pc3) (k + 1) ((x.arms.take (k + 1)).map Ar.pat) := HOX.out.below hb'
                have hx9' := stp_other2 hx8 hi8 q2 (by decide)
                exact own_keep hx9' fun i hi hl => hx9 i (by have := (World.ownsRow.lt hx9' i hi).1; omega)
              · rw [HTQ.out]
                have q1' : OwnI w9 (g5 + 1) (.slice (some ⟨G, 0, none⟩) (k + 1) cap) (k + 1) ((x.arms.take k).map (fun a => (findS ss a.dst).toNat) ++ [(findS ss a.dst).toNat]) := by
                  unfold OwnI
                  rw [List.map_append]
                  show w9.ownsRow _ _ _ _ _ (_ ++ [natV (findS ss a.dst).toNat])
                  rw [HF.out]
                  exact q1
                exact own_keep q1' fun i hi hl => hx9 i (by have := (World.ownsRow.lt q1' i hi).1; omega)
              · exact ((HBJ.out.trans (hb'.mono HBJ.out.size)).trans (q3.mono (by omega))).setCell (p := ⟨g5, 3, none⟩) hgw _)
            have i3 : wj.cell? ⟨g5, 3, none⟩ = some (.slice Q2 k qc2) := HKJ.out.cell 3
            have ia : wj.cell? ⟨wq.heap.size, 1, none⟩ = some (.string DA) := HKB2.out.cell 1
            rw [HDA.out] at HFJ
            clear HOX HOI HKJ HKB2 HBJ
            go_upto_region 10 with fail
            go_region_law (first
              | (go_simp; go_at_call 27; (with_reducible refine (HFJ.out _ (by first | exact Below.refl _ _ | exact (Below.refl _ _).drew | exact (Below.refl _ _).drew.drew)).mono ?_); rintro e w7 ⟨rfl, hb7⟩; obtain ⟨g0, g1, ho, hc, hl, hf⟩ := HNEW.out w7 hb7; have HO7 := keepHid ho; have HC7 := keepHid hc; have HL7 := keepHid hl; have HF7 := keepHid hf; clear hb7 ho hc hl hf)
              | ((refine step_append_one Tryz.underlying39 infoInt rfl (by omega) rfl (.tmp 43) (.tmp 48) rfl (g5 + 1) (.slice Q2 k qc2) k _ (by simp [Act.eval]) HO7.out ⟨w7.heap.size, 0, none⟩ (by simp [Act.eval]) (.int .i64 (F : Int)) HC7.out rfl (by omega) HL7.out ?_); intro G9 cap9 w9 q1 q2 q3; obtain ⟨f0, f1, hp9⟩ := HF7.out G9 cap9 w9 q1 q2 q3; have HP9 := keepHid hp9; clear q1 q2 q3 hp9))
            all_goals
              go_wp2
              go_roundw
              case rel => exact ⟨k + 1, P3, pc3, some ⟨G9, 0, none⟩, cap9, by omega, by go_num, keepHid HP9.out.1, keepHid HP9.out.2⟩
              case measure => simp [intOf]; omega
        · obtain rfl : k = m := by omega
          have hallp : x.arms.take k = x.arms := List.take_of_length_le (by rw [HML.out]; exact Nat.le_refl _)
          rw [hallp] at HM
          obtain ⟨wz, hwz⟩ : ∃ wz, wq = wz := ⟨_, rfl⟩
          subst hwz
          have HKZ := HKI
          have HBZ := keepHid HM.out.bel
          clear hallp hlt
          have HRZ := keepHid (HKR.out.below HBZ.out HKR.out.lt)
          have r0 := HRZ.out.cell 0; have r1 := HRZ.out.cell 1; have r2 := HRZ.out.cell 2; have r3 := HRZ.out.cell 3; have r4 := HRZ.out.cell 4; have r5 := HRZ.out.cell 5; have r6 := HRZ.out.cell 6; have rf := HRZ.out.frozen
          have z0 := HKZ.out.cell 0; have z1 := HKZ.out.cell 1; have z2 := HKZ.out.cell 2; have z3 := HKZ.out.cell 3; have z4 := HKZ.out.cell 4; have z5 := HKZ.out.cell 5; have z6 := HKZ.out.cell 6
          simp at r0 r1 r2 r3 r4 r5 r6 z0 z1 z2 z3 z4 z5 z6
          go_wp2
          refine bodyPost_ret (ret_stp _ _ _ _ _ _ _ _ _ _ _ _ _ (blk7 HRZ.out) rfl) rfl ?_
          refine ⟨⟨.slice P2 k pc2, .slice Q2 k qc2, by rw [HPE.out, HFD.out]; rfl, ?_⟩, ?_⟩
          · rw [HPE.out]
            have hl1 : (x.arms.map Ar.pat).length = k := by rw [List.length_map]; exact HML.out
            have hl2 : (x.arms.map (fun a => (findS ss a.dst).toNat)).length = k := by rw [List.length_map]; exact HML.out
            have hq : OwnPQ wq (g5 + 1) ⟨1, [], x.arms.map Ar.pat, x.arms.map (fun a => (findS ss a.dst).toNat), x.n, findS ss x.dst⟩ (.slice P2 k pc2) (.slice Q2 k qc2) := by
              refine ⟨?_, ?_⟩
              · show OwnX wq (g5 + 1) _ (x.arms.map Ar.pat).length _
                rw [hl1]; exact HM.out.own
              · show OwnI wq (g5 + 1) _ (x.arms.map (fun a => (findS ss a.dst).toNat)).length _
                rw [hl2]; exact HM.out.ints
            refine (hq.keep fun i hi hl => ?_).low (by have := HG1.out; have := HG2.out; have := HGE.out; omega)
            have hgi : g5 + 1 ≤ i := by
              rcases hi with hi | hi
              · exact (World.ownsRow.lt hq.1 i hi).1
              · exact (World.ownsRow.lt hq.2 i hi).1
            have hne : i ≠ w1.heap.size := by have := HG2.out; have := HGE.out; omega
            rw [Below.heap_setCell _ _ _ _ hne, Below.heap_setCell _ _ _ _ hne, Below.heap_setCell _ _ _ _ hne, Below.heap_setCell _ _ _ _ hne, Below.heap_setCell _ _ _ _ hne, Below.heap_setCell _ _ _ _ hne, Below.heap_setCell _ _ _ _ hne]
          · exact bel7 (HB2.out.trans (HBZ.out.mono HB2.out.size)) (Nat.le_of_lt HG1.out) _ _ _ _ _ _ _
    · have e1 : (KK == 1) = false := by simp [h1]
      have HPE := keepHid (pst_rest (ss := ss) (show x.kind ≠ 0 by rw [HKK.out]; exact h0) (show x.kind ≠ 1 by rw [HKK.out]; exact h1))
      obtain ⟨wz, hwz⟩ : ∃ wz, wb = wz := ⟨_, rfl⟩
      subst hwz
      have HKZ := HK5
      have HBZ := HBW
      have HRZ := keepHid (HKR.out.below HBZ.out HKR.out.lt)
      have r0 := HRZ.out.cell 0; have r1 := HRZ.out.cell 1; have r2 := HRZ.out.cell 2; have r3 := HRZ.out.cell 3; have r4 := HRZ.out.cell 4; have r5 := HRZ.out.cell 5; have r6 := HRZ.out.cell 6; have rf := HRZ.out.frozen
      have z0 := HKZ.out.cell 0; have z1 := HKZ.out.cell 1; have z2 := HKZ.out.cell 2; have z3 := HKZ.out.cell 3; have z4 := HKZ.out.cell 4; have z5 := HKZ.out.cell 5; have z6 := HKZ.out.cell 6
      simp at r0 r1 r2 r3 r4 r5 r6 z0 z1 z2 z3 z4 z5 z6
      go_wp2_with fail
      try rw [hwz]
      go_wp2
      refine bodyPost_ret (ret_stp _ _ _ _ _ _ _ _ _ _ _ _ _ (blk7 HRZ.out) rfl) rfl ?_
      refine ⟨⟨.slice none 0 0, .slice none 0 0, by rw [HPE.out, HFD.out, HKK.out]; rfl, by rw [HPE.out]; exact ⟨World.ownsRow_nil _ _ _ _, World.ownsRow_nil _ _ _ _⟩⟩, ?_⟩
      exact bel7 (HB2.out.trans (HBZ.out.mono HB2.out.size)) (Nat.le_of_lt HG1.out) _ _ _ _ _ _ _


/-- What holds of a dialogue that is made into a Play. -/
structure OfOk (ss : List Sp) : Prop where
  few : 1 ≤ ss.length ∧ ss.length ≤ 64
  chk : ∀ i x, ss[i]? = some x → ChkOk ss i x
  text : ∀ x ∈ ss, x.text.length ≤ 1048576
  pats : ∀ x ∈ ss, ∀ a ∈ x.arms, a.pat.length ≤ 1048576
  kind : ∀ x ∈ ss, -9223372036854775808 ≤ x.kind ∧ x.kind ≤ 9223372036854775807
  n : ∀ x ∈ ss, -9223372036854775808 ≤ x.n ∧ x.n ≤ 1000000
theorem findG_le : ∀ (ls : List (List UInt8)) (l : List UInt8) (i : Nat), -1 ≤ findG ls l i ∧ findG ls l i < ((i + ls.length : Nat) : Int) ∨ ls = [] ∧ findG ls l i = -1
  | [], l, i => .inr ⟨rfl, rfl⟩
  | x :: r, l, i => by
    left
    unfold findG
    split
    · rw [List.length_cons]; omega
    · rw [List.length_cons]
      rcases findG_le r l (i + 1) with h | ⟨h1, h2⟩
      · omega
      · rw [h2]; omega
theorem findS_le (ss : List Sp) (l : List UInt8) (h : 1 ≤ ss.length) : -1 ≤ findS ss l ∧ findS ss l < (ss.length : Int) := by
  unfold findS
  split
  · omega
  · rcases findG_le (ss.map Sp.label) l 0 with h1 | ⟨h1, h2⟩
    · rw [List.length_map] at h1; omega
    · rw [h2]; omega
theorem psts_ok {ss : List Sp} (h : OfOk ss) : PstsOk (pstsO ss) := by
  have hl : (pstsO ss).length = ss.length := List.length_map _
  refine ⟨by rw [hl]; exact h.few, fun y hy => ?_⟩
  obtain ⟨x, hx, rfl⟩ := List.mem_map.1 hy
  obtain ⟨i, hi, hix⟩ := List.getElem_of_mem hx
  have hc := h.chk i x (by rw [List.getElem?_eq_getElem hi, hix])
  have hf := findS_le ss x.dst h.few.1
  rw [hl]
  refine ⟨h.kind x hx, hf, fun hk => ?_, fun a ha => ?_, h.n x hx, ?_, fun hk => ?_, ?_⟩
  · refine hc.tgt _ ?_
    have hk' : x.kind = 1 ∨ x.kind = 2 ∨ x.kind = 3 := hk
    unfold tgtS
    rcases hk' with e | e | e
    · rw [if_neg (by omega), if_pos e]; exact List.mem_cons_self
    · rw [if_pos (.inl e)]; exact List.mem_cons_self
    · rw [if_pos (.inr e)]; exact List.mem_cons_self
  · have ha' : a ∈ (if x.kind = 1 then x.arms.map (fun a => (findS ss a.dst).toNat) else []) := ha
    split at ha'
    · obtain ⟨r, hr, rfl⟩ := List.mem_map.1 ha'
      have := findS_le ss r.dst h.few.1
      have := h.few
      omega
    · cases ha'
  · unfold pstO
    dsimp only
    split
    · rw [List.length_map, List.length_map]
    · rfl
  · have hk' : x.kind = 1 := hk
    obtain ⟨h1, h2, qs, h3⟩ := hc.pat hk'
    have e : (pstO ss x).pats = x.arms.map Ar.pat := by show (if x.kind = 1 then _ else _) = _; rw [if_pos hk']
    rw [e, List.length_map]
    exact ⟨h1, h2, qs, h3⟩
  · show (if x.kind = 0 then x.text else []).length ≤ _
    split
    · exact h.text x hx
    · simp
/-- What Of brings. -/
def OfPost18 (xs : List Pst) (r : Pd × List UInt8) (w : World) (e : Ending) (w' : World) : Prop :=
  ∃ O' gp A k, e = .returned (.tuple #[.pointer (some ⟨gp, 0, none⟩), .slice A r.2.length k]) ∧ OwnB w' w.heap.size 5 (.slice A r.2.length k) r.2.length r.2 ∧ Ply w' O' gp xs r.1 ∧ (∀ b, O' b → w.heap.size ≤ b) ∧ (∀ ad, A = some ad → ¬ O' ad.block) ∧ Below w.heap.size w w'
theorem psts_at {ss : List Sp} {k : Nat} {x : Sp} (h : ss[k]? = some x) : (pstsO ss)[k]? = some (pstO ss x) := by
  unfold pstsO; rw [List.getElem?_map, h]; rfl
set_option maxRecDepth 100000 in
set_option maxHeartbeats 16000000 in
theorem of_any18 {ss : List Sp} (hOk : OfOk ss) (A : Option Addr) (n c : Nat) (hnc : n ≤ c) (hc9 : c ≤ 9223372036854775807) (w : World) (hS : StS w A n ss) :
    Calls Tryz.prog 8 #[.slice A n c] w (OfPost18 (pstsO ss) (ofP (pstsO ss)) w) := by
  have HCK := keepHid (dcheck_any ss hOk.few.1 hOk.few.2 hOk.chk A n c hnc hc9 w hS)
  have HS := keepHid hS
  have HN := keepHid hS.len
  have HOK := keepHid hOk
  have HXS := keepHid (psts_ok hOk)
  have hn64 : n ≤ 64 := by have := hOk.few; have := hS.len; omega
  have hn0 : 1 ≤ n := by have := hOk.few; have := hS.len; omega
  clear hS hOk
  go_enter Tryz.func8, Tryz.ntmps8
  go_wp2_with fail
  refine HCK.out.mono ?_
  rintro e w1 ⟨rfl, hb1⟩
  have HB1 := keepHid hb1
  have HS1 := keepHid (HS.out.below hb1 (Nat.le_refl _))
  obtain ⟨w2, hw2⟩ : ∃ w2, w1.alloc (.cells #[.slice none 0 0, .int .i64 0, .pointer none, .int .i64 0, .int .i64 0, .slice none 0 0] 57) = w2 := ⟨_, rfl⟩
  have hK2 : Blk w2 w1.heap.size 57 (plyC (.slice none 0 0) 0 (.pointer none) 0 0 (.slice none 0 0)) := by rw [← hw2]; exact Blk.new w1 _ _
  have hB2 : Below w1.heap.size w1 w2 := by rw [← hw2]; exact (Below.refl _ _).alloc (Nat.le_refl _) _
  have HK2 := keepHid hK2
  have HG : Hid (w.heap.size ≤ w1.heap.size) := keepHid hb1.size
  have HB2 := keepHid (hb1.trans (hB2.mono hb1.size))
  have HS2 := keepHid (HS1.out.below hB2 (Nat.le_refl _))
  clear hb1 hK2 hB2 HCK HS1
  go_wp2_with fail
  try rw [hw2]
  clear hw2
  generalize hgp : w1.heap.size = gp at *
  clear hgp
  go_wp2_with fail
  go_loopw [22] (fun iv wr => ∃ (k : Nat) (P : Option Addr) (pc : Nat), k ≤ n ∧ iv = .int .i64 (k : Int) ∧ Hid (Blk wr gp 57 (plyC (.slice P k pc) 0 (.pointer none) 0 0 (.slice none 0 0))) ∧ Hid (OwnZ wr (gp + 1) (.slice P k pc) k ((pstsO ss).take k)) ∧ Hid (Below w.heap.size w wr)) (fun iv _ => n - (intOf iv).toNat)
  case atStart => exact ⟨0, none, 0, Nat.zero_le _, rfl, HK2, keepHid (OwnZ.nil _ _), HB2⟩
  case round =>
    obtain ⟨k, P, pc, hk, rfl, HK, HO, HB⟩ := hrel
    generalize wr = wq at *
    by_cases hlt : k < n
    · obtain ⟨x, hx⟩ : ∃ x, ss[k]? = some x := ⟨_, List.getElem?_eq_getElem (by rw [HN.out]; exact hlt)⟩
      obtain ⟨ad, Pa, m, cc, rfl, hadl, a0, a1, a2, a3, a4, a5, a6, hA, hmc⟩ := (HS.out.below HB.out (Nat.le_refl _)).at_ hx
      have hxm := List.mem_of_getElem? hx
      have hk' : (k : Int) < (n : Int) := by omega
      have HTK : Hid ((pstsO ss).take (k + 1) = (pstsO ss).take k ++ [pstO ss x]) := keepHid (List.take_succ_of (psts_at hx))
      obtain ⟨w3, hw3⟩ : ∃ w3, wq.alloc (.cells #[.string (strB x.label), .int .i64 x.kind, .string (strB x.text), .slice Pa m cc, .int .i64 x.n, .string (strB x.dst), .int .i64 x.pos] 26) = w3 := ⟨_, rfl⟩
      have hK3 : Blk w3 wq.heap.size 26 #[.string (strB x.label), .int .i64 x.kind, .string (strB x.text), .slice Pa m cc, .int .i64 x.n, .string (strB x.dst), .int .i64 x.pos] := by rw [← hw3]; exact Blk.new wq _ _
      have hB3 : Below wq.heap.size wq w3 := by rw [← hw3]; exact (Below.refl _ _).alloc (Nat.le_refl _) _
      have HS3 := keepHid (HS.out.below (HB.out.trans (hB3.mono HB.out.size)) (Nat.le_refl _))
      have HA3 := keepHid (hA.below hB3 (Nat.le_refl _))
      have HKP := keepHid (HK.out.below hB3 HK.out.lt)
      have HO3 := keepHid (HO.out.below hB3)
      have HB3 := keepHid (HB.out.trans (hB3.mono HB.out.size))
      have hgl : gp < w3.heap.size := HKP.out.lt
      have HSP := keepHid (fun wx (hb : Below w3.heap.size w3 wx) => (stepOf_any ss x (some ad) n c Pa m cc (by have := (HOK.out.chk k x hx).few; have := hA.len; omega) (HOK.out.text x hxm) (HOK.out.pats x hxm) (fun hk1 a ha => (HOK.out.chk k x hx).tgt _ (by unfold tgtS; rw [if_neg (by omega), if_pos hk1]; exact List.mem_cons_of_mem _ (List.mem_map_of_mem ha))) wx (HS3.out.below hb (Nat.le_refl _)) (HA3.out.below hb (Nat.le_refl _))).mono (fun e w' (h : _ ∧ _) => (by
          obtain ⟨⟨P', Q', he, hq⟩, hbb⟩ := h
          obtain ⟨PA, pa, ep, _⟩ := own_val hq.1
          obtain ⟨QA, qa, eq, _⟩ := own_val hq.2
          refine ⟨⟨PA, pa, QA, qa, ?_, ?_⟩, hb.trans (hbb.mono hb.size)⟩
          · rw [he]; unfold stpV; rw [ep, eq]
          · rw [← ep, ← eq]
            exact hq.low (by have := hb.size; omega) : (∃ PA pa QA qa, e = .returned (.agg #[.int .i64 (pstO ss x).kind, .string (strB (pstO ss x).text), .slice PA (pstO ss x).pats.length pa, .slice QA (pstO ss x).arms.length qa, .int .i64 (pstO ss x).n, .int .i64 (pstO ss x).dst, .int .i64 0]) ∧ OwnPQ w' (gp + 1) (pstO ss x) (.slice PA (pstO ss x).pats.length pa) (.slice QA (pstO ss x).arms.length qa)) ∧ Below w3.heap.size w3 w')))
      obtain ⟨z, hz⟩ : ∃ z, pstO ss x = z := ⟨_, rfl⟩
      rw [hz] at HTK HSP
      obtain ⟨TZ, hTZ⟩ : ∃ X, strB z.text = X := ⟨_, rfl⟩
      rw [hTZ] at HSP
      have HTZ := keepHid hTZ
      have HNEW : Hid (∀ w7 PA pa QA qa, Below w3.heap.size w3 w7 → OwnPQ w7 (gp + 1) z (.slice PA z.pats.length pa) (.slice QA z.arms.length qa) →
          w7.cell? ⟨gp, 0, none⟩ = some (.slice P k pc) ∧ (w7.alloc (.cells #[.int .i64 z.kind, .string TZ, .slice PA z.pats.length pa, .slice QA z.arms.length qa, .int .i64 z.n, .int .i64 z.dst, .int .i64 0] 60)).cell? ⟨gp, 0, none⟩ = some (.slice P k pc) ∧
          OwnZ (w7.alloc (.cells #[.int .i64 z.kind, .string TZ, .slice PA z.pats.length pa, .slice QA z.arms.length qa, .int .i64 z.n, .int .i64 z.dst, .int .i64 0] 60)) (gp + 1) (.slice P k pc) k ((pstsO ss).take k) ∧
          OwnPQ (w7.alloc (.cells #[.int .i64 z.kind, .string TZ, .slice PA z.pats.length pa, .slice QA z.arms.length qa, .int .i64 z.n, .int .i64 z.dst, .int .i64 0] 60)) (gp + 1) z (.slice PA z.pats.length pa) (.slice QA z.arms.length qa) ∧
          (∀ j u, (stpL z (.slice PA z.pats.length pa) (.slice QA z.arms.length qa) 0)[j]? = some u → (w7.alloc (.cells #[.int .i64 z.kind, .string TZ, .slice PA z.pats.length pa, .slice QA z.arms.length qa, .int .i64 z.n, .int .i64 z.dst, .int .i64 0] 60)).cell? ((⟨w7.heap.size, 0, none⟩ : Addr).add j) = some u) ∧
          gp + 1 ≤ (w7.alloc (.cells #[.int .i64 z.kind, .string TZ, .slice PA z.pats.length pa, .slice QA z.arms.length qa, .int .i64 z.n, .int .i64 z.dst, .int .i64 0] 60)).heap.size ∧
          ∀ G cap w9, OwnZ w9 (gp + 1) (.slice (some ⟨G, 0, none⟩) (k + 1) cap) (k + 1) ((pstsO ss).take k ++ [z]) → Below (gp + 1) (w7.alloc (.cells #[.int .i64 z.kind, .string TZ, .slice PA z.pats.length pa, .slice QA z.arms.length qa, .int .i64 z.n, .int .i64 z.dst, .int .i64 0] 60)) w9 →
            w9.cell? ⟨gp, 0, none⟩ = some (.slice P k pc) ∧ w9.frozen? ⟨gp, 0, none⟩ = false ∧ Blk (w9.setCell ⟨gp, 0, none⟩ (.slice (some ⟨G, 0, none⟩) (k + 1) cap)) gp 57 (plyC (.slice (some ⟨G, 0, none⟩) (k + 1) cap) 0 (.pointer none) 0 0 (.slice none 0 0)) ∧
            OwnZ (w9.setCell ⟨gp, 0, none⟩ (.slice (some ⟨G, 0, none⟩) (k + 1) cap)) (gp + 1) (.slice (some ⟨G, 0, none⟩) (k + 1) cap) (k + 1) ((pstsO ss).take (k + 1)) ∧ Below w.heap.size w (w9.setCell ⟨gp, 0, none⟩ (.slice (some ⟨G, 0, none⟩) (k + 1) cap))) := keepHid (fun w7 PA pa QA qa hb hpq => by
        have hb' := hb.alloc hb.size (.cells #[.int .i64 z.kind, .string TZ, .slice PA z.pats.length pa, .slice QA z.arms.length qa, .int .i64 z.n, .int .i64 z.dst, .int .i64 0] 60)
        have h7 := HKP.out.below hb HKP.out.lt
        have h8 := HKP.out.below hb' HKP.out.lt
        refine ⟨h7.cell 0, h8.cell 0, HO3.out.below hb', hpq.below ((Below.refl _ _).alloc (Nat.le_refl _) _), ?_, by have := hb'.size; omega, fun G cap w9 q1 q2 => ?_⟩
        · have := World.news_of_block (cs := #[.int .i64 z.kind, .string TZ, .slice PA z.pats.length pa, .slice QA z.arms.length qa, .int .i64 z.n, .int .i64 z.dst, .int .i64 0]) (Blk.new w7 60 _)
          unfold stpL
          rw [HTZ.out]
          exact this
        · have h9 := h8.below q2 (Nat.lt_succ_self _)
          refine ⟨h9.cell 0, h9.frozen 0, h9.put 0 _, ?_, ?_⟩
          · rw [HTK.out]
            exact q1.keep fun i hi hl => Below.heap_setCell w9 _ _ i (by show i ≠ gp; omega)
          · have hgw : w.heap.size ≤ gp := HG.out
            exact ((HB3.out.trans (hb'.mono HB3.out.size)).trans (q2.mono (by omega))).setCell (p := ⟨gp, 0, none⟩) hgw _)
      have i0 : w3.cell? ⟨gp, 0, none⟩ = some (.slice P k pc) := HKP.out.cell 0
      have b0 := hK3.cell 0; have b1 := hK3.cell 1; have b2 := hK3.cell 2; have b3 := hK3.cell 3; have b4 := hK3.cell 4; have b5 := hK3.cell 5; have b6 := hK3.cell 6
      simp at b0 b1 b2 b3 b4 b5 b6
      have h96 : (k + 1) * 96 ≤ 140737488355328 := by omega
      have HW3 := keepHid hw3
      clear hx hxm hadl hA hmc hK3 hB3 HK HO hz hTZ hgl hw3
      generalize strB x.label = LB at *
      generalize strB x.text = TX at *
      generalize strB x.dst = DD at *
      go_upto_region 8 with fail
      try rw [HW3.out]
      clear a0 a1 a2 a3 a4 a5 a6 HW3
      go_region_law (first
        | (go_simp; go_at_call 18; (with_reducible refine (HSP.out _ (by first | exact Below.refl _ _ | exact (Below.refl _ _).drew | exact (Below.refl _ _).drew.drew)).mono ?_); rintro e w7 ⟨⟨PA, pa, QA, qa, rfl, hpq⟩, hb7⟩; obtain ⟨g0, g1, ho, hp, hc, hl, hf⟩ := HNEW.out w7 PA pa QA qa hb7 hpq; have HO7 := keepHid ho; have HP7 := keepHid hp; have HC7 := keepHid hc; have HL7 := keepHid hl; have HF7 := keepHid hf; clear hb7 hpq ho hp hc hl hf)
        | ((refine step_append_stp rfl (.tmp 30) (.tmp 34) rfl (gp + 1) (.slice P k pc) k _ (by simp [Act.eval]) HO7.out ⟨w7.heap.size, 0, none⟩ (by simp [Act.eval]) z _ _ HP7.out HC7.out h96 HL7.out ?_); intro G9 cap9 w9 q1 q2; obtain ⟨f0, f1, hp9⟩ := HF7.out G9 cap9 w9 q1 q2; have HP9 := keepHid hp9; clear q1 q2 hp9))
      all_goals
        go_wp2
        go_roundw
        case rel => exact ⟨k + 1, some ⟨G9, 0, none⟩, cap9, by omega, by go_num, keepHid HP9.out.1, keepHid HP9.out.2.1, keepHid HP9.out.2.2⟩
        case measure => simp [intOf]; omega
    · obtain rfl : k = n := by omega
      have hall : (pstsO ss).take k = pstsO ss := List.take_of_length_le (by unfold pstsO; rw [List.length_map, HN.out]; exact Nat.le_refl _)
      rw [hall] at HO
      obtain ⟨gs, cap, ev, hgs, hgl, hxl, hkc, hcm, hst⟩ := HO.out.stps hn0
      have hcm' : cap ≤ 9223372036854775807 := by unfold maxLen at hcm; exact hcm
      have HM : Hid (PlyM wq gp wq.heap.size gs cap (pstsO ss) 0 (.pointer none) 0 (List.replicate (pstsO ss).length 0) (.slice none 0 0) []) := keepHid (by
        refine ⟨?_, hst, World.ownsRow_nil _ _ _ _, ⟨by omega, hgl, Nat.le_refl _⟩, ⟨by rw [hxl]; exact hkc, hcm'⟩⟩
        rw [hxl, ← ev]
        exact HK.out)
      have HRN := keepHid (run_any18 HXS.out HM.out (CntOk.zero _) 0 (Nat.zero_le _))
      clear hall ev hgs hgl hxl hkc hcm hst hcm'
      rw [show ((0 : Nat) : Int) = 0 from rfl] at HRN
      go_wp2_with fail
      refine HRN.out.mono ?_
      rintro e w4 hr
      have HR4 := keepHid hr
      obtain ⟨⟨A5, k5, he, hx5⟩, hy5⟩ := hr
      subst he
      clear hx5 hy5 HRN
      go_wp2
      go_ret2
      obtain ⟨O', A6, k6, he, ho, hp, h1, h2, h3⟩ := go_post (p := pd0 (pstsO ss)) HR4.out HM.out.base (fun b e => by cases e)
      have hbz := HB.out
      have hgz := HG.out
      refine ⟨O', gp, A6, k6, ?_, own_low ho hbz.size, hp, fun b hb => ?_, h2, ?_⟩
      · injection he with he
        rw [he]; rfl
      · rcases h1 b hb with h | h | h
        · omega
        · cases h
        · exact Nat.le_trans hbz.size h
      · exact hbz.trans (h3.below (fun b e => by have := HM.out.base; omega) hbz.size)


def pwA : Sp := ⟨[97], 0, [120], [], 0, [], 0⟩
def pwB : Sp := ⟨[], 1, [], [⟨[121], [98]⟩], 2, [97], 0⟩
def pwC : Sp := ⟨[98], 4, [], [], 0, [], 0⟩
def pwS : List Sp := [pwA, pwB, pwC]
def pwM : List UInt8 := [97, 58, 32, 115, 101, 110, 100, 32, 34, 120, 34, 59, 32, 101, 120, 112, 101, 99, 116, 32, 34, 121, 34, 32, 103, 111, 32, 98, 32, 97, 102, 116, 101, 114, 32, 50, 32, 103, 111, 32, 97, 59, 32, 98, 58, 32, 100, 111, 110, 101, 59]
theorem pw_isw1 {c : UInt8} (h : letL.contains c = true) : IsW [c] := ⟨c, [], rfl, h, fun b hb => by cases hb⟩
theorem pwA_tell : TellS pwA := ⟨.inr (pw_isw1 (by decide)), by decide, ⟨[120], by decide⟩, rfl, rfl, rfl⟩
theorem pwB_tell : TellS pwB := ⟨.inl rfl, by decide, rfl, ⟨by decide, fun a ha => by
  obtain rfl : a = ⟨[121], [98]⟩ := by simpa [pwB] using ha
  exact ⟨⟨[121], by decide⟩, pw_isw1 (by decide)⟩⟩, by decide, pw_isw1 (by decide)⟩
theorem pwC_tell : TellS pwC := ⟨.inr (pw_isw1 (by decide)), by decide, rfl, rfl, rfl, rfl⟩
theorem pw_two : numL 10 2 = [50] := by
  show digL 10 2 = _
  rw [digL_lt (by omega)]; rfl
theorem pwB_body : bodyS pwB = [101, 120, 112, 101, 99, 116, 32, 34, 121, 34, 32, 103, 111, 32, 98, 32, 97, 102, 116, 101, 114, 32, 50, 32, 103, 111, 32, 97, 59] := by
  have e : bodyS pwB = dExpect ++ ([32] ++ armsL [⟨[121], [98]⟩] ++ cAfter ++ numL 10 2 ++ cGo ++ [97] ++ [59]) := rfl
  rw [e, pw_two]; rfl
theorem pw_read : ∃ xs, parseD pwM = .ok xs ∧ xs.map noPos = pwS.map noPos := by
  refine read_cut (ss := pwS) (fun x hx => ?_) ?_
  · have : x = pwA ∨ x = pwB ∨ x = pwC := by simpa [pwS] using hx
    rcases this with rfl | rfl | rfl
    · exact pwA_tell
    · exact pwB_tell
    · exact pwC_tell
  · have h := (cut_bodyS pwA_tell).app (cut_sp.app ((cut_bodyS pwB_tell).app (cut_sp.app (cut_bodyS pwC_tell) (fun h => by cases h)) (fun h => by cases h)) (fun h => by cases h)) (fun h => by cases h)
    have e : bodyS pwA ++ ([32] ++ (bodyS pwB ++ ([32] ++ bodyS pwC))) = pwM := by rw [pwB_body]; rfl
    rw [e] at h
    have e2 : skS pwA ++ ([] ++ (skS pwB ++ ([] ++ skS pwC))) = pwS.flatMap skS := by simp [pwS]
    rw [e2] at h
    exact h
theorem pw_nopos {x y : Sp} (h : noPos x = noPos y) : x = { y with pos := x.pos } := by
  obtain ⟨a, b, c, d, e, f, g⟩ := x
  obtain ⟨a', b', c', d', e', f', g'⟩ := y
  unfold noPos at h
  injection h with h1 h2 h3 h4 h5 h6
  subst h1 h2 h3 h4 h5 h6
  rfl
def pwP (p q r : Int) : List Sp := [{ pwA with pos := p }, { pwB with pos := q }, { pwC with pos := r }]
theorem pw_three {xs : List Sp} (h : xs.map noPos = pwS.map noPos) : ∃ p q r : Int, xs = pwP p q r := by
  have hl : xs.length = 3 := by have := congrArg List.length h; simpa [pwS] using this
  obtain ⟨a, b, c, rfl⟩ : ∃ a b c, xs = [a, b, c] := by
    cases xs with
    | nil => cases hl
    | cons a xs => cases xs with
      | nil => cases hl
      | cons b xs => cases xs with
        | nil => cases hl
        | cons c xs => cases xs with
          | nil => exact ⟨a, b, c, rfl⟩
          | cons d xs => simp at hl
  have h' : [noPos a, noPos b, noPos c] = [noPos pwA, noPos pwB, noPos pwC] := h
  injection h' with h1 h'
  injection h' with h2 h'
  injection h' with h3 _
  exact ⟨a.pos, b.pos, c.pos, by unfold pwP; rw [← pw_nopos h1, ← pw_nopos h2, ← pw_nopos h3]⟩
theorem of9_one {l : List UInt8} (h : (match pat9 l with | .inl _ => true | .inr _ => false) = true) : ∃ qs, of9 [l] = .inl qs := by
  cases hp : pat9 l with
  | inl r => exact ⟨[r], by simp [of9, hp]⟩
  | inr v => rw [hp] at h; cases h
def pwX : List Pst := [⟨0, [120], [], [], 0, -1⟩, ⟨1, [], [[121]], [2], 2, 0⟩, ⟨4, [], [], [], 0, -1⟩]
theorem pw97 (p q r : Int) : findS (pwP p q r) [97] = 0 := by
  show (if ([97] : List UInt8) = [] then (-1 : Int) else findG [[97], [], [98]] [97] 0) = 0
  decide
theorem pw98 (p q r : Int) : findS (pwP p q r) [98] = 2 := by
  show (if ([98] : List UInt8) = [] then (-1 : Int) else findG [[97], [], [98]] [98] 0) = 2
  decide
theorem pw_psts (p q r : Int) : pstsO (pwP p q r) = pwX := by
  have h97 := pw97 p q r
  have h98 := pw98 p q r
  have h0 : findS (pwP p q r) [] = -1 := by unfold findS; rw [if_pos rfl]
  have e : pstsO (pwP p q r) = [pstO (pwP p q r) { pwA with pos := p }, pstO (pwP p q r) { pwB with pos := q }, pstO (pwP p q r) { pwC with pos := r }] := rfl
  rw [e]
  generalize pwP p q r = ss at *
  have e1 : pstO ss { pwA with pos := p } = ⟨0, [120], [], [], 0, -1⟩ := by
    show (⟨0, [120], [], [], 0, findS ss []⟩ : Pst) = _
    rw [h0]
  have e2 : pstO ss { pwB with pos := q } = ⟨1, [], [[121]], [2], 2, 0⟩ := by
    show (⟨1, [], [[121]], [(findS ss [98]).toNat], 2, findS ss [97]⟩ : Pst) = _
    rw [h97, h98]; rfl
  have e3 : pstO ss { pwC with pos := r } = ⟨4, [], [], [], 0, -1⟩ := by
    show (⟨4, [], [], [], 0, findS ss []⟩ : Pst) = _
    rw [h0]
  rw [e1, e2, e3]
  rfl
theorem pw_ok (p q r : Int) : OfOk (pwP p q r) := by
  have h97 := pw97 p q r
  have h98 := pw98 p q r
  refine ⟨⟨by show 1 ≤ 3; omega, by show 3 ≤ 64; omega⟩, fun i x hx => ?_, fun x hx => ?_, fun x hx a ha => ?_, fun x hx => ?_, fun x hx => ?_⟩
  · have hi : i < 3 := (List.getElem?_eq_some_iff.1 hx).1
    rcases (by omega : i = 0 ∨ i = 1 ∨ i = 2) with rfl | rfl | rfl
    · obtain rfl := Option.some.inj hx
      exact ⟨(show (if ([97] : List UInt8) = [] then (-1 : Int) else findG [] [97] 0) < 0 by decide), (fun h => absurd (show (0 : Int) = 1 from h) (by decide)), Nat.zero_le _, (fun t ht => by cases (show t ∈ ([] : List (List UInt8)) from ht))⟩
    · obtain rfl := Option.some.inj hx
      refine ⟨(show (if ([] : List UInt8) = [] then (-1 : Int) else findG [[97]] [] 0) < 0 by decide), fun _ => ⟨by show 1 ≤ 1; omega, by show 1 ≤ 8; omega, of9_one (l := [121]) (by decide +kernel)⟩, by show 1 ≤ 1000000; omega, fun t ht => ?_⟩
      have ht' : t ∈ ([[97], [98]] : List (List UInt8)) := ht
      rcases List.mem_cons.1 ht' with rfl | ht'
      · rw [h97]; decide
      · obtain rfl : t = [98] := by simpa using ht'
        rw [h98]; decide
    · obtain rfl := Option.some.inj hx
      exact ⟨(show (if ([98] : List UInt8) = [] then (-1 : Int) else findG [[97], []] [98] 0) < 0 by decide), (fun h => absurd (show (4 : Int) = 1 from h) (by decide)), Nat.zero_le _, (fun t ht => by cases (show t ∈ ([] : List (List UInt8)) from ht))⟩
  all_goals
    have h3 : x = { pwA with pos := p } ∨ x = { pwB with pos := q } ∨ x = { pwC with pos := r } := by simpa [pwP] using hx
  · rcases h3 with rfl | rfl | rfl
    · exact (by decide : (1 : Nat) ≤ 1048576)
    · exact (by decide : (0 : Nat) ≤ 1048576)
    · exact (by decide : (0 : Nat) ≤ 1048576)
  · rcases h3 with rfl | rfl | rfl
    · cases ha
    · obtain rfl : a = ⟨[121], [98]⟩ := by simpa [pwB] using ha
      decide
    · cases ha
  · rcases h3 with rfl | rfl | rfl
    · exact (by decide : -9223372036854775808 ≤ (0 : Int) ∧ (0 : Int) ≤ 9223372036854775807)
    · exact (by decide : -9223372036854775808 ≤ (1 : Int) ∧ (1 : Int) ≤ 9223372036854775807)
    · exact (by decide : -9223372036854775808 ≤ (4 : Int) ∧ (4 : Int) ≤ 9223372036854775807)
  · rcases h3 with rfl | rfl | rfl
    · exact (by decide : -9223372036854775808 ≤ (0 : Int) ∧ (0 : Int) ≤ 1000000)
    · exact (by decide : -9223372036854775808 ≤ (2 : Int) ∧ (2 : Int) ≤ 1000000)
    · exact (by decide : -9223372036854775808 ≤ (0 : Int) ∧ (0 : Int) ≤ 1000000)
theorem pw_of : ofP pwX = (⟨1, [0, 0, 0], 2, 0, [], []⟩, [120]) := by decide +kernel
theorem pw_tick1 : tickP pwX ⟨1, [0, 0, 0], 2, 0, [], []⟩ = (⟨1, [0, 0, 0], 1, 0, [], []⟩, []) := by decide +kernel
theorem pw_tick2 : tickP pwX ⟨1, [0, 0, 0], 1, 0, [], []⟩ = (⟨1, [0, 0, 0], 2, 0, [], []⟩, [120]) := by decide +kernel
theorem pw_put : putP pwX ⟨1, [0, 0, 0], 2, 0, [], []⟩ 121 = (⟨2, [0, 0, 0], 0, 1, [0], []⟩, []) := by decide +kernel
theorem pw_xs : PstsOk pwX := by rw [← pw_psts 0 0 0]; exact psts_ok (pw_ok 0 0 0)
set_option maxRecDepth 100000 in
set_option maxHeartbeats 8000000 in
theorem awake_any (w : World) (hE : Errs w) : Calls Tryz.prog 7 #[] w fun e w' => e = .returned (.bool true) ∧ Below w.heap.size w w' := by
  have HC := keepHid (show Calls Tryz.prog 16 #[.string ⟨#[97, 58, 32, 115, 101, 110, 100, 32, 34, 120, 34, 59, 32, 101, 120, 112, 101, 99, 116, 32, 34, 121, 34, 32, 103, 111, 32, 98, 32, 97, 102, 116, 101, 114, 32, 50, 32, 103, 111, 32, 97, 59, 32, 98, 58, 32, 100, 111, 110, 101, 59]⟩] w (DParsePost pwM w) from dparse_any pwM (by decide) w hE)
  clear hE
  obtain ⟨xs, hr, hn⟩ := pw_read
  obtain ⟨p, q, r, rfl⟩ := pw_three hn
  have HR := keepHid hr
  clear hr hn
  go_enter Tryz.func7, Tryz.ntmps7
  go_wp2_with fail
  refine HC.out.mono ?_
  rintro e w1 ⟨⟨x, hx, rfl⟩ | ⟨ss, A, n, c, hss, rfl, hown⟩, hb1⟩
  · rw [HR.out] at hx; cases hx
  rw [HR.out] at hss
  injection hss with hss
  subst hss
  obtain ⟨A', c', e0, hc1, hc2, _⟩ := hown.form
  obtain ⟨rfl, rfl⟩ : A = A' ∧ c = c' := by injection e0 with e1 e2 e3; exact ⟨e1, e3⟩
  have HOF := keepHid (of_any18 (pw_ok p q r) A n c hc1 hc2 w1 hown.sts)
  rw [pw_psts, pw_of] at HOF
  have HB1 := keepHid hb1
  clear e0 hc1 hc2 hown hb1 HC
  go_wp2_with fail
  refine HOF.out.mono ?_
  rintro e w2 ⟨O2, gp, A2, k2, rfl, ho2, hp2, hl2, ha2, hb2⟩
  have HP2 := keepHid hp2
  have HS2 : Hid (Snt w2 O2 A2 1 [120]) := keepHid ⟨ho2.bys2, fun _ ad e => ha2 ad e⟩
  have HB2 := keepHid (HB1.out.trans (hb2.mono HB1.out.size))
  have HL2 : Hid (∀ b, O2 b → w.heap.size ≤ b) := keepHid (fun b hb => Nat.le_trans HB1.out.size (hl2 b hb))
  have hk2 := (of_ok pw_xs).1
  rw [pw_of] at hk2
  have HT1 := keepHid (tick_ply pw_xs hp2 hk2 (by decide))
  have hk3 := (tick_ok pw_xs hk2).1
  dsimp only at hk3 HT1
  rw [pw_tick1] at hk3 HT1
  have HK3 := keepHid hk3
  clear ho2 hp2 hl2 ha2 hb2 hk2 hk3 HOF
  dsimp only [List.length_cons, List.length_nil]
  go_wp2_with fail
  refine HT1.out.mono ?_
  intro e w3 hp3
  obtain ⟨O3, A3, k3, rfl, h3⟩ := hp3.out
  clear hp3
  have H3 := keepHid h3
  have HB3 := keepHid (HB2.out.trans (h3.below HL2.out HB2.out.size))
  have HL3 := keepHid (h3.low HL2.out HB2.out.size)
  have HS3 := keepHid (HS2.out.next h3.turn h3.sub)
  have HT2 := keepHid (tick_ply pw_xs h3.ply HK3.out (by decide))
  have hk4 := (tick_ok pw_xs HK3.out).1
  dsimp only at hk4 HT2
  rw [pw_tick2] at hk4 HT2
  have HK4 := keepHid hk4
  clear h3 hk4 HT1
  go_wp2_with fail
  refine HT2.out.mono ?_
  intro e w4 hp4
  obtain ⟨O4, A4, k4, rfl, h4⟩ := hp4.out
  clear hp4
  have H4 := keepHid h4
  have HB4 := keepHid (HB3.out.trans (h4.below HL3.out HB3.out.size))
  have HL4 := keepHid (h4.low HL3.out HB3.out.size)
  have HS4 := keepHid (HS3.out.next h4.turn h4.sub)
  have HU4 : Hid (Snt w4 O4 A4 1 [120]) := keepHid h4.snt
  have HPU := keepHid (show Calls Tryz.prog 14 #[.pointer (some ⟨gp, 0, none⟩), .int .u8 121] w4 _ from put_ply pw_xs h4.ply HK4.out (by decide) (by decide) 121)
  rw [pw_put] at HPU
  clear h4 HT2
  go_wp2_with fail
  refine HPU.out.mono ?_
  intro e w5 hp5
  obtain ⟨O5, A5, k5, rfl, h5⟩ := hp5.out
  clear hp5
  have HB5 := keepHid (HB4.out.trans (h5.below HL4.out HB4.out.size))
  have hs5 := HS4.out.next h5.turn h5.sub
  have hu5 := HU4.out.next h5.turn h5.sub
  have cv1 := fun c => run_str (c := c) 31 5 9 Tryz.underlying31 Tryz.underlying5 Tryz.underlying9 hs5.bys
  have cv2 := fun c => run_str (c := c) 31 5 9 Tryz.underlying31 Tryz.underlying5 Tryz.underlying9 hu5.bys
  have HST := keepHid (state_any18 h5.ply)
  have HAT := keepHid (at_any18 h5.ply)
  dsimp only at HST HAT
  clear hs5 hu5 h5 HPU
  have hq : ((strB [120]).toList == [120]) = true := by rw [strB_toList]; rfl
  rw [show ((1 : Nat) : Int) = 1 from rfl] at HST
  rw [show ((2 : Nat) : Int) = 2 from rfl] at HAT
  dsimp only [List.length_nil]
  go_wp2_with (first | ((with_reducible refine HST.out.mono ?_); rintro e w6 ⟨rfl, rfl⟩) | ((with_reducible refine HAT.out.mono ?_); rintro e w6 ⟨rfl, rfl⟩))
  go_ret
  exact ⟨rfl, HB5.out⟩
end Go.Proofs.YtgndcgknedmalaaGreatDoor
