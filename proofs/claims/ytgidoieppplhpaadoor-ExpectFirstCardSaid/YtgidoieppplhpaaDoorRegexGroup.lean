/-
  The reader of patterns: a pattern in brackets.
-/
import Derived.Test.YtgidoieppplhpaaDoorRegexClone
import Derived.WalkKit
import Derived.OwnWalk
import Derived.ProofKit
import Derived.WalkLawsBesides
import Derived.IntWalk
import Derived.RegionTactic
import Derived.BigRegion
import Derived.ChangeAlike
import Derived.Deep.QuietTactic
import Derived.BigQuiet
import Derived.Deep.RegionHeld3
import Derived.Deep.DrawnRows
import Derived.Outline
import Derived.Deep.DeepCutAuto
namespace Go.Proofs.YtgidoieppplhpaaDoor
open Go.RowKit
set_option linter.unusedVariables false





def Spec (f : FuncId) (d : Nat) (F : List UInt8 → R Re) : Prop := ∀ (g : Nat) (bs : List UInt8) (i : Nat) (w : World), Ps w g bs i d → Calls Tryd.prog f #[.pointer (some ⟨g, 0, none⟩)] w (ReadPost g bs d (F (bs.drop i)) w)
def Spec1 (f : FuncId) (d : Nat) (F : List UInt8 → R Re) : Prop := ∀ (g : Nat) (bs : List UInt8) (i : Nat) (w : World), Ps w g bs i d → i < bs.length → Calls Tryd.prog f #[.pointer (some ⟨g, 0, none⟩)] w (ReadPost g bs d (F (bs.drop i)) w)
theorem node_new {w w1 : World} (h : w.alloc (.cells #[.int .i64 0, .int .u64 0, .int .u64 0, .int .u64 0, .int .u64 0, .slice none 0 0] 32) = w1) : Blk w1 w.heap.size 32 nd0 := by rw [← h]; exact Blk.new _ _ _
theorem Went.drew {g d : Nat} {bs r : List UInt8} {a w : World} (h : Went g bs d r a w) : Went g bs d r a w.drew := ⟨by obtain ⟨i, hi, hp⟩ := h.at_; exact ⟨i, hi, hp.drewN 1⟩, h.only.drew⟩
set_option maxHeartbeats 2000000 in
theorem group_full (g : Nat) (bs : List UInt8) (i : Nat) (w : World) (h : Ps w g bs i 6) :
    Calls Tryd.prog 66 #[.pointer (some ⟨g, 0, none⟩)] w (ReadPost g bs 6 (none, bs.drop i) w) := by
  obtain ⟨w1, hw1⟩ : ∃ w1, w.alloc (.cells #[.int .i64 0, .int .u64 0, .int .u64 0, .int .u64 0, .int .u64 0, .slice none 0 0] 32) = w1 := ⟨_, rfl⟩
  have HG := keepHid h.lt
  have hp1 : Ps w1 g bs i 6 := by rw [← hw1]; exact h.alloc _
  have hz1 := node_new hw1
  have HO1 : Hid (Only g w w1) := keepHid (by rw [← hw1]; exact (Only.refl w g).alloc _)
  have HP1 := keepHid hp1
  obtain ⟨c0, c1, c2, cf⟩ := hp1.cells
  obtain ⟨z0, z1, z2, z3, z4, z5, zf⟩ := blk6 hz1
  clear h hp1 hz1
  go_enter Tryd.func66, Tryd.ntmps66
  go_wp2
  refine bodyPost_ret (v := .tuple #[hdV hd0, .bool false]) (by rw [results_cell_tmp rfl]; go_simp; rfl) rfl ⟨hd0, false, rfl, (fun h => by cases h), (fun _ => rfl), ?_⟩
  have k1 : Went g bs 6 (bs.drop i) w w1 := ⟨⟨i, rfl, HP1.out⟩, HO1.out⟩
  exact k1.six (by have := HG.out; omega) (Nat.le_refl _) _ _ _ _ _ _
set_option maxHeartbeats 800000 in
theorem group_less (d : Nat) (alt : List UInt8 → R Re) (hd : d < 6) (H : Spec 27 (d + 1) alt) : Spec1 66 d (grpF alt) := by
  intro g bs i w h hlt
  obtain ⟨w1, hw1⟩ : ∃ w1, w.alloc (.cells #[.int .i64 0, .int .u64 0, .int .u64 0, .int .u64 0, .int .u64 0, .slice none 0 0] 32) = w1 := ⟨_, rfl⟩
  have HG := keepHid h.lt
  have hp1 : Ps w1 g bs i d := by rw [← hw1]; exact h.alloc _
  have HZ1 := keepHid (node_new hw1)
  have HO1 : Hid (Only g w w1) := keepHid (by rw [← hw1]; exact (Only.refl w g).alloc _)
  have HP1 := keepHid hp1
  have HH := keepHid H
  obtain ⟨c0, c1, c2, cf⟩ := hp1.cells
  have hm : bs.length ≤ 64 := h.max
  have hd2 : ((d : Int) == 6) = false := by simp; omega
  have hd3 : ¬ (d : Int) = 6 := by omega
  have hd4 : (d : Int) < 6 := by omega
  have HTL : Hid (bs.drop (i + 1) = (bs.drop i).tail) := keepHid (by rw [List.tail_drop])
  have HLT := keepHid hlt
  clear h hp1 H
  go_enter Tryd.func66, Tryd.ntmps66
  go_wp2_with fail
  have hp2 := (HP1.out.put (i + 1) HLT.out).deep (d + 1)
  have ho2 := (HO1.out.setCell (p := ⟨g, 1, none⟩) (.inl rfl) (.int .i64 ((i + 1 : Nat) : Int))).setCell (p := ⟨g, 2, none⟩) (.inl rfl) (.int .i64 ((d + 1 : Nat) : Int))
  have hz2 := (HZ1.out.far (p := ⟨g, 1, none⟩) (by have := HG.out; show w.heap.size ≠ g; omega) (.int .i64 ((i + 1 : Nat) : Int))).far (p := ⟨g, 2, none⟩) (by have := HG.out; show w.heap.size ≠ g; omega) (.int .i64 ((d + 1 : Nat) : Int))
  have e1 : ((i + 1 : Nat) : Int) = (i : Int) + 1 := by omega
  have e2 : ((d + 1 : Nat) : Int) = (d : Int) + 1 := by omega
  rw [e1, e2] at hp2 ho2 hz2
  have HP2 := keepHid hp2
  have HO2 := keepHid ho2
  have HZ2 := keepHid hz2
  clear hp2 ho2 e1 e2 hz2 c0 c1 c2 cf hw1
  generalize (w1.setCell ⟨g, 1, none⟩ (.int .i64 ((i : Int) + 1))).setCell ⟨g, 2, none⟩ (.int .i64 ((d : Int) + 1)) = w2 at *
  refine (HH.out g bs (i + 1) w2 HP2.out).mono ?_
  rintro e w3 ⟨n, ok, rfl, hok, hno, ⟨j3, hj3, hp3⟩, ho3⟩
  rw [HTL.out] at hok hno hj3
  have hzl : w.heap.size < w2.heap.size := HZ2.out.lt
  have hgg : g < w.heap.size := HG.out
  have HO3 := keepHid (HO2.out.trans ho3)
  have HZ3 := keepHid (HZ2.out.only ho3 (by intro e; injection e; omega))
  have HP3 := keepHid hp3
  have HJ3 := keepHid hj3
  have hz3l := HZ3.out.lt
  obtain ⟨w4, hw4⟩ : ∃ w4, w3.alloc (.cells #[.int .i64 n.k, .int .u64 (n.s.a.toNat : Int), .int .u64 (n.s.b.toNat : Int), .int .u64 (n.s.c.toNat : Int), .int .u64 (n.s.d.toNat : Int), .slice n.A n.n n.c] 32) = w4 := ⟨_, rfl⟩
  have HP4 : Hid (Ps w4 g bs j3 (d + 1)) := keepHid (by rw [← hw4]; exact HP3.out.alloc _)
  have HO4 : Hid (Only g w w4) := keepHid (by rw [← hw4]; exact HO3.out.alloc _)
  have HZ4 : Hid (Blk w4 w.heap.size 32 nd0) := keepHid (by rw [← hw4]; exact HZ3.out.alloc _)
  have HN4 : Hid (Blk w4 w3.heap.size 32 (hdC n)) := keepHid (by rw [← hw4]; exact Blk.new _ _ _)
  have hb34 : Below w3.heap.size w3 w4 := by rw [← hw4]; exact (Below.refl _ _).alloc (Nat.le_refl _) _
  have HOK : Hid (ok = true → ∃ r, (alt (bs.drop i).tail).1 = some r ∧ IsRe w4 (w.heap.size + 1) n r) := keepHid (fun h => by obtain ⟨r, h1, h2⟩ := hok h; exact ⟨r, h1, (h2.below hb34).low (by omega)⟩)
  have HNO := keepHid hno
  obtain ⟨c0, c1, c2, cf⟩ := HP4.out.cells
  have e2 : ((d + 1 : Nat) : Int) = (d : Int) + 1 := by omega
  rw [e2] at c2
  clear e2 hok hno hj3 hp3 ho3 hzl hb34
  unfold hdV
  go_wp2_with fail
  have hp5 := HP4.out.deep d
  have ho5 := HO4.out.setCell (p := ⟨g, 2, none⟩) (.inl rfl) (.int .i64 (d : Int))
  have hz5 := HZ4.out.far (p := ⟨g, 2, none⟩) (by show w.heap.size ≠ g; omega) (.int .i64 (d : Int))
  have hn5 := HN4.out.far (p := ⟨g, 2, none⟩) (by show w3.heap.size ≠ g; omega) (.int .i64 (d : Int))
  have hok5 : ok = true → ∃ r, (alt (bs.drop i).tail).1 = some r ∧ IsRe (w4.setCell ⟨g, 2, none⟩ (.int .i64 (d : Int))) (w.heap.size + 1) n r := fun h => by
    obtain ⟨r, h1, h2⟩ := HOK.out h
    exact ⟨r, h1, h2.keep fun j hj _ => heap_setCell_other _ _ _ _ (by show j ≠ g; omega)⟩
  clear hw4 c0 c1 c2 cf
  generalize w4.setCell ⟨g, 2, none⟩ (.int .i64 (d : Int)) = w5 at *
  have HP5 := keepHid hp5
  have HO5 := keepHid ho5
  have HZ5 := keepHid hz5
  have HN5 := keepHid hn5
  have HOK5 := keepHid hok5
  clear hp5 ho5 hz5 hn5 hok5 HP4 HO4 HZ4 HN4 HOK HP3 HO3 HZ3 HO2 HZ2 HP2
  obtain ⟨n0, n1, n2, n3, n4, n5, nf⟩ := blk6 HN5.out
  obtain ⟨z0, z1, z2, z3, z4, z5, zf⟩ := blk6 HZ5.out
  cases ok
  · have HF : Hid (grpF alt (bs.drop i) = (none, (alt (bs.drop i).tail).2)) := keepHid (by
      have := HNO.out rfl
      unfold grpF
      generalize alt (bs.drop i).tail = x at *
      obtain ⟨o, r⟩ := x
      simp only at this
      subst this; rfl)
    clear HNO HOK5
    clear HG HTL HLT HH HP1 HZ1 HO1
    go_region
    all_goals
      go_wp2
      refine bodyPost_ret (v := .tuple #[hdV n, .bool false]) (by rw [results_cell_tmp rfl]; go_simp; rfl) rfl ⟨n, false, rfl, (fun h => by cases h), (fun _ => by rw [HF.out]), ?_⟩
      rw [HF.out]
      have k1 : Went g bs d (alt (bs.drop i).tail).2 w w5 := ⟨⟨j3, HJ3.out, HP5.out⟩, HO5.out⟩
      exact (k1.six (by omega) (Nat.le_refl _) _ _ _ _ _ _).drew
  · obtain ⟨r, hr, hir⟩ := HOK5.out rfl
    have HIR := keepHid hir
    have HF : Hid (grpF alt (bs.drop i) = if nx 41 (alt (bs.drop i).tail).2 then (some r, (alt (bs.drop i).tail).2.tail) else (none, (alt (bs.drop i).tail).2)) := keepHid (by
      unfold grpF
      generalize alt (bs.drop i).tail = x at *
      obtain ⟨o, q⟩ := x
      simp only at hr
      subst hr; rfl)
    have HT := keepHid (take_any (HP5.out.drewN 1) 41 41 rfl)
    rw [HJ3.out] at HT
    unfold TakePost at HT
    obtain ⟨b, hb⟩ : ∃ b, nx 41 (alt (bs.drop i).tail).2 = b := ⟨_, rfl⟩
    rw [hb] at HF HT
    clear hb
    clear HG HTL HLT HH HP1 HZ1 HO1 HNO HOK5 hr hir
    have hgl3 : g < w3.heap.size := by omega
    go_region_with
      (first
        | (go_at_call 50
           refine HT.out.mono ?_
           rintro e wT ⟨rfl, ⟨⟨jT, hjT, hpT⟩, hoT⟩⟩
           have HPT := keepHid hpT
           have HJT := keepHid hjT
           have HOT := keepHid hoT
           have HNT := keepHid ((HN5.out.drewN 1).only hoT (by intro e; injection e; omega))
           have HZT := keepHid ((HZ5.out.drewN 1).only hoT (by intro e; injection e; omega))
           clear hjT hpT hoT
           obtain ⟨m0, m1, m2, m3, m4, m5, mf⟩ := blk6 HNT.out
           obtain ⟨y0, y1, y2, y3, y4, y5, yf⟩ := blk6 HZT.out))
    all_goals
      go_wp2
      refine bodyPost_ret (v := .tuple #[hdV n, .bool b]) (by rw [results_cell_tmp rfl]; go_simp; rfl) rfl ⟨n, b, rfl, ?_, ?_, ?_⟩
      · intro hb1
        subst hb1
        exact ⟨r, by rw [HF.out]; rfl, (((HIR.out.below (w' := w5.drewN 1) (below_drewN (Below.refl _ _) 1)).only HOT.out (by omega)).keep fun j hj _ => six_far (by omega)).low (Nat.le_succ _)⟩
      · intro hb1
        subst hb1
        rw [HF.out]; rfl
      · have k1 : Went g bs d (grpF alt (bs.drop i)).2 w wT := ⟨⟨jT, by rw [HF.out, HJT.out]; cases b <;> rfl, HPT.out⟩, (HO5.out.drewN 1).trans HOT.out⟩
        exact k1.six (by omega) (Nat.le_refl _) _ _ _ _ _ _
end Go.Proofs.YtgidoieppplhpaaDoor
