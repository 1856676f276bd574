/-
  The reader of patterns: a class.
-/
import Derived.Test.YtlmjijejgfhmmaaRegexMembers
import Derived.WalkKit
import Derived.OwnWalk
import Derived.ProofKit
import Derived.WalkLawsBesides
import Derived.IntWalk
import Derived.RegionTactic
import Derived.BigRegion
import Derived.ChangeAlike
import Derived.Deep.QuietTactic
import Derived.BigQuiet
import Derived.Deep.RegionHeld3
import Derived.Deep.DrawnRows
import Derived.Outline
import Derived.Deep.DeepCutAuto
namespace Go.Proofs.Ytlmjijejgfhmmaa
open Go.RowKit
set_option linter.unusedVariables false





def nd0 : Array Value := #[.int .i64 0, .int .u64 0, .int .u64 0, .int .u64 0, .int .u64 0, .slice none 0 0]
def hdC (h : Hd) : Array Value := #[.int .i64 h.k, .int .u64 (h.s.a.toNat : Int), .int .u64 (h.s.b.toNat : Int), .int .u64 (h.s.c.toNat : Int), .int .u64 (h.s.d.toNat : Int), .slice h.A h.n h.c]
/-- What a part of the reader answers. -/
def ReadPost (g : Nat) (bs : List UInt8) (d : Nat) (x : R Re) (w : World) (e : Ending) (w' : World) : Prop :=
  ∃ (h : Hd) (ok : Bool), e = .returned (.tuple #[hdV h, .bool ok]) ∧ (ok = true → ∃ r, x.1 = some r ∧ IsRe w' w.heap.size h r) ∧ (ok = false → x.1 = none) ∧ Went g bs d x.2 w w'
theorem Ps.far6 {w : World} {g b i d : Nat} {bs : List UInt8} (h : Ps w g bs i d) (hb : g ≠ b) (u0 u1 u2 u3 u4 u5 : Value) :
    Ps ((((((w.setCell ⟨b, 0, none⟩ u0).setCell ⟨b, 1, none⟩ u1).setCell ⟨b, 2, none⟩ u2).setCell ⟨b, 3, none⟩ u3).setCell ⟨b, 4, none⟩ u4).setCell ⟨b, 5, none⟩ u5) g bs i d :=
  (((((h.far hb _).far hb _).far hb _).far hb _).far hb _).far hb _
theorem Only.six {a w : World} {g b : Nat} (h : Only g a w) (hb : a.heap.size ≤ b) (u0 u1 u2 u3 u4 u5 : Value) :
    Only g a ((((((w.setCell ⟨b, 0, none⟩ u0).setCell ⟨b, 1, none⟩ u1).setCell ⟨b, 2, none⟩ u2).setCell ⟨b, 3, none⟩ u3).setCell ⟨b, 4, none⟩ u4).setCell ⟨b, 5, none⟩ u5) :=
  (((((h.setCell (.inr hb) _).setCell (.inr hb) _).setCell (.inr hb) _).setCell (.inr hb) _).setCell (.inr hb) _).setCell (.inr hb) _
theorem Went.six {g d b : Nat} {bs r : List UInt8} {a w : World} (h : Went g bs d r a w) (hg : g ≠ b) (hb : a.heap.size ≤ b) (u0 u1 u2 u3 u4 u5 : Value) :
    Went g bs d r a ((((((w.setCell ⟨b, 0, none⟩ u0).setCell ⟨b, 1, none⟩ u1).setCell ⟨b, 2, none⟩ u2).setCell ⟨b, 3, none⟩ u3).setCell ⟨b, 4, none⟩ u4).setCell ⟨b, 5, none⟩ u5) :=
  ⟨by obtain ⟨i, hi, hp⟩ := h.at_; exact ⟨i, hi, hp.far6 hg _ _ _ _ _ _⟩, h.only.six hb _ _ _ _ _ _⟩
theorem inF_tail (l : List UInt8) : (if nx 94 l.tail then l.tail.tail else l.tail) = inF l := rfl
set_option maxHeartbeats 2000000 in
theorem class_any {g i d : Nat} {bs : List UInt8} {w : World} (h : Ps w g bs i d) (hlt : i < bs.length) :
    Calls Try.prog 60 #[.pointer (some ⟨g, 0, none⟩)] w (ReadPost g bs d (clsF (bs.drop i)) w) := by
  obtain ⟨w1, hw1⟩ : ∃ w1, w.alloc (.cells #[.int .i64 0, .int .u64 0, .int .u64 0, .int .u64 0, .int .u64 0, .slice none 0 0] 30) = w1 := ⟨_, rfl⟩
  have HG := keepHid h.lt
  have HM := keepHid h.max
  have hp1 : Ps w1 g bs i d := by rw [← hw1]; exact h.alloc _
  have HZ1 : Hid (Blk w1 w.heap.size 30 nd0) := keepHid (by rw [← hw1]; exact Blk.new _ _ _)
  have HO1 : Hid (Only g w w1) := keepHid (by rw [← hw1]; exact (Only.refl w g).alloc _)
  have HP1 := keepHid hp1
  obtain ⟨c0, c1, c2, cf⟩ := hp1.cells
  have hm : bs.length ≤ 64 := h.max
  have HLT := keepHid hlt
  have htl : bs.drop (i + 1) = (bs.drop i).tail := by rw [List.tail_drop]
  have HTL := keepHid htl
  clear h hp1 htl
  go_enter Try.func60, Try.ntmps60
  go_wp2_with fail
  have hp2 := HP1.out.put (i + 1) HLT.out
  have ho2 := HO1.out.setCell (p := ⟨g, 1, none⟩) (.inl rfl) (.int .i64 ((i + 1 : Nat) : Int))
  have hz2 := HZ1.out.far (p := ⟨g, 1, none⟩) (by have := HG.out; show w.heap.size ≠ g; omega) (.int .i64 ((i + 1 : Nat) : Int))
  have e1 : ((i + 1 : Nat) : Int) = (i : Int) + 1 := by omega
  rw [e1] at hp2 ho2 hz2
  have HP2 := keepHid hp2
  have HO2 := keepHid ho2
  have HZ2 := keepHid hz2
  clear hp2 ho2 e1 hz2 c0 c1 c2 cf hw1
  generalize w1.setCell ⟨g, 1, none⟩ (.int .i64 ((i : Int) + 1)) = w2 at *
  refine (take_any HP2.out 94 94 rfl).mono ?_
  rintro e w3 ⟨rfl, ⟨j3, hj3, hp3⟩, ho3⟩
  rw [HTL.out] at hj3 ⊢
  have HJ3 := keepHid hj3
  have HP3 := keepHid hp3
  have hzl : w.heap.size < w2.heap.size := HZ2.out.lt
  have hgg : g < w.heap.size := HG.out
  have HO3 := keepHid (HO2.out.trans ho3)
  have HZ3 := keepHid (HZ2.out.only ho3 (by intro e; injection e; omega))
  clear hj3 hp3 ho3 hzl
  obtain ⟨b, hb⟩ : ∃ b, nx 94 (bs.drop i).tail = b := ⟨_, rfl⟩
  have HB := keepHid hb
  rw [hb]
  have HMB := keepHid (members_any HP3.out)
  rw [HJ3.out, inF_tail] at HMB
  clear hb
  go_wp2_with fail
  refine HMB.out.mono ?_
  rintro e w4 ⟨s, ok, rfl, hok, hno, ⟨j4, hj4, hp4⟩, ho4⟩
  have hzl : w.heap.size < w3.heap.size := HZ3.out.lt
  have HO4 := keepHid (HO3.out.trans ho4)
  have HZ4 := keepHid (HZ3.out.only ho4 (by intro e; injection e; omega))
  have HP4 := keepHid hp4
  have HJ4 := keepHid hj4
  have hzl4 : w.heap.size < w4.heap.size := HZ4.out.lt
  unfold stV
  obtain ⟨w5, hw5⟩ : ∃ w5, w4.alloc (.cells #[.int .u64 (s.a.toNat : Int), .int .u64 (s.b.toNat : Int), .int .u64 (s.c.toNat : Int), .int .u64 (s.d.toNat : Int)] 27) = w5 := ⟨_, rfl⟩
  have HP5 : Hid (Ps w5 g bs j4 d) := keepHid (by rw [← hw5]; exact HP4.out.alloc _)
  have HO5 : Hid (Only g w w5) := keepHid (by rw [← hw5]; exact HO4.out.alloc _)
  have HZ5 : Hid (Blk w5 w.heap.size 30 nd0) := keepHid (by rw [← hw5]; exact HZ4.out.alloc _)
  have HS5 : Hid (Blk w5 w4.heap.size 27 (stC s)) := keepHid (by rw [← hw5]; exact Blk.new _ _ _)
  clear hj4 hp4 ho4 hzl HMB
  cases ok
  · have HF : Hid (clsF (bs.drop i) = (none, bs.drop i)) := keepHid (by
      unfold clsF
      have := hno rfl
      generalize memF 65 st0 (inF (bs.drop i)) = x at *
      obtain ⟨o, r⟩ := x
      simp only at this
      subst this; rfl)
    clear hok hno
    obtain ⟨p0, p1, p2, pf⟩ := HP5.out.cells
    obtain ⟨z0, z1, z2, z3, z4, z5, zf⟩ := blk6 HZ5.out
    go_wp2
    refine bodyPost_ret (v := .tuple #[hdV hd0, .bool false]) (by rw [results_cell_tmp rfl]; go_simp; rfl) rfl ⟨hd0, false, rfl, (fun h => by cases h), (fun _ => by rw [HF.out]), ?_⟩
    rw [HF.out]
    have k1 : Went g bs d (bs.drop i) w (w5.setCell ⟨g, 1, none⟩ (.int .i64 (i : Int))) := ⟨⟨i, rfl, HP5.out.put i (Nat.le_of_lt HLT.out)⟩, HO5.out.setCell (.inl rfl) _⟩
    exact k1.six (by omega) (Nat.le_refl _) _ _ _ _ _ _
  · have hmm := hok rfl
    have HF : Hid (clsF (bs.drop i) = (some (.one (if b then notS s else s)), (memF 65 st0 (inF (bs.drop i))).2)) := keepHid (by
      unfold clsF
      rw [HB.out]
      generalize memF 65 st0 (inF (bs.drop i)) = x at *
      obtain ⟨o, r⟩ := x
      simp only at hmm
      subst hmm; rfl)
    clear hok hno hmm
    cases b
    · obtain ⟨s0, s1, s2, s3, sf⟩ := blk4 HS5.out
      have HK := keepHid (fun w => one_any s w)
      unfold stV at HK
      go_wp2_with fail
      refine (HK.out _).mono ?_
      rintro e w6 ⟨rfl, hb6⟩
      have HZ6 := keepHid (HZ5.out.below hb6 HZ5.out.lt)
      have hgl5 : g < w5.heap.size := HP5.out.lt
      have k1 : Hid (Went g bs d (memF 65 st0 (inF (bs.drop i))).2 w w6) := keepHid ⟨⟨j4, HJ4.out, HP5.out.below hb6 hgl5⟩, HO5.out.trans (Only.of_below hb6)⟩
      clear s0 s1 s2 s3 sf hb6 hw5 HK
      obtain ⟨z0, z1, z2, z3, z4, z5, zf⟩ := blk6 HZ6.out
      unfold hdV
      go_wp2
      refine bodyPost_ret (v := .tuple #[hdV ⟨1, s, none, 0, 0⟩, .bool true]) (by rw [results_cell_tmp rfl]; go_simp; rfl) rfl ⟨⟨1, s, none, 0, 0⟩, true, rfl, (fun _ => ⟨.one s, by rw [HF.out]; rfl, rfl⟩), (fun h => by cases h), ?_⟩
      rw [HF.out]
      exact k1.out.six (by omega) (Nat.le_refl _) _ _ _ _ _ _
    · obtain ⟨s0, s1, s2, s3, sf⟩ := blk4 HS5.out
      have HK := keepHid (fun w => not_any s w)
      unfold stV at HK
      go_wp2_with fail
      refine (HK.out _).mono ?_
      rintro e w6 ⟨rfl, hb6⟩
      have HZ6 := keepHid (HZ5.out.below hb6 HZ5.out.lt)
      have HS6 := keepHid (HS5.out.below hb6 HS5.out.lt)
      have hgl5 : g < w5.heap.size := HP5.out.lt
      have k1 : Hid (Went g bs d (memF 65 st0 (inF (bs.drop i))).2 w w6) := keepHid ⟨⟨j4, HJ4.out, HP5.out.below hb6 hgl5⟩, HO5.out.trans (Only.of_below hb6)⟩
      clear s0 s1 s2 s3 sf hb6 hw5 HK
      obtain ⟨s0, s1, s2, s3, sf⟩ := blk4 HS6.out
      obtain ⟨t, ht⟩ : ∃ t, notS s = t := ⟨_, rfl⟩
      rw [ht] at HF ⊢
      clear ht
      have HK := keepHid (fun w => one_any t w)
      unfold stV at HK
      go_wp2_with (go_at_call 61; fail)
      obtain ⟨w7, hw7⟩ : ∃ w7, (((w6.setCell ⟨w4.heap.size, 0, none⟩ (.int .u64 (t.a.toNat : Int))).setCell ⟨w4.heap.size, 1, none⟩ (.int .u64 (t.b.toNat : Int))).setCell ⟨w4.heap.size, 2, none⟩ (.int .u64 (t.c.toNat : Int))).setCell ⟨w4.heap.size, 3, none⟩ (.int .u64 (t.d.toNat : Int)) = w7 := ⟨_, rfl⟩
      have HZ7 : Hid (Blk w7 w.heap.size 30 nd0) := keepHid (by
        rw [← hw7]
        exact (((HZ6.out.far (by show w.heap.size ≠ w4.heap.size; omega) _).far (by show w.heap.size ≠ w4.heap.size; omega) _).far (by show w.heap.size ≠ w4.heap.size; omega) _).far (by show w.heap.size ≠ w4.heap.size; omega) _)
      have k2 : Hid (Went g bs d (memF 65 st0 (inF (bs.drop i))).2 w w7) := keepHid (by
        obtain ⟨⟨j, hj, hp⟩, ho⟩ := k1.out
        rw [← hw7]
        refine ⟨⟨j, hj, ?_⟩, ?_⟩
        · exact (((hp.far (by show g ≠ w4.heap.size; omega) _).far (by show g ≠ w4.heap.size; omega) _).far (by show g ≠ w4.heap.size; omega) _).far (by show g ≠ w4.heap.size; omega) _
        · exact (((ho.setCell (.inr (by show w.heap.size ≤ w4.heap.size; omega)) _).setCell (.inr (by show w.heap.size ≤ w4.heap.size; omega)) _).setCell (.inr (by show w.heap.size ≤ w4.heap.size; omega)) _).setCell (.inr (by show w.heap.size ≤ w4.heap.size; omega)) _)
      rw [hw7]
      clear hw7 s0 s1 s2 s3 sf
      refine (HK.out _).mono ?_
      rintro e w8 ⟨rfl, hb8⟩
      have HZ8 := keepHid (HZ7.out.below hb8 HZ7.out.lt)
      have k3 : Hid (Went g bs d (memF 65 st0 (inF (bs.drop i))).2 w w8) := keepHid (by
        obtain ⟨⟨j, hj, hp⟩, ho⟩ := k2.out
        exact ⟨⟨j, hj, hp.below hb8 hp.lt⟩, ho.trans (Only.of_below hb8)⟩)
      obtain ⟨z0, z1, z2, z3, z4, z5, zf⟩ := blk6 HZ8.out
      clear hb8
      unfold hdV
      go_wp2
      refine bodyPost_ret (v := .tuple #[hdV ⟨1, t, none, 0, 0⟩, .bool true]) (by rw [results_cell_tmp rfl]; go_simp; rfl) rfl ⟨⟨1, t, none, 0, 0⟩, true, rfl, (fun _ => ⟨.one t, by rw [HF.out]; rfl, rfl⟩), (fun h => by cases h), ?_⟩
      rw [HF.out]
      exact k3.out.six (by omega) (Nat.le_refl _) _ _ _ _ _ _
end Go.Proofs.Ytlmjijejgfhmmaa
