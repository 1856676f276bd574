/-
  The reader of patterns: the bytes of a class.
-/
import Derived.Test.YtgidoieppplhpaaDoorRegexTake
import Derived.Test.YtgidoieppplhpaaDoorRegexLen
import Derived.WalkKit
import Derived.OwnWalk
import Derived.ProofKit
import Derived.WalkLawsBesides
import Derived.IntWalk
import Derived.RegionTactic
import Derived.BigRegion
import Derived.ChangeAlike
import Derived.Deep.QuietTactic
import Derived.BigQuiet
import Derived.Deep.RegionHeld3
import Derived.Deep.DrawnRows
import Derived.Outline
import Derived.Deep.DeepCutAuto
namespace Go.Proofs.YtgidoieppplhpaaDoor
open Go.RowKit
set_option linter.unusedVariables false




def stC (s : St) : Array Value := #[.int .u64 (s.a.toNat : Int), .int .u64 (s.b.toNat : Int), .int .u64 (s.c.toNat : Int), .int .u64 (s.d.toNat : Int)]
/-- How much is left to read. -/
def leftN (g n : Nat) (w : World) : Nat := n - (intOf ((w.cell? ⟨g, 1, none⟩).getD undef)).toNat
theorem leftN_of {w : World} {g i d : Nat} {bs : List UInt8} (h : Ps w g bs i d) : leftN g bs.length w = (bs.drop i).length := by
  unfold leftN
  rw [h.cells.2.1]
  simp [intOf]
theorem memF_end {f : Nat} {s : St} {l : List UInt8} (hf : l.length < f) (hn : nx 93 l = true) : memF f s l = (some s, l.tail) := by
  obtain ⟨k, rfl⟩ : ∃ k, f = k + 1 := ⟨f - 1, by omega⟩
  unfold memF; rw [if_pos hn]
theorem memF_no {f : Nat} {s : St} {l : List UInt8} (hf : l.length < f) (hn : nx 93 l = false) (h : (spanF l).1 = none) : memF f s l = (none, (spanF l).2) := by
  obtain ⟨k, rfl⟩ : ∃ k, f = k + 1 := ⟨f - 1, by omega⟩
  unfold memF
  rw [if_neg (by simp [hn])]
  generalize spanF l = x at *
  obtain ⟨o, r⟩ := x
  simp only at h
  subst h
  rfl
theorem memF_go {f : Nat} {s : St} {l : List UInt8} (hf : l.length < f) (hn : nx 93 l = false) {x y : UInt8} (h : (spanF l).1 = some (x, y)) :
    memF f s l = memF (f - 1) (addR s x.toNat (y.toNat + 1 - x.toNat)) (spanF l).2 := by
  obtain ⟨k, rfl⟩ : ∃ k, f = k + 1 := ⟨f - 1, by omega⟩
  rw [memF, if_neg (by simp [hn])]
  generalize spanF l = z at *
  obtain ⟨o, r⟩ := z
  simp only at h
  subst h
  rfl
def MemPost (g : Nat) (bs : List UInt8) (d : Nat) (l : List UInt8) (w : World) (e : Ending) (w' : World) : Prop :=
  ∃ (s : St) (ok : Bool), e = .returned (.tuple #[stV s, .bool ok]) ∧ (ok = true → (memF 65 st0 l).1 = some s) ∧ (ok = false → (memF 65 st0 l).1 = none) ∧ Went g bs d (memF 65 st0 l).2 w w'
def MemRel (g : Nat) (bs : List UInt8) (d : Nat) (l : List UInt8) (w wr : World) : Prop :=
  ∃ (f j : Nat) (s : St) (l' : List UInt8), memF 65 st0 l = memF f s l' ∧ l'.length < f ∧ bs.drop j = l' ∧ Ps wr g bs j d ∧ Blk wr (w.heap.size + 1) 30 (stC s) ∧ Blk wr w.heap.size 30 (stC st0) ∧ Only g w wr
set_option maxHeartbeats 2000000 in
theorem members_any {g i d : Nat} {bs : List UInt8} {w : World} (h : Ps w g bs i d) :
    Calls Tryd.prog 71 #[.pointer (some ⟨g, 0, none⟩)] w (MemPost g bs d (bs.drop i) w) := by
  obtain ⟨w1, hw1⟩ : ∃ w1, (w.alloc (.cells #[.int .u64 0, .int .u64 0, .int .u64 0, .int .u64 0] 30)).alloc (.cells #[.int .u64 0, .int .u64 0, .int .u64 0, .int .u64 0] 30) = w1 := ⟨_, rfl⟩
  have HG := keepHid h.lt
  have HM := keepHid h.max
  have HR : Hid (MemRel g bs d (bs.drop i) w w1) := keepHid (by
    refine ⟨65, i, st0, bs.drop i, rfl, by have := h.max; simp; omega, rfl, ?_, ?_, ?_, ?_⟩
    · rw [← hw1]; exact (h.alloc _).alloc _
    · rw [← hw1]; exact Blk.new_at _ _ _ _ (by simp)
    · rw [← hw1]; exact (Blk.new _ _ _).alloc _
    · rw [← hw1]; exact ((Only.refl w g).alloc _).alloc _)
  generalize bs.drop i = l at *
  clear h
  go_enter Tryd.func71, Tryd.ntmps71
  go_wp2_with fail
  try rw [hw1]
  clear hw1
  go_loopw [] (fun wr => MemRel g bs d l w wr) (fun wr => leftN g bs.length wr)
  case atStart => exact HR.out
  case round =>
    obtain ⟨f, j, s, l', hf, hlf, hj, hp, hs, hz, ho⟩ := hrel
    have HF := keepHid hf
    have HLF := keepHid hlf
    have HJ := keepHid hj
    have HS := keepHid hs
    have HZ := keepHid hz
    have HO := keepHid ho
    have HP := keepHid hp
    have HT := keepHid (take_any hp 93 93 rfl)
    rw [hj] at HT
    clear hf hlf hj hs hz ho hp
    cases hn : nx 93 l'
    · go_wp2_with fail
      refine HT.out.mono ?_
      rintro e w2 ⟨rfl, ⟨j2, hj2, hp2⟩, ho2⟩
      rw [hn] at hj2 ⊢
      simp only [Bool.false_eq_true, if_false] at hj2
      have HN := keepHid hn
      have hzs : w.heap.size < wr.heap.size := HZ.out.lt
      have hss : w.heap.size + 1 < wr.heap.size := HS.out.lt
      have hgg : g < w.heap.size := HG.out
      have HS2 := keepHid (HS.out.only ho2 (by intro e; injection e; omega))
      have HZ2 := keepHid (HZ.out.only ho2 (by intro e; injection e; omega))
      have HO2 := keepHid (HO.out.trans ho2)
      have HP2 := keepHid hp2
      have HSP := keepHid (span_any hp2)
      rw [hj2] at HSP
      clear hj2 hp2 ho2 hn HT HS HZ HO hzs hss
      go_wp2_with fail
      refine HSP.out.mono ?_
      rintro e w3 ⟨a, b, ok, rfl, ha, hb, hok, hno, ⟨j3, hj3, hp3⟩, ho3⟩
      have hzs : w.heap.size < w2.heap.size := HZ2.out.lt
      have hss : w.heap.size + 1 < w2.heap.size := HS2.out.lt
      have HS3 := keepHid (HS2.out.only ho3 (by intro e; injection e; omega))
      have HZ3 := keepHid (HZ2.out.only ho3 (by intro e; injection e; omega))
      have HO3 := keepHid (HO2.out.trans ho3)
      have HP3 := keepHid hp3
      have HJ3 := keepHid hj3
      have HA := keepHid ha
      have HB := keepHid hb
      cases ok
      · have HE := keepHid (memF_no (s := s) HLF.out HN.out (hno rfl))
        clear hok hno hj3 hp3 ho3 ha hb hzs hss HSP
        obtain ⟨z0, z1, z2, z3, zf⟩ := blk4 HZ3.out
        go_wp2
        refine bodyPost_ret (v := .tuple #[stV st0, .bool false]) (by rw [results_cell_tmp rfl]; go_simp; rfl) rfl ⟨st0, false, rfl, (fun h => by cases h), (fun _ => by rw [HF.out, HE.out]), ⟨j3, by rw [HF.out, HE.out, HJ3.out], ?_⟩, ?_⟩
        · exact (((HP3.out.far (by show g ≠ w.heap.size; omega) _).far (by show g ≠ w.heap.size; omega) _).far (by show g ≠ w.heap.size; omega) _).far (by show g ≠ w.heap.size; omega) _
        · exact (((HO3.out.setCell (.inr (Nat.le_refl _)) _).setCell (.inr (Nat.le_refl _)) _).setCell (.inr (Nat.le_refl _)) _).setCell (.inr (Nat.le_refl _)) _
      · obtain ⟨x, y, hx, hy, hxy⟩ := hok rfl
        have HE := keepHid (memF_go (s := s) HLF.out HN.out hxy)
        have HLT := keepHid (spanF_lt (show spanF l' = (some (x, y), (spanF l').2) by rw [← hxy]))
        rw [hx, hy] at HE
        obtain ⟨n, hn⟩ : ∃ n, b + 1 - a = n := ⟨_, rfl⟩
        rw [hn] at HE
        have HNN := keepHid hn
        clear hok hno hj3 hp3 ho3 ha hb hzs hss hx hy hxy hn HSP
        have ha' : (a : Int) ≤ 255 := by have := HA.out; omega
        have hb' : (b : Int) ≤ 255 := by have := HB.out; omega
        go_wp2_with fail
        go_loopw [8] (fun c wq => ∃ k : Nat, k ≤ n ∧ c = .int .i64 ((a : Int) + (k : Int)) ∧ Ps wq g bs j3 d ∧ Blk wq (w.heap.size + 1) 30 (stC (addR s a k)) ∧ Blk wq w.heap.size 30 (stC st0) ∧ Only g w wq) (fun c _ => b + 1 - (intOf c).toNat)
        case atStart => exact ⟨0, Nat.zero_le _, by simp, HP3.out, HS3.out, HZ3.out, HO3.out⟩
        case round =>
          obtain ⟨k, hk, rfl, hp, hs, hz, ho⟩ := hrel
          have HP4 := keepHid hp
          have HZ4 := keepHid hz
          have HO4 := keepHid ho
          have HK := keepHid hk
          by_cases hlt : a + k ≤ b
          · obtain ⟨t, ht⟩ : ∃ t, addR s a k = t := ⟨_, rfl⟩
            rw [ht] at hs
            have HTT := keepHid ht
            have HS4 := keepHid hs
            obtain ⟨s0, s1, s2, s3, sf⟩ := blk4 hs
            have h1 : (a : Int) + (k : Int) ≤ (b : Int) := by omega
            have e1 : ((a : Int) + (k : Int)) % 256 = (a : Int) + (k : Int) := by omega
            have HW := keepHid (with_any t (a + k) (by omega))
            clear hp hs hz ho hk ht
            have e2 : ((a + k : Nat) : Int) = (a : Int) + (k : Int) := by omega
            rw [e2] at HW
            clear e2
            unfold stV at HW
            go_wp2_with fail
            refine (HW.out _).mono ?_
            rintro e w5 ⟨rfl, hb5⟩
            have HS5 := keepHid (HS4.out.below hb5 HS4.out.lt)
            have HZ5 := keepHid (HZ4.out.below hb5 HZ4.out.lt)
            have HP5 := keepHid (HP4.out.below hb5 HP4.out.lt)
            have HO5 := keepHid (HO4.out.trans (Only.of_below (g := g) hb5))
            obtain ⟨t', ht'⟩ : ∃ t', withS t (a + k) = t' := ⟨_, rfl⟩
            have HT' := keepHid (show addR s a (k + 1) = t' by rw [addR, HTT.out, ht'])
            rw [ht']
            clear s0 s1 s2 s3 sf hb5 ht'
            obtain ⟨s0, s1, s2, s3, sf⟩ := blk4 HS5.out
            go_wp2
            go_roundw
            case rel =>
              refine ⟨k + 1, by have := HNN.out; omega, by push_cast; go_num, ?_, ?_, ?_, ?_⟩
              · exact (((HP5.out.far (by show g ≠ w.heap.size + 1; omega) _).far (by show g ≠ w.heap.size + 1; omega) _).far (by show g ≠ w.heap.size + 1; omega) _).far (by show g ≠ w.heap.size + 1; omega) _
              · rw [HT'.out]; exact (((HS5.out.put 0 _).put 1 _).put 2 _).put 3 _
              · exact (((HZ5.out.far (by show w.heap.size ≠ w.heap.size + 1; omega) _).far (by show w.heap.size ≠ w.heap.size + 1; omega) _).far (by show w.heap.size ≠ w.heap.size + 1; omega) _).far (by show w.heap.size ≠ w.heap.size + 1; omega) _
              · exact (((HO5.out.setCell (.inr (by show w.heap.size ≤ w.heap.size + 1; omega)) _).setCell (.inr (by show w.heap.size ≤ w.heap.size + 1; omega)) _).setCell (.inr (by show w.heap.size ≤ w.heap.size + 1; omega)) _).setCell (.inr (by show w.heap.size ≤ w.heap.size + 1; omega)) _
            case measure => simp [intOf]; omega
          · obtain rfl : k = n := by have := HNN.out; omega
            have HS4 := keepHid hs
            clear hp hs hz ho hk
            have h1 : (b : Int) < (a : Int) + (k : Int) := by omega
            have h2 : (a : Int) + (k : Int) ≤ 512 := by have := HNN.out; have := HA.out; have := HB.out; omega
            go_wp2_with fail
            go_roundw
            case rel => exact ⟨f - 1, j3, _, (spanF l').2, by rw [HF.out, HE.out], by have := HLF.out; have := HLT.out; omega, HJ3.out, HP4.out, HS4.out, HZ4.out, HO4.out⟩
            case measure =>
              rw [leftN_of HP4.out, leftN_of HP.out, HJ3.out, HJ.out]
              exact HLT.out
    · have HE := keepHid (memF_end (s := s) HLF.out hn)
      go_wp2_with fail
      refine HT.out.mono ?_
      rintro e w2 ⟨rfl, ⟨j2, hj2, hp2⟩, ho2⟩
      rw [hn] at hj2 ⊢
      simp only [if_true] at hj2
      have hzs : w.heap.size < wr.heap.size := HZ.out.lt
      have hss : w.heap.size + 1 < wr.heap.size := HS.out.lt
      have hgg : g < w.heap.size := HG.out
      have HS2 := keepHid (HS.out.only ho2 (by intro e; injection e; omega))
      have HZ2 := keepHid (HZ.out.only ho2 (by intro e; injection e; omega))
      have HO2 := keepHid (HO.out.trans ho2)
      have HP2 := keepHid hp2
      have HJ2 := keepHid hj2
      clear hj2 hp2 ho2 hn HT HS HZ HO hzs hss
      obtain ⟨s0, s1, s2, s3, sf⟩ := blk4 HS2.out
      obtain ⟨z0, z1, z2, z3, zf⟩ := blk4 HZ2.out
      go_wp2
      refine bodyPost_ret (v := .tuple #[stV s, .bool true]) (by rw [results_cell_tmp rfl]; go_simp; rfl) rfl ⟨s, true, rfl, (fun _ => by rw [HF.out, HE.out]), (fun h => by cases h), ⟨j2, by rw [HF.out, HE.out, HJ2.out], ?_⟩, ?_⟩
      · exact (((HP2.out.far (by show g ≠ w.heap.size; omega) _).far (by show g ≠ w.heap.size; omega) _).far (by show g ≠ w.heap.size; omega) _).far (by show g ≠ w.heap.size; omega) _
      · exact (((HO2.out.setCell (.inr (Nat.le_refl _)) _).setCell (.inr (Nat.le_refl _)) _).setCell (.inr (Nat.le_refl _)) _).setCell (.inr (Nat.le_refl _)) _






def nd0 : Array Value := #[.int .i64 0, .int .u64 0, .int .u64 0, .int .u64 0, .int .u64 0, .slice none 0 0]
def hdC (h : Hd) : Array Value := #[.int .i64 h.k, .int .u64 (h.s.a.toNat : Int), .int .u64 (h.s.b.toNat : Int), .int .u64 (h.s.c.toNat : Int), .int .u64 (h.s.d.toNat : Int), .slice h.A h.n h.c]
/-- What a part of the reader answers. -/
def ReadPost (g : Nat) (bs : List UInt8) (d : Nat) (x : R Re) (w : World) (e : Ending) (w' : World) : Prop :=
  ∃ (h : Hd) (ok : Bool), e = .returned (.tuple #[hdV h, .bool ok]) ∧ (ok = true → ∃ r, x.1 = some r ∧ IsRe w' w.heap.size h r) ∧ (ok = false → x.1 = none) ∧ Went g bs d x.2 w w'
theorem Ps.far6 {w : World} {g b i d : Nat} {bs : List UInt8} (h : Ps w g bs i d) (hb : g ≠ b) (u0 u1 u2 u3 u4 u5 : Value) :
    Ps ((((((w.setCell ⟨b, 0, none⟩ u0).setCell ⟨b, 1, none⟩ u1).setCell ⟨b, 2, none⟩ u2).setCell ⟨b, 3, none⟩ u3).setCell ⟨b, 4, none⟩ u4).setCell ⟨b, 5, none⟩ u5) g bs i d :=
  (((((h.far hb _).far hb _).far hb _).far hb _).far hb _).far hb _
theorem Only.six {a w : World} {g b : Nat} (h : Only g a w) (hb : a.heap.size ≤ b) (u0 u1 u2 u3 u4 u5 : Value) :
    Only g a ((((((w.setCell ⟨b, 0, none⟩ u0).setCell ⟨b, 1, none⟩ u1).setCell ⟨b, 2, none⟩ u2).setCell ⟨b, 3, none⟩ u3).setCell ⟨b, 4, none⟩ u4).setCell ⟨b, 5, none⟩ u5) :=
  (((((h.setCell (.inr hb) _).setCell (.inr hb) _).setCell (.inr hb) _).setCell (.inr hb) _).setCell (.inr hb) _).setCell (.inr hb) _
theorem Went.six {g d b : Nat} {bs r : List UInt8} {a w : World} (h : Went g bs d r a w) (hg : g ≠ b) (hb : a.heap.size ≤ b) (u0 u1 u2 u3 u4 u5 : Value) :
    Went g bs d r a ((((((w.setCell ⟨b, 0, none⟩ u0).setCell ⟨b, 1, none⟩ u1).setCell ⟨b, 2, none⟩ u2).setCell ⟨b, 3, none⟩ u3).setCell ⟨b, 4, none⟩ u4).setCell ⟨b, 5, none⟩ u5) :=
  ⟨by obtain ⟨i, hi, hp⟩ := h.at_; exact ⟨i, hi, hp.far6 hg _ _ _ _ _ _⟩, h.only.six hb _ _ _ _ _ _⟩
theorem inF_tail (l : List UInt8) : (if nx 94 l.tail then l.tail.tail else l.tail) = inF l := rfl
set_option maxHeartbeats 2000000 in
theorem class_any {g i d : Nat} {bs : List UInt8} {w : World} (h : Ps w g bs i d) (hlt : i < bs.length) :
    Calls Tryd.prog 67 #[.pointer (some ⟨g, 0, none⟩)] w (ReadPost g bs d (clsF (bs.drop i)) w) := by
  obtain ⟨w1, hw1⟩ : ∃ w1, w.alloc (.cells #[.int .i64 0, .int .u64 0, .int .u64 0, .int .u64 0, .int .u64 0, .slice none 0 0] 32) = w1 := ⟨_, rfl⟩
  have HG := keepHid h.lt
  have HM := keepHid h.max
  have hp1 : Ps w1 g bs i d := by rw [← hw1]; exact h.alloc _
  have HZ1 : Hid (Blk w1 w.heap.size 32 nd0) := keepHid (by rw [← hw1]; exact Blk.new _ _ _)
  have HO1 : Hid (Only g w w1) := keepHid (by rw [← hw1]; exact (Only.refl w g).alloc _)
  have HP1 := keepHid hp1
  obtain ⟨c0, c1, c2, cf⟩ := hp1.cells
  have hm : bs.length ≤ 64 := h.max
  have HLT := keepHid hlt
  have htl : bs.drop (i + 1) = (bs.drop i).tail := by rw [List.tail_drop]
  have HTL := keepHid htl
  clear h hp1 htl
  go_enter Tryd.func67, Tryd.ntmps67
  go_wp2_with fail
  have hp2 := HP1.out.put (i + 1) HLT.out
  have ho2 := HO1.out.setCell (p := ⟨g, 1, none⟩) (.inl rfl) (.int .i64 ((i + 1 : Nat) : Int))
  have hz2 := HZ1.out.far (p := ⟨g, 1, none⟩) (by have := HG.out; show w.heap.size ≠ g; omega) (.int .i64 ((i + 1 : Nat) : Int))
  have e1 : ((i + 1 : Nat) : Int) = (i : Int) + 1 := by omega
  rw [e1] at hp2 ho2 hz2
  have HP2 := keepHid hp2
  have HO2 := keepHid ho2
  have HZ2 := keepHid hz2
  clear hp2 ho2 e1 hz2 c0 c1 c2 cf hw1
  generalize w1.setCell ⟨g, 1, none⟩ (.int .i64 ((i : Int) + 1)) = w2 at *
  refine (take_any HP2.out 94 94 rfl).mono ?_
  rintro e w3 ⟨rfl, ⟨j3, hj3, hp3⟩, ho3⟩
  rw [HTL.out] at hj3 ⊢
  have HJ3 := keepHid hj3
  have HP3 := keepHid hp3
  have hzl : w.heap.size < w2.heap.size := HZ2.out.lt
  have hgg : g < w.heap.size := HG.out
  have HO3 := keepHid (HO2.out.trans ho3)
  have HZ3 := keepHid (HZ2.out.only ho3 (by intro e; injection e; omega))
  clear hj3 hp3 ho3 hzl
  obtain ⟨b, hb⟩ : ∃ b, nx 94 (bs.drop i).tail = b := ⟨_, rfl⟩
  have HB := keepHid hb
  rw [hb]
  have HMB := keepHid (members_any HP3.out)
  rw [HJ3.out, inF_tail] at HMB
  clear hb
  go_wp2_with fail
  refine HMB.out.mono ?_
  rintro e w4 ⟨s, ok, rfl, hok, hno, ⟨j4, hj4, hp4⟩, ho4⟩
  have hzl : w.heap.size < w3.heap.size := HZ3.out.lt
  have HO4 := keepHid (HO3.out.trans ho4)
  have HZ4 := keepHid (HZ3.out.only ho4 (by intro e; injection e; omega))
  have HP4 := keepHid hp4
  have HJ4 := keepHid hj4
  have hzl4 : w.heap.size < w4.heap.size := HZ4.out.lt
  unfold stV
  obtain ⟨w5, hw5⟩ : ∃ w5, w4.alloc (.cells #[.int .u64 (s.a.toNat : Int), .int .u64 (s.b.toNat : Int), .int .u64 (s.c.toNat : Int), .int .u64 (s.d.toNat : Int)] 30) = w5 := ⟨_, rfl⟩
  have HP5 : Hid (Ps w5 g bs j4 d) := keepHid (by rw [← hw5]; exact HP4.out.alloc _)
  have HO5 : Hid (Only g w w5) := keepHid (by rw [← hw5]; exact HO4.out.alloc _)
  have HZ5 : Hid (Blk w5 w.heap.size 32 nd0) := keepHid (by rw [← hw5]; exact HZ4.out.alloc _)
  have HS5 : Hid (Blk w5 w4.heap.size 30 (stC s)) := keepHid (by rw [← hw5]; exact Blk.new _ _ _)
  clear hj4 hp4 ho4 hzl HMB
  cases ok
  · have HF : Hid (clsF (bs.drop i) = (none, bs.drop i)) := keepHid (by
      unfold clsF
      have := hno rfl
      generalize memF 65 st0 (inF (bs.drop i)) = x at *
      obtain ⟨o, r⟩ := x
      simp only at this
      subst this; rfl)
    clear hok hno
    obtain ⟨p0, p1, p2, pf⟩ := HP5.out.cells
    obtain ⟨z0, z1, z2, z3, z4, z5, zf⟩ := blk6 HZ5.out
    go_wp2
    refine bodyPost_ret (v := .tuple #[hdV hd0, .bool false]) (by rw [results_cell_tmp rfl]; go_simp; rfl) rfl ⟨hd0, false, rfl, (fun h => by cases h), (fun _ => by rw [HF.out]), ?_⟩
    rw [HF.out]
    have k1 : Went g bs d (bs.drop i) w (w5.setCell ⟨g, 1, none⟩ (.int .i64 (i : Int))) := ⟨⟨i, rfl, HP5.out.put i (Nat.le_of_lt HLT.out)⟩, HO5.out.setCell (.inl rfl) _⟩
    exact k1.six (by omega) (Nat.le_refl _) _ _ _ _ _ _
  · have hmm := hok rfl
    have HF : Hid (clsF (bs.drop i) = (some (.one (if b then notS s else s)), (memF 65 st0 (inF (bs.drop i))).2)) := keepHid (by
      unfold clsF
      rw [HB.out]
      generalize memF 65 st0 (inF (bs.drop i)) = x at *
      obtain ⟨o, r⟩ := x
      simp only at hmm
      subst hmm; rfl)
    clear hok hno hmm
    cases b
    · obtain ⟨s0, s1, s2, s3, sf⟩ := blk4 HS5.out
      have HK := keepHid (fun w => one_any s w)
      unfold stV at HK
      go_wp2_with fail
      refine (HK.out _).mono ?_
      rintro e w6 ⟨rfl, hb6⟩
      have HZ6 := keepHid (HZ5.out.below hb6 HZ5.out.lt)
      have hgl5 : g < w5.heap.size := HP5.out.lt
      have k1 : Hid (Went g bs d (memF 65 st0 (inF (bs.drop i))).2 w w6) := keepHid ⟨⟨j4, HJ4.out, HP5.out.below hb6 hgl5⟩, HO5.out.trans (Only.of_below hb6)⟩
      clear s0 s1 s2 s3 sf hb6 hw5 HK
      obtain ⟨z0, z1, z2, z3, z4, z5, zf⟩ := blk6 HZ6.out
      unfold hdV
      go_wp2
      refine bodyPost_ret (v := .tuple #[hdV ⟨1, s, none, 0, 0⟩, .bool true]) (by rw [results_cell_tmp rfl]; go_simp; rfl) rfl ⟨⟨1, s, none, 0, 0⟩, true, rfl, (fun _ => ⟨.one s, by rw [HF.out]; rfl, rfl⟩), (fun h => by cases h), ?_⟩
      rw [HF.out]
      exact k1.out.six (by omega) (Nat.le_refl _) _ _ _ _ _ _
    · obtain ⟨s0, s1, s2, s3, sf⟩ := blk4 HS5.out
      have HK := keepHid (fun w => not_any s w)
      unfold stV at HK
      go_wp2_with fail
      refine (HK.out _).mono ?_
      rintro e w6 ⟨rfl, hb6⟩
      have HZ6 := keepHid (HZ5.out.below hb6 HZ5.out.lt)
      have HS6 := keepHid (HS5.out.below hb6 HS5.out.lt)
      have hgl5 : g < w5.heap.size := HP5.out.lt
      have k1 : Hid (Went g bs d (memF 65 st0 (inF (bs.drop i))).2 w w6) := keepHid ⟨⟨j4, HJ4.out, HP5.out.below hb6 hgl5⟩, HO5.out.trans (Only.of_below hb6)⟩
      clear s0 s1 s2 s3 sf hb6 hw5 HK
      obtain ⟨s0, s1, s2, s3, sf⟩ := blk4 HS6.out
      obtain ⟨t, ht⟩ : ∃ t, notS s = t := ⟨_, rfl⟩
      rw [ht] at HF ⊢
      clear ht
      have HK := keepHid (fun w => one_any t w)
      unfold stV at HK
      go_wp2_with (go_at_call 68; fail)
      obtain ⟨w7, hw7⟩ : ∃ w7, (((w6.setCell ⟨w4.heap.size, 0, none⟩ (.int .u64 (t.a.toNat : Int))).setCell ⟨w4.heap.size, 1, none⟩ (.int .u64 (t.b.toNat : Int))).setCell ⟨w4.heap.size, 2, none⟩ (.int .u64 (t.c.toNat : Int))).setCell ⟨w4.heap.size, 3, none⟩ (.int .u64 (t.d.toNat : Int)) = w7 := ⟨_, rfl⟩
      have HZ7 : Hid (Blk w7 w.heap.size 32 nd0) := keepHid (by
        rw [← hw7]
        exact (((HZ6.out.far (by show w.heap.size ≠ w4.heap.size; omega) _).far (by show w.heap.size ≠ w4.heap.size; omega) _).far (by show w.heap.size ≠ w4.heap.size; omega) _).far (by show w.heap.size ≠ w4.heap.size; omega) _)
      have k2 : Hid (Went g bs d (memF 65 st0 (inF (bs.drop i))).2 w w7) := keepHid (by
        obtain ⟨⟨j, hj, hp⟩, ho⟩ := k1.out
        rw [← hw7]
        refine ⟨⟨j, hj, ?_⟩, ?_⟩
        · exact (((hp.far (by show g ≠ w4.heap.size; omega) _).far (by show g ≠ w4.heap.size; omega) _).far (by show g ≠ w4.heap.size; omega) _).far (by show g ≠ w4.heap.size; omega) _
        · exact (((ho.setCell (.inr (by show w.heap.size ≤ w4.heap.size; omega)) _).setCell (.inr (by show w.heap.size ≤ w4.heap.size; omega)) _).setCell (.inr (by show w.heap.size ≤ w4.heap.size; omega)) _).setCell (.inr (by show w.heap.size ≤ w4.heap.size; omega)) _)
      rw [hw7]
      clear hw7 s0 s1 s2 s3 sf
      refine (HK.out _).mono ?_
      rintro e w8 ⟨rfl, hb8⟩
      have HZ8 := keepHid (HZ7.out.below hb8 HZ7.out.lt)
      have k3 : Hid (Went g bs d (memF 65 st0 (inF (bs.drop i))).2 w w8) := keepHid (by
        obtain ⟨⟨j, hj, hp⟩, ho⟩ := k2.out
        exact ⟨⟨j, hj, hp.below hb8 hp.lt⟩, ho.trans (Only.of_below hb8)⟩)
      obtain ⟨z0, z1, z2, z3, z4, z5, zf⟩ := blk6 HZ8.out
      clear hb8
      unfold hdV
      go_wp2
      refine bodyPost_ret (v := .tuple #[hdV ⟨1, t, none, 0, 0⟩, .bool true]) (by rw [results_cell_tmp rfl]; go_simp; rfl) rfl ⟨⟨1, t, none, 0, 0⟩, true, rfl, (fun _ => ⟨.one t, by rw [HF.out]; rfl, rfl⟩), (fun h => by cases h), ?_⟩
      rw [HF.out]
      exact k3.out.six (by omega) (Nat.le_refl _) _ _ _ _ _ _
end Go.Proofs.YtgidoieppplhpaaDoor
