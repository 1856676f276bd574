/-
  The reader of patterns: the bytes of a class.
-/
import Derived.Test.YtgndcgknedmalaaGreatDoorRegexSets
import Derived.WalkKit
import Derived.OwnWalk
import Derived.ProofKit
import Derived.WalkLawsBesides
import Derived.IntWalk
import Derived.RegionTactic
import Derived.BigRegion
import Derived.ChangeAlike
import Derived.Deep.QuietTactic
import Derived.BigQuiet
import Derived.Deep.RegionHeld3
import Derived.Deep.DrawnRows
import Derived.Outline
import Derived.Deep.DeepCutAuto
import Derived.Test.YtgndcgknedmalaaGreatDoorApp
namespace Go.Proofs.YtgndcgknedmalaaGreatDoor
open Go.RowKit
set_option linter.unusedVariables false




def stC (s : St) : Array Value := #[.int .u64 (s.a.toNat : Int), .int .u64 (s.b.toNat : Int), .int .u64 (s.c.toNat : Int), .int .u64 (s.d.toNat : Int)]
/-- How much is left to read. -/
def leftN (g n : Nat) (w : World) : Nat := n - (intOf ((w.cell? ⟨g, 1, none⟩).getD undef)).toNat
theorem leftN_of {w : World} {g i d : Nat} {bs : List UInt8} (h : Ps w g bs i d) : leftN g bs.length w = (bs.drop i).length := by
  unfold leftN
  rw [h.cells.2.1]
  simp [intOf]
theorem memF_end {f : Nat} {s : St} {l : List UInt8} (hf : l.length < f) (hn : nx 93 l = true) : memF f s l = (some s, l.tail) := by
  obtain ⟨k, rfl⟩ : ∃ k, f = k + 1 := ⟨f - 1, by omega⟩
  unfold memF; rw [if_pos hn]
theorem memF_no {f : Nat} {s : St} {l : List UInt8} (hf : l.length < f) (hn : nx 93 l = false) (h : (spanF l).1 = none) : memF f s l = (none, (spanF l).2) := by
  obtain ⟨k, rfl⟩ : ∃ k, f = k + 1 := ⟨f - 1, by omega⟩
  unfold memF
  rw [if_neg (by simp [hn])]
  generalize spanF l = x at *
  obtain ⟨o, r⟩ := x
  simp only at h
  subst h
  rfl
theorem memF_go {f : Nat} {s : St} {l : List UInt8} (hf : l.length < f) (hn : nx 93 l = false) {x y : UInt8} (h : (spanF l).1 = some (x, y)) :
    memF f s l = memF (f - 1) (addR s x.toNat (y.toNat + 1 - x.toNat)) (spanF l).2 := by
  obtain ⟨k, rfl⟩ : ∃ k, f = k + 1 := ⟨f - 1, by omega⟩
  rw [memF, if_neg (by simp [hn])]
  generalize spanF l = z at *
  obtain ⟨o, r⟩ := z
  simp only at h
  subst h
  rfl
def MemPost (g : Nat) (bs : List UInt8) (d : Nat) (l : List UInt8) (w : World) (e : Ending) (w' : World) : Prop :=
  ∃ (s : St) (ok : Bool), e = .returned (.tuple #[stV s, .bool ok]) ∧ (ok = true → (memF 65 st0 l).1 = some s) ∧ (ok = false → (memF 65 st0 l).1 = none) ∧ Went g bs d (memF 65 st0 l).2 w w'
def MemRel (g : Nat) (bs : List UInt8) (d : Nat) (l : List UInt8) (w wr : World) : Prop :=
  ∃ (f j : Nat) (s : St) (l' : List UInt8), memF 65 st0 l = memF f s l' ∧ l'.length < f ∧ bs.drop j = l' ∧ Ps wr g bs j d ∧ Blk wr (w.heap.size + 1) 73 (stC s) ∧ Blk wr w.heap.size 73 (stC st0) ∧ Only g w wr
set_option maxHeartbeats 2000000 in
theorem members_any {g i d : Nat} {bs : List UInt8} {w : World} (h : Ps w g bs i d) :
    Calls Tryz.prog 143 #[.pointer (some ⟨g, 0, none⟩)] w (MemPost g bs d (bs.drop i) w) := by
  obtain ⟨w1, hw1⟩ : ∃ w1, (w.alloc (.cells #[.int .u64 0, .int .u64 0, .int .u64 0, .int .u64 0] 73)).alloc (.cells #[.int .u64 0, .int .u64 0, .int .u64 0, .int .u64 0] 73) = w1 := ⟨_, rfl⟩
  have HG := keepHid h.lt
  have HM := keepHid h.max
  have HR : Hid (MemRel g bs d (bs.drop i) w w1) := keepHid (by
    refine ⟨65, i, st0, bs.drop i, rfl, by have := h.max; simp; omega, rfl, ?_, ?_, ?_, ?_⟩
    · rw [← hw1]; exact (h.alloc _).alloc _
    · rw [← hw1]; exact Blk.new_at _ _ _ _ (by simp)
    · rw [← hw1]; exact (Blk.new _ _ _).alloc _
    · rw [← hw1]; exact ((Only.refl w g).alloc _).alloc _)
  generalize bs.drop i = l at *
  clear h
  go_enter Tryz.func143, Tryz.ntmps143
  go_wp2_with fail
  try rw [hw1]
  clear hw1
  go_loopw [] (fun wr => MemRel g bs d l w wr) (fun wr => leftN g bs.length wr)
  case atStart => exact HR.out
  case round =>
    obtain ⟨f, j, s, l', hf, hlf, hj, hp, hs, hz, ho⟩ := hrel
    have HF := keepHid hf
    have HLF := keepHid hlf
    have HJ := keepHid hj
    have HS := keepHid hs
    have HZ := keepHid hz
    have HO := keepHid ho
    have HP := keepHid hp
    have HT := keepHid (take_any hp 93 93 rfl)
    rw [hj] at HT
    clear hf hlf hj hs hz ho hp
    cases hn : nx 93 l'
    · go_wp2_with fail
      refine HT.out.mono ?_
      rintro e w2 ⟨rfl, ⟨j2, hj2, hp2⟩, ho2⟩
      rw [hn] at hj2 ⊢
      simp only [Bool.false_eq_true, if_false] at hj2
      have HN := keepHid hn
      have hzs : w.heap.size < wr.heap.size := HZ.out.lt
      have hss : w.heap.size + 1 < wr.heap.size := HS.out.lt
      have hgg : g < w.heap.size := HG.out
      have HS2 := keepHid (HS.out.only ho2 (by intro e; injection e; omega))
      have HZ2 := keepHid (HZ.out.only ho2 (by intro e; injection e; omega))
      have HO2 := keepHid (HO.out.trans ho2)
      have HP2 := keepHid hp2
      have HSP := keepHid (span_any hp2)
      rw [hj2] at HSP
      clear hj2 hp2 ho2 hn HT HS HZ HO hzs hss
      go_wp2_with fail
      refine HSP.out.mono ?_
      rintro e w3 ⟨a, b, ok, rfl, ha, hb, hok, hno, ⟨j3, hj3, hp3⟩, ho3⟩
      have hzs : w.heap.size < w2.heap.size := HZ2.out.lt
      have hss : w.heap.size + 1 < w2.heap.size := HS2.out.lt
      have HS3 := keepHid (HS2.out.only ho3 (by intro e; injection e; omega))
      have HZ3 := keepHid (HZ2.out.only ho3 (by intro e; injection e; omega))
      have HO3 := keepHid (HO2.out.trans ho3)
      have HP3 := keepHid hp3
      have HJ3 := keepHid hj3
      have HA := keepHid ha
      have HB := keepHid hb
      cases ok
      · have HE := keepHid (memF_no (s := s) HLF.out HN.out (hno rfl))
        clear hok hno hj3 hp3 ho3 ha hb hzs hss HSP
        obtain ⟨z0, z1, z2, z3, zf⟩ := blk4 HZ3.out
        go_wp2
        refine bodyPost_ret (v := .tuple #[stV st0, .bool false]) (by rw [results_cell_tmp rfl]; go_simp; rfl) rfl ⟨st0, false, rfl, (fun h => by cases h), (fun _ => by rw [HF.out, HE.out]), ⟨j3, by rw [HF.out, HE.out, HJ3.out], ?_⟩, ?_⟩
        · exact (((HP3.out.far (by show g ≠ w.heap.size; omega) _).far (by show g ≠ w.heap.size; omega) _).far (by show g ≠ w.heap.size; omega) _).far (by show g ≠ w.heap.size; omega) _
        · exact (((HO3.out.setCell (.inr (Nat.le_refl _)) _).setCell (.inr (Nat.le_refl _)) _).setCell (.inr (Nat.le_refl _)) _).setCell (.inr (Nat.le_refl _)) _
      · obtain ⟨x, y, hx, hy, hxy⟩ := hok rfl
        have HE := keepHid (memF_go (s := s) HLF.out HN.out hxy)
        have HLT := keepHid (spanF_lt (show spanF l' = (some (x, y), (spanF l').2) by rw [← hxy]))
        rw [hx, hy] at HE
        obtain ⟨n, hn⟩ : ∃ n, b + 1 - a = n := ⟨_, rfl⟩
        rw [hn] at HE
        have HNN := keepHid hn
        clear hok hno hj3 hp3 ho3 ha hb hzs hss hx hy hxy hn HSP
        have ha' : (a : Int) ≤ 255 := by have := HA.out; omega
        have hb' : (b : Int) ≤ 255 := by have := HB.out; omega
        go_wp2_with fail
        go_loopw [8] (fun c wq => ∃ k : Nat, k ≤ n ∧ c = .int .i64 ((a : Int) + (k : Int)) ∧ Ps wq g bs j3 d ∧ Blk wq (w.heap.size + 1) 73 (stC (addR s a k)) ∧ Blk wq w.heap.size 73 (stC st0) ∧ Only g w wq) (fun c _ => b + 1 - (intOf c).toNat)
        case atStart => exact ⟨0, Nat.zero_le _, by simp, HP3.out, HS3.out, HZ3.out, HO3.out⟩
        case round =>
          obtain ⟨k, hk, rfl, hp, hs, hz, ho⟩ := hrel
          have HP4 := keepHid hp
          have HZ4 := keepHid hz
          have HO4 := keepHid ho
          have HK := keepHid hk
          by_cases hlt : a + k ≤ b
          · obtain ⟨t, ht⟩ : ∃ t, addR s a k = t := ⟨_, rfl⟩
            rw [ht] at hs
            have HTT := keepHid ht
            have HS4 := keepHid hs
            obtain ⟨s0, s1, s2, s3, sf⟩ := blk4 hs
            have h1 : (a : Int) + (k : Int) ≤ (b : Int) := by omega
            have e1 : ((a : Int) + (k : Int)) % 256 = (a : Int) + (k : Int) := by omega
            have HW := keepHid (with_any t (a + k) (by omega))
            clear hp hs hz ho hk ht
            have e2 : ((a + k : Nat) : Int) = (a : Int) + (k : Int) := by omega
            rw [e2] at HW
            clear e2
            unfold stV at HW
            go_wp2_with fail
            refine (HW.out _).mono ?_
            rintro e w5 ⟨rfl, hb5⟩
            have HS5 := keepHid (HS4.out.below hb5 HS4.out.lt)
            have HZ5 := keepHid (HZ4.out.below hb5 HZ4.out.lt)
            have HP5 := keepHid (HP4.out.below hb5 HP4.out.lt)
            have HO5 := keepHid (HO4.out.trans (Only.of_below (g := g) hb5))
            obtain ⟨t', ht'⟩ : ∃ t', withS t (a + k) = t' := ⟨_, rfl⟩
            have HT' := keepHid (show addR s a (k + 1) = t' by rw [addR, HTT.out, ht'])
            rw [ht']
            clear s0 s1 s2 s3 sf hb5 ht'
            obtain ⟨s0, s1, s2, s3, sf⟩ := blk4 HS5.out
            go_wp2
            go_roundw
            case rel =>
              refine ⟨k + 1, by have := HNN.out; omega, by push_cast; go_num, ?_, ?_, ?_, ?_⟩
              · exact (((HP5.out.far (by show g ≠ w.heap.size + 1; omega) _).far (by show g ≠ w.heap.size + 1; omega) _).far (by show g ≠ w.heap.size + 1; omega) _).far (by show g ≠ w.heap.size + 1; omega) _
              · rw [HT'.out]; exact (((HS5.out.put 0 _).put 1 _).put 2 _).put 3 _
              · exact (((HZ5.out.far (by show w.heap.size ≠ w.heap.size + 1; omega) _).far (by show w.heap.size ≠ w.heap.size + 1; omega) _).far (by show w.heap.size ≠ w.heap.size + 1; omega) _).far (by show w.heap.size ≠ w.heap.size + 1; omega) _
              · exact (((HO5.out.setCell (.inr (by show w.heap.size ≤ w.heap.size + 1; omega)) _).setCell (.inr (by show w.heap.size ≤ w.heap.size + 1; omega)) _).setCell (.inr (by show w.heap.size ≤ w.heap.size + 1; omega)) _).setCell (.inr (by show w.heap.size ≤ w.heap.size + 1; omega)) _
            case measure => simp [intOf]; omega
          · obtain rfl : k = n := by have := HNN.out; omega
            have HS4 := keepHid hs
            clear hp hs hz ho hk
            have h1 : (b : Int) < (a : Int) + (k : Int) := by omega
            have h2 : (a : Int) + (k : Int) ≤ 512 := by have := HNN.out; have := HA.out; have := HB.out; omega
            go_wp2_with fail
            go_roundw
            case rel => exact ⟨f - 1, j3, _, (spanF l').2, by rw [HF.out, HE.out], by have := HLF.out; have := HLT.out; omega, HJ3.out, HP4.out, HS4.out, HZ4.out, HO4.out⟩
            case measure =>
              rw [leftN_of HP4.out, leftN_of HP.out, HJ3.out, HJ.out]
              exact HLT.out
    · have HE := keepHid (memF_end (s := s) HLF.out hn)
      go_wp2_with fail
      refine HT.out.mono ?_
      rintro e w2 ⟨rfl, ⟨j2, hj2, hp2⟩, ho2⟩
      rw [hn] at hj2 ⊢
      simp only [if_true] at hj2
      have hzs : w.heap.size < wr.heap.size := HZ.out.lt
      have hss : w.heap.size + 1 < wr.heap.size := HS.out.lt
      have hgg : g < w.heap.size := HG.out
      have HS2 := keepHid (HS.out.only ho2 (by intro e; injection e; omega))
      have HZ2 := keepHid (HZ.out.only ho2 (by intro e; injection e; omega))
      have HO2 := keepHid (HO.out.trans ho2)
      have HP2 := keepHid hp2
      have HJ2 := keepHid hj2
      clear hj2 hp2 ho2 hn HT HS HZ HO hzs hss
      obtain ⟨s0, s1, s2, s3, sf⟩ := blk4 HS2.out
      obtain ⟨z0, z1, z2, z3, zf⟩ := blk4 HZ2.out
      go_wp2
      refine bodyPost_ret (v := .tuple #[stV s, .bool true]) (by rw [results_cell_tmp rfl]; go_simp; rfl) rfl ⟨s, true, rfl, (fun _ => by rw [HF.out, HE.out]), (fun h => by cases h), ⟨j2, by rw [HF.out, HE.out, HJ2.out], ?_⟩, ?_⟩
      · exact (((HP2.out.far (by show g ≠ w.heap.size; omega) _).far (by show g ≠ w.heap.size; omega) _).far (by show g ≠ w.heap.size; omega) _).far (by show g ≠ w.heap.size; omega) _
      · exact (((HO2.out.setCell (.inr (Nat.le_refl _)) _).setCell (.inr (Nat.le_refl _)) _).setCell (.inr (Nat.le_refl _)) _).setCell (.inr (Nat.le_refl _)) _






def nd0 : Array Value := #[.int .i64 0, .int .u64 0, .int .u64 0, .int .u64 0, .int .u64 0, .slice none 0 0]
def hdC (h : Hd) : Array Value := #[.int .i64 h.k, .int .u64 (h.s.a.toNat : Int), .int .u64 (h.s.b.toNat : Int), .int .u64 (h.s.c.toNat : Int), .int .u64 (h.s.d.toNat : Int), .slice h.A h.n h.c]
/-- What a part of the reader answers. -/
def ReadPost (g : Nat) (bs : List UInt8) (d : Nat) (x : R Re) (w : World) (e : Ending) (w' : World) : Prop :=
  ∃ (h : Hd) (ok : Bool), e = .returned (.tuple #[hdV h, .bool ok]) ∧ (ok = true → ∃ r, x.1 = some r ∧ IsRe w' w.heap.size h r) ∧ (ok = false → x.1 = none) ∧ Went g bs d x.2 w w'
theorem Ps.far6 {w : World} {g b i d : Nat} {bs : List UInt8} (h : Ps w g bs i d) (hb : g ≠ b) (u0 u1 u2 u3 u4 u5 : Value) :
    Ps ((((((w.setCell ⟨b, 0, none⟩ u0).setCell ⟨b, 1, none⟩ u1).setCell ⟨b, 2, none⟩ u2).setCell ⟨b, 3, none⟩ u3).setCell ⟨b, 4, none⟩ u4).setCell ⟨b, 5, none⟩ u5) g bs i d :=
  (((((h.far hb _).far hb _).far hb _).far hb _).far hb _).far hb _
theorem Only.six {a w : World} {g b : Nat} (h : Only g a w) (hb : a.heap.size ≤ b) (u0 u1 u2 u3 u4 u5 : Value) :
    Only g a ((((((w.setCell ⟨b, 0, none⟩ u0).setCell ⟨b, 1, none⟩ u1).setCell ⟨b, 2, none⟩ u2).setCell ⟨b, 3, none⟩ u3).setCell ⟨b, 4, none⟩ u4).setCell ⟨b, 5, none⟩ u5) :=
  (((((h.setCell (.inr hb) _).setCell (.inr hb) _).setCell (.inr hb) _).setCell (.inr hb) _).setCell (.inr hb) _).setCell (.inr hb) _
theorem Went.six {g d b : Nat} {bs r : List UInt8} {a w : World} (h : Went g bs d r a w) (hg : g ≠ b) (hb : a.heap.size ≤ b) (u0 u1 u2 u3 u4 u5 : Value) :
    Went g bs d r a ((((((w.setCell ⟨b, 0, none⟩ u0).setCell ⟨b, 1, none⟩ u1).setCell ⟨b, 2, none⟩ u2).setCell ⟨b, 3, none⟩ u3).setCell ⟨b, 4, none⟩ u4).setCell ⟨b, 5, none⟩ u5) :=
  ⟨by obtain ⟨i, hi, hp⟩ := h.at_; exact ⟨i, hi, hp.far6 hg _ _ _ _ _ _⟩, h.only.six hb _ _ _ _ _ _⟩
theorem inF_tail (l : List UInt8) : (if nx 94 l.tail then l.tail.tail else l.tail) = inF l := rfl
set_option maxHeartbeats 2000000 in
theorem class_any {g i d : Nat} {bs : List UInt8} {w : World} (h : Ps w g bs i d) (hlt : i < bs.length) :
    Calls Tryz.prog 134 #[.pointer (some ⟨g, 0, none⟩)] w (ReadPost g bs d (clsF (bs.drop i)) w) := by
  obtain ⟨w1, hw1⟩ : ∃ w1, w.alloc (.cells #[.int .i64 0, .int .u64 0, .int .u64 0, .int .u64 0, .int .u64 0, .slice none 0 0] 76) = w1 := ⟨_, rfl⟩
  have HG := keepHid h.lt
  have HM := keepHid h.max
  have hp1 : Ps w1 g bs i d := by rw [← hw1]; exact h.alloc _
  have HZ1 : Hid (Blk w1 w.heap.size 76 nd0) := keepHid (by rw [← hw1]; exact Blk.new _ _ _)
  have HO1 : Hid (Only g w w1) := keepHid (by rw [← hw1]; exact (Only.refl w g).alloc _)
  have HP1 := keepHid hp1
  obtain ⟨c0, c1, c2, cf⟩ := hp1.cells
  have hm : bs.length ≤ 64 := h.max
  have HLT := keepHid hlt
  have htl : bs.drop (i + 1) = (bs.drop i).tail := by rw [List.tail_drop]
  have HTL := keepHid htl
  clear h hp1 htl
  go_enter Tryz.func134, Tryz.ntmps134
  go_wp2_with fail
  have hp2 := HP1.out.put (i + 1) HLT.out
  have ho2 := HO1.out.setCell (p := ⟨g, 1, none⟩) (.inl rfl) (.int .i64 ((i + 1 : Nat) : Int))
  have hz2 := HZ1.out.far (p := ⟨g, 1, none⟩) (by have := HG.out; show w.heap.size ≠ g; omega) (.int .i64 ((i + 1 : Nat) : Int))
  have e1 : ((i + 1 : Nat) : Int) = (i : Int) + 1 := by omega
  rw [e1] at hp2 ho2 hz2
  have HP2 := keepHid hp2
  have HO2 := keepHid ho2
  have HZ2 := keepHid hz2
  clear hp2 ho2 e1 hz2 c0 c1 c2 cf hw1
  generalize w1.setCell ⟨g, 1, none⟩ (.int .i64 ((i : Int) + 1)) = w2 at *
  refine (take_any HP2.out 94 94 rfl).mono ?_
  rintro e w3 ⟨rfl, ⟨j3, hj3, hp3⟩, ho3⟩
  rw [HTL.out] at hj3 ⊢
  have HJ3 := keepHid hj3
  have HP3 := keepHid hp3
  have hzl : w.heap.size < w2.heap.size := HZ2.out.lt
  have hgg : g < w.heap.size := HG.out
  have HO3 := keepHid (HO2.out.trans ho3)
  have HZ3 := keepHid (HZ2.out.only ho3 (by intro e; injection e; omega))
  clear hj3 hp3 ho3 hzl
  obtain ⟨b, hb⟩ : ∃ b, nx 94 (bs.drop i).tail = b := ⟨_, rfl⟩
  have HB := keepHid hb
  rw [hb]
  have HMB := keepHid (members_any HP3.out)
  rw [HJ3.out, inF_tail] at HMB
  clear hb
  go_wp2_with fail
  refine HMB.out.mono ?_
  rintro e w4 ⟨s, ok, rfl, hok, hno, ⟨j4, hj4, hp4⟩, ho4⟩
  have hzl : w.heap.size < w3.heap.size := HZ3.out.lt
  have HO4 := keepHid (HO3.out.trans ho4)
  have HZ4 := keepHid (HZ3.out.only ho4 (by intro e; injection e; omega))
  have HP4 := keepHid hp4
  have HJ4 := keepHid hj4
  have hzl4 : w.heap.size < w4.heap.size := HZ4.out.lt
  unfold stV
  obtain ⟨w5, hw5⟩ : ∃ w5, w4.alloc (.cells #[.int .u64 (s.a.toNat : Int), .int .u64 (s.b.toNat : Int), .int .u64 (s.c.toNat : Int), .int .u64 (s.d.toNat : Int)] 73) = w5 := ⟨_, rfl⟩
  have HP5 : Hid (Ps w5 g bs j4 d) := keepHid (by rw [← hw5]; exact HP4.out.alloc _)
  have HO5 : Hid (Only g w w5) := keepHid (by rw [← hw5]; exact HO4.out.alloc _)
  have HZ5 : Hid (Blk w5 w.heap.size 76 nd0) := keepHid (by rw [← hw5]; exact HZ4.out.alloc _)
  have HS5 : Hid (Blk w5 w4.heap.size 73 (stC s)) := keepHid (by rw [← hw5]; exact Blk.new _ _ _)
  clear hj4 hp4 ho4 hzl HMB
  cases ok
  · have HF : Hid (clsF (bs.drop i) = (none, bs.drop i)) := keepHid (by
      unfold clsF
      have := hno rfl
      generalize memF 65 st0 (inF (bs.drop i)) = x at *
      obtain ⟨o, r⟩ := x
      simp only at this
      subst this; rfl)
    clear hok hno
    obtain ⟨p0, p1, p2, pf⟩ := HP5.out.cells
    obtain ⟨z0, z1, z2, z3, z4, z5, zf⟩ := blk6 HZ5.out
    go_wp2
    refine bodyPost_ret (v := .tuple #[hdV hd0, .bool false]) (by rw [results_cell_tmp rfl]; go_simp; rfl) rfl ⟨hd0, false, rfl, (fun h => by cases h), (fun _ => by rw [HF.out]), ?_⟩
    rw [HF.out]
    have k1 : Went g bs d (bs.drop i) w (w5.setCell ⟨g, 1, none⟩ (.int .i64 (i : Int))) := ⟨⟨i, rfl, HP5.out.put i (Nat.le_of_lt HLT.out)⟩, HO5.out.setCell (.inl rfl) _⟩
    exact k1.six (by omega) (Nat.le_refl _) _ _ _ _ _ _
  · have hmm := hok rfl
    have HF : Hid (clsF (bs.drop i) = (some (.one (if b then notS s else s)), (memF 65 st0 (inF (bs.drop i))).2)) := keepHid (by
      unfold clsF
      rw [HB.out]
      generalize memF 65 st0 (inF (bs.drop i)) = x at *
      obtain ⟨o, r⟩ := x
      simp only at hmm
      subst hmm; rfl)
    clear hok hno hmm
    cases b
    · obtain ⟨s0, s1, s2, s3, sf⟩ := blk4 HS5.out
      have HK := keepHid (fun w => one_any s w)
      unfold stV at HK
      go_wp2_with fail
      refine (HK.out _).mono ?_
      rintro e w6 ⟨rfl, hb6⟩
      have HZ6 := keepHid (HZ5.out.below hb6 HZ5.out.lt)
      have hgl5 : g < w5.heap.size := HP5.out.lt
      have k1 : Hid (Went g bs d (memF 65 st0 (inF (bs.drop i))).2 w w6) := keepHid ⟨⟨j4, HJ4.out, HP5.out.below hb6 hgl5⟩, HO5.out.trans (Only.of_below hb6)⟩
      clear s0 s1 s2 s3 sf hb6 hw5 HK
      obtain ⟨z0, z1, z2, z3, z4, z5, zf⟩ := blk6 HZ6.out
      unfold hdV
      go_wp2
      refine bodyPost_ret (v := .tuple #[hdV ⟨1, s, none, 0, 0⟩, .bool true]) (by rw [results_cell_tmp rfl]; go_simp; rfl) rfl ⟨⟨1, s, none, 0, 0⟩, true, rfl, (fun _ => ⟨.one s, by rw [HF.out]; rfl, rfl⟩), (fun h => by cases h), ?_⟩
      rw [HF.out]
      exact k1.out.six (by omega) (Nat.le_refl _) _ _ _ _ _ _
    · obtain ⟨s0, s1, s2, s3, sf⟩ := blk4 HS5.out
      have HK := keepHid (fun w => not_any s w)
      unfold stV at HK
      go_wp2_with fail
      refine (HK.out _).mono ?_
      rintro e w6 ⟨rfl, hb6⟩
      have HZ6 := keepHid (HZ5.out.below hb6 HZ5.out.lt)
      have HS6 := keepHid (HS5.out.below hb6 HS5.out.lt)
      have hgl5 : g < w5.heap.size := HP5.out.lt
      have k1 : Hid (Went g bs d (memF 65 st0 (inF (bs.drop i))).2 w w6) := keepHid ⟨⟨j4, HJ4.out, HP5.out.below hb6 hgl5⟩, HO5.out.trans (Only.of_below hb6)⟩
      clear s0 s1 s2 s3 sf hb6 hw5 HK
      obtain ⟨s0, s1, s2, s3, sf⟩ := blk4 HS6.out
      obtain ⟨t, ht⟩ : ∃ t, notS s = t := ⟨_, rfl⟩
      rw [ht] at HF ⊢
      clear ht
      have HK := keepHid (fun w => one_any t w)
      unfold stV at HK
      go_wp2_with (go_at_call 135; fail)
      obtain ⟨w7, hw7⟩ : ∃ w7, (((w6.setCell ⟨w4.heap.size, 0, none⟩ (.int .u64 (t.a.toNat : Int))).setCell ⟨w4.heap.size, 1, none⟩ (.int .u64 (t.b.toNat : Int))).setCell ⟨w4.heap.size, 2, none⟩ (.int .u64 (t.c.toNat : Int))).setCell ⟨w4.heap.size, 3, none⟩ (.int .u64 (t.d.toNat : Int)) = w7 := ⟨_, rfl⟩
      have HZ7 : Hid (Blk w7 w.heap.size 76 nd0) := keepHid (by
        rw [← hw7]
        exact (((HZ6.out.far (by show w.heap.size ≠ w4.heap.size; omega) _).far (by show w.heap.size ≠ w4.heap.size; omega) _).far (by show w.heap.size ≠ w4.heap.size; omega) _).far (by show w.heap.size ≠ w4.heap.size; omega) _)
      have k2 : Hid (Went g bs d (memF 65 st0 (inF (bs.drop i))).2 w w7) := keepHid (by
        obtain ⟨⟨j, hj, hp⟩, ho⟩ := k1.out
        rw [← hw7]
        refine ⟨⟨j, hj, ?_⟩, ?_⟩
        · exact (((hp.far (by show g ≠ w4.heap.size; omega) _).far (by show g ≠ w4.heap.size; omega) _).far (by show g ≠ w4.heap.size; omega) _).far (by show g ≠ w4.heap.size; omega) _
        · exact (((ho.setCell (.inr (by show w.heap.size ≤ w4.heap.size; omega)) _).setCell (.inr (by show w.heap.size ≤ w4.heap.size; omega)) _).setCell (.inr (by show w.heap.size ≤ w4.heap.size; omega)) _).setCell (.inr (by show w.heap.size ≤ w4.heap.size; omega)) _)
      rw [hw7]
      clear hw7 s0 s1 s2 s3 sf
      refine (HK.out _).mono ?_
      rintro e w8 ⟨rfl, hb8⟩
      have HZ8 := keepHid (HZ7.out.below hb8 HZ7.out.lt)
      have k3 : Hid (Went g bs d (memF 65 st0 (inF (bs.drop i))).2 w w8) := keepHid (by
        obtain ⟨⟨j, hj, hp⟩, ho⟩ := k2.out
        exact ⟨⟨j, hj, hp.below hb8 hp.lt⟩, ho.trans (Only.of_below hb8)⟩)
      obtain ⟨z0, z1, z2, z3, z4, z5, zf⟩ := blk6 HZ8.out
      clear hb8
      unfold hdV
      go_wp2
      refine bodyPost_ret (v := .tuple #[hdV ⟨1, t, none, 0, 0⟩, .bool true]) (by rw [results_cell_tmp rfl]; go_simp; rfl) rfl ⟨⟨1, t, none, 0, 0⟩, true, rfl, (fun _ => ⟨.one t, by rw [HF.out]; rfl, rfl⟩), (fun h => by cases h), ?_⟩
      rw [HF.out]
      exact k3.out.six (by omega) (Nat.le_refl _) _ _ _ _ _ _






def hdL (h : Hd) : List Value := [.int .i64 h.k, .int .u64 (h.s.a.toNat : Int), .int .u64 (h.s.b.toNat : Int), .int .u64 (h.s.c.toNat : Int), .int .u64 (h.s.d.toNat : Int), .slice h.A h.n h.c]
theorem infoN : (Tryz.prog.info? 76).map (fun i => (i.zero, i.size, i.bytes)) = some (some (.agg nd0), 6, 64) := by kernel_rfl
theorem at6 {w : World} {g : Nat} {h : Hd} (a : AtHd w g 6 h) : w.cell? ⟨g, 6, none⟩ = some (.int .i64 h.k) ∧ w.cell? ⟨g, 7, none⟩ = some (.int .u64 (h.s.a.toNat : Int)) ∧ w.cell? ⟨g, 8, none⟩ = some (.int .u64 (h.s.b.toNat : Int)) ∧
    w.cell? ⟨g, 9, none⟩ = some (.int .u64 (h.s.c.toNat : Int)) ∧ w.cell? ⟨g, 10, none⟩ = some (.int .u64 (h.s.d.toNat : Int)) ∧ w.cell? ⟨g, 11, none⟩ = some (.slice h.A h.n h.c) := ⟨a.c0, a.c1, a.c2, a.c3, a.c4, a.c5⟩
theorem at0 {w : World} {g : Nat} {h : Hd} (a : AtHd w g 0 h) : w.cell? ⟨g, 0, none⟩ = some (.int .i64 h.k) ∧ w.cell? ⟨g, 1, none⟩ = some (.int .u64 (h.s.a.toNat : Int)) ∧ w.cell? ⟨g, 2, none⟩ = some (.int .u64 (h.s.b.toNat : Int)) ∧
    w.cell? ⟨g, 3, none⟩ = some (.int .u64 (h.s.c.toNat : Int)) ∧ w.cell? ⟨g, 4, none⟩ = some (.int .u64 (h.s.d.toNat : Int)) ∧ w.cell? ⟨g, 5, none⟩ = some (.slice h.A h.n h.c) := ⟨a.c0, a.c1, a.c2, a.c3, a.c4, a.c5⟩
theorem zero_add_ad (g k : Nat) : (⟨g, 0, none⟩ : Addr).add k = ⟨g, k, none⟩ := by unfold Addr.add; split <;> simp_all
theorem AtHd.list {w : World} {g : Nat} {h : Hd} (a : AtHd w g 0 h) : ∀ j u, (hdL h)[j]? = some u → w.cell? ((⟨g, 0, none⟩ : Addr).add j) = some u := by
  intro j u hu
  rw [zero_add_ad]
  obtain ⟨c0, c1, c2, c3, c4, c5⟩ := at0 a
  match j with
  | 0 => exact c0.trans hu
  | 1 => exact c1.trans hu
  | 2 => exact c2.trans hu
  | 3 => exact c3.trans hu
  | 4 => exact c4.trans hu
  | 5 => exact c5.trans hu
  | n + 6 => simp [hdL] at hu
theorem own_at0 {w : World} {base g n cap : Nat} {h : Hd} {xs : List Value} (o : w.ownsRow base 76 6 (.slice (some ⟨g, 0, none⟩) n cap) n (hdL h ++ xs)) (hn : 1 ≤ n) : AtHd w g 0 h := by
  have k := fun j (hj : j < 6) => o.cellAt j (by omega)
  exact ⟨k 0 (by omega), k 1 (by omega), k 2 (by omega), k 3 (by omega), k 4 (by omega), k 5 (by omega)⟩
theorem own_at6 {w : World} {base g n cap : Nat} {h k : Hd} (o : w.ownsRow base 76 6 (.slice (some ⟨g, 0, none⟩) n cap) n (hdL h ++ hdL k)) (hn : 2 ≤ n) : AtHd w g 6 k := by
  have q := fun j (hj : j < 12) => o.cellAt j (by omega)
  exact ⟨q 6 (by omega), q 7 (by omega), q 8 (by omega), q 9 (by omega), q 10 (by omega), q 11 (by omega)⟩
section
variable (w : World)
/-- 'append(kids, kid)'. -/
theorem wpList_append_node {ops : Array Oper} {rest : List Oper} {o : Oper} {a : Act} {Q : Exit → Act → World → Prop} (hgd : o.guard = none) (s x : Operand)
    (ho : o.op = .call { callee := .builtin .append, args := #[s, x], argTypes := #[74, 74] })
    (base : Nat) (v : Value) (n : Nat) (xs : List Value) (hs : a.eval s = v) (hown : w.ownsRow base 76 6 v n xs)
    (g : Nat) (hx : a.eval x = .slice (some ⟨g, 0, none⟩) 1 1) (k : Hd) (hk : AtHd w g 0 k)
    (hbytes : (n + 1) * 64 ≤ 140737488355328) (hbase : base ≤ w.heap.size)
    (h : ∀ G cap w', w'.ownsRow base 76 6 (.slice (some ⟨G, 0, none⟩) (n + 1) cap) (n + 1) (xs ++ hdL k) → base ≤ G → n + 1 ≤ cap → cap ≤ maxLen → Turn (fun i => v.ownBlock = some i) w w' → wpList Tryz.prog ops Q rest (a.put o.dst (.slice (some ⟨G, 0, none⟩) (n + 1) cap)) w') : wpList Tryz.prog ops Q (o :: rest) a w := by
  obtain ⟨i, hi⟩ := Option.isSome_iff_exists.1 (show (Tryz.prog.info? 76).isSome = true by kernel_rfl)
  have h0 := infoN
  rw [hi] at h0
  simp only [Option.map_some, Option.some.injEq, Prod.mk.injEq] at h0
  obtain ⟨hz, hsz, hby⟩ := h0
  refine wpList_append_own_at w hgd s x 74 ho base 76 i (.agg nd0) 6 64 Tryz.underlying74 hi hz hsz hby rfl (by omega) v n xs hs hown ⟨g, 0, none⟩ 1 1 (hdL k) hx rfl hk.list ?_ (by unfold maxLen; omega) hbytes hbase ?_
  · intro u hu
    simp [hdL] at hu
    rcases hu with rfl | rfl | rfl | rfl | rfl | rfl <;> rfl
  · intro v' w' ho' hg' _ hv'
    rcases ho'.2 with ⟨_, h0⟩ | ⟨G, cap, cur, rfl, hb, hgg, h1, h2, _⟩
    · omega
    · exact h G cap w' ho' hb h1 h2 (turn_grown hg')
end

theorem six_far {w : World} {b j : Nat} {u0 u1 u2 u3 u4 u5 : Value} (h : j ≠ b) :
    ((((((w.setCell ⟨b, 0, none⟩ u0).setCell ⟨b, 1, none⟩ u1).setCell ⟨b, 2, none⟩ u2).setCell ⟨b, 3, none⟩ u3).setCell ⟨b, 4, none⟩ u4).setCell ⟨b, 5, none⟩ u5).heap[j]? = w.heap[j]? := by
  rw [heap_setCell_other _ _ _ _ h, heap_setCell_other _ _ _ _ h, heap_setCell_other _ _ _ _ h, heap_setCell_other _ _ _ _ h, heap_setCell_other _ _ _ _ h, heap_setCell_other _ _ _ _ h]
def ClonePost (r : Re) (w : World) (e : Ending) (w' : World) : Prop := ∃ h, e = .returned (hdV h) ∧ IsRe w' w.heap.size h r ∧ Below w.heap.size w w'
set_option maxHeartbeats 2000000 in
theorem clone0 (k : Int) (s : St) (w : World) : Calls Tryz.prog 130 #[hdV ⟨k, s, none, 0, 0⟩] w fun e w' => e = .returned (hdV ⟨k, s, none, 0, 0⟩) ∧ Below w.heap.size w w' := by
  unfold hdV
  generalize s.a.toNat = a at *
  generalize s.b.toNat = b at *
  generalize s.c.toNat = c at *
  generalize s.d.toNat = d at *
  go_enter Tryz.func130, Tryz.ntmps130
  go_wp2_with fail
  refine wp_loop_rounds 1 ?_
  rw [rounds_succ]
  go_wp2_with fail
  refine bodyPost_ret (v := .agg #[.int .i64 k, .int .u64 (a : Int), .int .u64 (b : Int), .int .u64 (c : Int), .int .u64 (d : Int), .slice none 0 0]) (by rw [results_cell_one rfl]; go_simp) rfl ⟨rfl, ?_⟩
  (repeat' (first | exact Below.refl _ _ | refine Below.setCell ?_ (by simp <;> omega) _ | refine Below.alloc ?_ (by simp <;> omega) _))

set_option maxHeartbeats 2000000 in
theorem clone1 (k : Int) (s : St) (g c lo : Nat) (x : Hd) (a : Re) (w : World) (HX : ∀ w, IsRe w lo x a → Calls Tryz.prog 130 #[hdV x] w (ClonePost a w)) (hc : 1 ≤ c) (hcm : c ≤ maxLen) (ax : AtHd w g 0 x) (ix : IsRe w lo x a) :
    Calls Tryz.prog 130 #[hdV ⟨k, s, some ⟨g, 0, none⟩, 1, c⟩] w fun e w' => ∃ g' c' x', e = .returned (hdV ⟨k, s, some ⟨g', 0, none⟩, 1, c'⟩) ∧ 1 ≤ c' ∧ c' ≤ maxLen ∧ w.heap.size ≤ g' ∧ AtHd w' g' 0 x' ∧ IsRe w' w.heap.size x' a ∧ Below w.heap.size w w' := by
  obtain ⟨w1, hw1⟩ : ∃ w1, (w.alloc (.cells #[.int .i64 k, .int .u64 (s.a.toNat : Int), .int .u64 (s.b.toNat : Int), .int .u64 (s.c.toNat : Int), .int .u64 (s.d.toNat : Int), .slice (some ⟨g, 0, none⟩) 1 c] 76)).alloc (.cells #[.int .i64 0, .int .u64 0, .int .u64 0, .int .u64 0, .int .u64 0, .slice none 0 0] 76) = w1 := ⟨_, rfl⟩
  have hb1 : Below w.heap.size w w1 := by rw [← hw1]; exact ((Below.refl _ _).alloc (Nat.le_refl _) _).alloc (by simp) _
  have HZ1 : Hid (Blk w1 (w.heap.size + 1) 76 nd0) := keepHid (by rw [← hw1]; exact Blk.new_at _ _ _ _ (by simp))
  have hk1 : Blk w1 w.heap.size 76 #[.int .i64 k, .int .u64 (s.a.toNat : Int), .int .u64 (s.b.toNat : Int), .int .u64 (s.c.toNat : Int), .int .u64 (s.d.toNat : Int), .slice (some ⟨g, 0, none⟩) 1 c] := by rw [← hw1]; exact (Blk.new _ _ _).alloc _
  have HK1 := keepHid hk1
  obtain ⟨k0, k1, k2, k3, k4, k5, kf⟩ := blk6 hk1
  have HB1 := keepHid hb1
  have hgl := ax.lt
  have HA1 : Hid (AtHd w1 g 0 x) := keepHid (ax.keep (hb1.block g hgl))
  have HI1 : Hid (IsRe w1 lo x a) := keepHid (ix.below hb1)
  obtain ⟨x0, x1, x2, x3, x4, x5⟩ := at0 HA1.out
  have hc' : (1 : Int) ≤ (c : Int) := by omega
  have HXX := keepHid HX
  clear hb1 hk1 ax ix hgl HX
  unfold hdV
  go_enter Tryz.func130, Tryz.ntmps130
  go_wp2_with fail
  refine wp_loop_rounds 2 ?_
  rw [rounds_succ]
  go_wp2_with (go_at_call 130; fail)
  have HT1 : Hid (w1.heap.size = w.heap.size + 2) := keepHid (by rw [← hw1]; simp)
  clear hw1
  obtain ⟨w2, hw2⟩ : ∃ w2, w1.alloc (.cells #[.int .i64 x.k, .int .u64 (x.s.a.toNat : Int), .int .u64 (x.s.b.toNat : Int), .int .u64 (x.s.c.toNat : Int), .int .u64 (x.s.d.toNat : Int), .slice x.A x.n x.c] 76) = w2 := ⟨_, rfl⟩
  have hb12 : Below w1.heap.size w1 w2 := by rw [← hw2]; exact (Below.refl _ _).alloc (Nat.le_refl _) _
  rw [hw2]
  have hsz2 : w2.heap.size = w.heap.size + 3 := by rw [← hw2]; have := HT1.out; simp; omega
  refine (HXX.out w2 (HI1.out.below hb12)).mono ?_
  rintro e w3 ⟨x', rfl, ix', hb23⟩
  have hb13 := hb12.trans (hb23.mono hb12.size)
  have hk3 := HK1.out.below hb13 HK1.out.lt
  have hz3 := HZ1.out.below hb13 HZ1.out.lt
  have HB3 := keepHid (HB1.out.trans (hb13.mono HB1.out.size))
  have hsz3 := hb23.size
  obtain ⟨w4, hw4⟩ : ∃ w4, w3.alloc (.cells #[.int .i64 x'.k, .int .u64 (x'.s.a.toNat : Int), .int .u64 (x'.s.b.toNat : Int), .int .u64 (x'.s.c.toNat : Int), .int .u64 (x'.s.d.toNat : Int), .slice x'.A x'.n x'.c] 76) = w4 := ⟨_, rfl⟩
  have HW4 := keepHid hw4
  have HA4 : Hid (AtHd w4 w3.heap.size 0 x') := keepHid (by rw [← hw4]; exact blk_at (Blk.new _ _ _))
  have hb34 : Below w3.heap.size w3 w4 := by rw [← hw4]; exact (Below.refl _ _).alloc (Nat.le_refl _) _
  have HI4 : Hid (IsRe w4 (w.heap.size + 2) x' a) := keepHid ((ix'.low (by omega)).below hb34)
  have hsz4 : w4.heap.size = w3.heap.size + 1 := by rw [← hw4]; simp
  have HZ4 := keepHid (hz3.below hb34 hz3.lt)
  have HK4 := keepHid (hk3.below hb34 hk3.lt)
  have HB4 := keepHid (HB3.out.trans (hb34.mono HB3.out.size))
  have HS4 : Hid (w.heap.size + 4 ≤ w4.heap.size) := keepHid (by omega)
  clear hb12 hb23 hb13 hk3 hz3 hsz2 hsz3 hw2 hw4 hb34 hsz4 ix' k0 k1 k2 k3 k4 k5 kf x0 x1 x2 x3 x4 x5
  obtain ⟨k0, k1, k2, k3, k4, k5, kf⟩ := blk6 HK4.out
  unfold hdV
  go_wp2_with (at_builtin; rw [HW4.out]; go_loud (refine wpList_append_node _ rfl _ _ rfl w4.heap.size (.slice none 0 0) 0 [] (by rfl) (World.ownsRow_nil _ _ _ _) w3.heap.size (by rfl) x' HA4.out (by omega) (Nat.le_refl _) ?_))
  intro G cap w5 ho5 hG5 hc5 hm5 ht5
  have hb45 : Below w4.heap.size w4 w5 := ht5.below (fun i hi => by simp [Value.ownBlock] at hi) (Nat.le_refl _)
  have HO5 := keepHid ho5
  have HG5 := keepHid hG5
  have HC5 := keepHid hc5
  have HM5 := keepHid hm5
  have HI5 := keepHid (HI4.out.below hb45)
  have HZ5 := keepHid (HZ4.out.below hb45 HZ4.out.lt)
  have HK5 := keepHid (HK4.out.below hb45 HK4.out.lt)
  have HB5 := keepHid (HB4.out.trans (hb45.mono HB4.out.size))
  have hsz5 := hb45.size
  clear ho5 hG5 hc5 hm5 ht5 hb45 k0 k1 k2 k3 k4 k5 kf
  obtain ⟨k0, k1, k2, k3, k4, k5, kf⟩ := blk6 HK5.out
  obtain ⟨z0, z1, z2, z3, z4, z5, zf⟩ := blk6 HZ5.out
  go_wp2_with fail
  rw [rounds_succ]
  go_wp2_with fail
  refine bodyPost_ret (v := hdV ⟨k, s, some ⟨G, 0, none⟩, 1, cap⟩) (by rw [results_cell_one rfl]; go_simp; rfl) rfl ?_
  have hs4 := HS4.out
  have hg5 := HG5.out
  have hGl : G < w5.heap.size := (own_at0 (xs := []) (by simpa using HO5.out) (Nat.le_refl _)).lt
  refine ⟨G, cap, x', rfl, HC5.out, HM5.out, by omega, ?_, ?_, ?_⟩
  · exact (own_at0 (xs := []) (by simpa using HO5.out) (Nat.le_refl _)).keep (six_far (by omega))
  · exact (HI5.out.keep (fun j hj hl => six_far (by omega))).low (by omega)
  · exact ((((((HB5.out.setCell (by show w.heap.size ≤ w.heap.size + 1; omega) _).setCell (by show w.heap.size ≤ w.heap.size + 1; omega) _).setCell (by show w.heap.size ≤ w.heap.size + 1; omega) _).setCell (by show w.heap.size ≤ w.heap.size + 1; omega) _).setCell (by show w.heap.size ≤ w.heap.size + 1; omega) _).setCell (by show w.heap.size ≤ w.heap.size + 1; omega) _)
set_option maxHeartbeats 2000000 in
theorem clone2 (k : Int) (s : St) (g c lo : Nat) (x y : Hd) (a b : Re) (w : World) (HX : ∀ w, IsRe w lo x a → Calls Tryz.prog 130 #[hdV x] w (ClonePost a w)) (HY : ∀ w, IsRe w lo y b → Calls Tryz.prog 130 #[hdV y] w (ClonePost b w)) (hc : 2 ≤ c) (hcm : c ≤ maxLen) (ax : AtHd w g 0 x) (ay : AtHd w g 6 y) (ix : IsRe w lo x a) (iy : IsRe w lo y b) :
    Calls Tryz.prog 130 #[hdV ⟨k, s, some ⟨g, 0, none⟩, 2, c⟩] w fun e w' => ∃ g' c' x' y', e = .returned (hdV ⟨k, s, some ⟨g', 0, none⟩, 2, c'⟩) ∧ 2 ≤ c' ∧ c' ≤ maxLen ∧ w.heap.size ≤ g' ∧ AtHd w' g' 0 x' ∧ AtHd w' g' 6 y' ∧ IsRe w' w.heap.size x' a ∧ IsRe w' w.heap.size y' b ∧ Below w.heap.size w w' := by
  obtain ⟨w1, hw1⟩ : ∃ w1, (w.alloc (.cells #[.int .i64 k, .int .u64 (s.a.toNat : Int), .int .u64 (s.b.toNat : Int), .int .u64 (s.c.toNat : Int), .int .u64 (s.d.toNat : Int), .slice (some ⟨g, 0, none⟩) 2 c] 76)).alloc (.cells #[.int .i64 0, .int .u64 0, .int .u64 0, .int .u64 0, .int .u64 0, .slice none 0 0] 76) = w1 := ⟨_, rfl⟩
  have hb1 : Below w.heap.size w w1 := by rw [← hw1]; exact ((Below.refl _ _).alloc (Nat.le_refl _) _).alloc (by simp) _
  have HZ1 : Hid (Blk w1 (w.heap.size + 1) 76 nd0) := keepHid (by rw [← hw1]; exact Blk.new_at _ _ _ _ (by simp))
  have hk1 : Blk w1 w.heap.size 76 #[.int .i64 k, .int .u64 (s.a.toNat : Int), .int .u64 (s.b.toNat : Int), .int .u64 (s.c.toNat : Int), .int .u64 (s.d.toNat : Int), .slice (some ⟨g, 0, none⟩) 2 c] := by rw [← hw1]; exact (Blk.new _ _ _).alloc _
  have HK1 := keepHid hk1
  obtain ⟨k0, k1, k2, k3, k4, k5, kf⟩ := blk6 hk1
  have HB1 := keepHid hb1
  have hgl := ax.lt
  have HA1 : Hid (AtHd w1 g 0 x) := keepHid (ax.keep (hb1.block g hgl))
  have HI1 : Hid (IsRe w1 lo x a) := keepHid (ix.below hb1)
  have HAY1 : Hid (AtHd w1 g 6 y) := keepHid (ay.keep (hb1.block g hgl))
  have HIY1 : Hid (IsRe w1 lo y b) := keepHid (iy.below hb1)
  obtain ⟨x0, x1, x2, x3, x4, x5⟩ := at0 HA1.out
  have hc' : (2 : Int) ≤ (c : Int) := by omega
  have HXX := keepHid HX
  have HYY := keepHid HY
  clear hb1 hk1 ax ix ay iy hgl HX HY
  unfold hdV
  go_enter Tryz.func130, Tryz.ntmps130
  go_wp2_with fail
  refine wp_loop_rounds 3 ?_
  rw [rounds_succ]
  go_wp2_with (go_at_call 130; fail)
  have HT1 : Hid (w1.heap.size = w.heap.size + 2) := keepHid (by rw [← hw1]; simp)
  clear hw1
  obtain ⟨w2, hw2⟩ : ∃ w2, w1.alloc (.cells #[.int .i64 x.k, .int .u64 (x.s.a.toNat : Int), .int .u64 (x.s.b.toNat : Int), .int .u64 (x.s.c.toNat : Int), .int .u64 (x.s.d.toNat : Int), .slice x.A x.n x.c] 76) = w2 := ⟨_, rfl⟩
  have hb12 : Below w1.heap.size w1 w2 := by rw [← hw2]; exact (Below.refl _ _).alloc (Nat.le_refl _) _
  rw [hw2]
  have hsz2 : w2.heap.size = w.heap.size + 3 := by rw [← hw2]; have := HT1.out; simp; omega
  refine (HXX.out w2 (HI1.out.below hb12)).mono ?_
  rintro e w3 ⟨x', rfl, ix', hb23⟩
  have hb13 := hb12.trans (hb23.mono hb12.size)
  have HAY3 := keepHid (HAY1.out.keep (hb13.block g HAY1.out.lt))
  have HIY3 := keepHid (HIY1.out.below hb13)
  have hk3 := HK1.out.below hb13 HK1.out.lt
  have hz3 := HZ1.out.below hb13 HZ1.out.lt
  have HB3 := keepHid (HB1.out.trans (hb13.mono HB1.out.size))
  have hsz3 := hb23.size
  obtain ⟨w4, hw4⟩ : ∃ w4, w3.alloc (.cells #[.int .i64 x'.k, .int .u64 (x'.s.a.toNat : Int), .int .u64 (x'.s.b.toNat : Int), .int .u64 (x'.s.c.toNat : Int), .int .u64 (x'.s.d.toNat : Int), .slice x'.A x'.n x'.c] 76) = w4 := ⟨_, rfl⟩
  have HW4 := keepHid hw4
  have HA4 : Hid (AtHd w4 w3.heap.size 0 x') := keepHid (by rw [← hw4]; exact blk_at (Blk.new _ _ _))
  have hb34 : Below w3.heap.size w3 w4 := by rw [← hw4]; exact (Below.refl _ _).alloc (Nat.le_refl _) _
  have HI4 : Hid (IsRe w4 (w.heap.size + 2) x' a) := keepHid ((ix'.low (by omega)).below hb34)
  have hsz4 : w4.heap.size = w3.heap.size + 1 := by rw [← hw4]; simp
  have HZ4 := keepHid (hz3.below hb34 hz3.lt)
  have HK4 := keepHid (hk3.below hb34 hk3.lt)
  have HB4 := keepHid (HB3.out.trans (hb34.mono HB3.out.size))
  have HAY4 := keepHid (HAY3.out.keep (hb34.block g HAY3.out.lt))
  have HIY4 := keepHid (HIY3.out.below hb34)
  have HS4 : Hid (w.heap.size + 4 ≤ w4.heap.size) := keepHid (by omega)
  clear hb12 hb23 hb13 hk3 hz3 hsz2 hsz3 hw2 hw4 hb34 hsz4 ix' k0 k1 k2 k3 k4 k5 kf x0 x1 x2 x3 x4 x5
  obtain ⟨k0, k1, k2, k3, k4, k5, kf⟩ := blk6 HK4.out
  unfold hdV
  go_wp2_with (at_builtin; rw [HW4.out]; go_loud (refine wpList_append_node _ rfl _ _ rfl w4.heap.size (.slice none 0 0) 0 [] (by rfl) (World.ownsRow_nil _ _ _ _) w3.heap.size (by rfl) x' HA4.out (by omega) (Nat.le_refl _) ?_))
  intro G cap w5 ho5 hG5 hc5 hm5 ht5
  have hb45 : Below w4.heap.size w4 w5 := ht5.below (fun i hi => by simp [Value.ownBlock] at hi) (Nat.le_refl _)
  have HO5 := keepHid ho5
  have HG5 := keepHid hG5
  have HI5 := keepHid (HI4.out.below hb45)
  have HZ5 := keepHid (HZ4.out.below hb45 HZ4.out.lt)
  have HK5 := keepHid (HK4.out.below hb45 HK4.out.lt)
  have HB5 := keepHid (HB4.out.trans (hb45.mono HB4.out.size))
  have HAY5 := keepHid (HAY4.out.keep (hb45.block g HAY4.out.lt))
  have HIY5 := keepHid (HIY4.out.below hb45)
  have hsz5 := hb45.size
  have HS5 : Hid (w.heap.size + 4 ≤ w5.heap.size) := keepHid (by have := HS4.out; omega)
  have HGL5 : Hid (G < w5.heap.size) := keepHid (own_at0 (xs := []) (by simpa using ho5) (Nat.le_refl _)).lt
  have HL5 := keepHid hsz5
  have HB45 := keepHid hb45
  clear ho5 hG5 hc5 hm5 ht5 hb45 hsz5 k0 k1 k2 k3 k4 k5 kf
  obtain ⟨k0, k1, k2, k3, k4, k5, kf⟩ := blk6 HK5.out
  obtain ⟨x0, x1, x2, x3, x4, x5⟩ := at6 HAY5.out
  go_wp2_with fail
  rw [rounds_succ]
  go_wp2_with (go_at_call 130; fail)
  obtain ⟨w6, hw6⟩ : ∃ w6, w5.alloc (.cells #[.int .i64 y.k, .int .u64 (y.s.a.toNat : Int), .int .u64 (y.s.b.toNat : Int), .int .u64 (y.s.c.toNat : Int), .int .u64 (y.s.d.toNat : Int), .slice y.A y.n y.c] 76) = w6 := ⟨_, rfl⟩
  have hb56 : Below w5.heap.size w5 w6 := by rw [← hw6]; exact (Below.refl _ _).alloc (Nat.le_refl _) _
  rw [hw6]
  have hsz6 := hb56.size
  refine (HYY.out w6 (HIY5.out.below hb56)).mono ?_
  rintro e w7 ⟨y', rfl, iy', hb67⟩
  have hb57 := hb56.trans (hb67.mono hb56.size)
  have hk7 := HK5.out.below hb57 HK5.out.lt
  have hz7 := HZ5.out.below hb57 HZ5.out.lt
  have hi7 := HI5.out.below hb57
  have HB7 := keepHid (HB5.out.trans (hb57.mono HB5.out.size))
  have ho7 := HO5.out.kept (w' := w7) (row := none) ⟨hb57.os, hb57.tape, hb57.output, hb57.size, fun i hi _ => hb57.block i hi⟩ (.inr (by simp [Value.ownBlock]))
  have hsz7 := hb67.size
  obtain ⟨w8, hw8⟩ : ∃ w8, w7.alloc (.cells #[.int .i64 y'.k, .int .u64 (y'.s.a.toNat : Int), .int .u64 (y'.s.b.toNat : Int), .int .u64 (y'.s.c.toNat : Int), .int .u64 (y'.s.d.toNat : Int), .slice y'.A y'.n y'.c] 76) = w8 := ⟨_, rfl⟩
  have HW8 := keepHid hw8
  have HA8 : Hid (AtHd w8 w7.heap.size 0 y') := keepHid (by rw [← hw8]; exact blk_at (Blk.new _ _ _))
  have hb78 : Below w7.heap.size w7 w8 := by rw [← hw8]; exact (Below.refl _ _).alloc (Nat.le_refl _) _
  have HO8 : Hid (w8.ownsRow w4.heap.size 76 6 (.slice (some ⟨G, 0, none⟩) 1 cap) 1 ([] ++ hdL x')) := keepHid (by rw [← hw8]; exact ho7.alloc _)
  have HI8 := keepHid (hi7.below hb78)
  have HIY8 : Hid (IsRe w8 w5.heap.size y' b) := keepHid ((iy'.low hsz6).below hb78)
  have hsz8 : w8.heap.size = w7.heap.size + 1 := by rw [← hw8]; simp
  have HZ8 := keepHid (hz7.below hb78 hz7.lt)
  have HK8 := keepHid (hk7.below hb78 hk7.lt)
  have HB8 := keepHid (HB7.out.trans (hb78.mono HB7.out.size))
  have HB48 : Hid (Below w4.heap.size w4 w8) := keepHid (HB45.out.trans ((hb57.mono HL5.out).trans (hb78.mono (by have := HL5.out; omega))))
  have HS8 : Hid (w5.heap.size ≤ w8.heap.size) := keepHid (by omega)
  have hbs8 : w4.heap.size ≤ w8.heap.size := by have := HL5.out; omega
  clear hb56 hb67 hb57 hk7 hz7 hi7 ho7 hsz6 hsz7 hw6 hw8 hb78 hsz8 iy' k0 k1 k2 k3 k4 k5 kf x0 x1 x2 x3 x4 x5
  obtain ⟨k0, k1, k2, k3, k4, k5, kf⟩ := blk6 HK8.out
  unfold hdV
  go_wp2_with (at_builtin; rw [HW8.out]; go_loud (refine wpList_append_node _ rfl _ _ rfl w4.heap.size (.slice (some ⟨G, 0, none⟩) 1 cap) 1 ([] ++ hdL x') (by rfl) HO8.out w7.heap.size (by rfl) y' HA8.out (by omega) hbs8 ?_))
  intro G2 cap2 w9 ho9 hG9 hc9 hm9 ht9
  have hb89 : Below w4.heap.size w8 w9 := ht9.below (fun i hi => by have := HG5.out; simp [Value.ownBlock] at hi; omega) hbs8
  have HO9 := keepHid ho9
  have HG9 := keepHid hG9
  have HC9 := keepHid hc9
  have HM9 := keepHid hm9
  have hgg5 := HG5.out
  have HI9 : Hid (IsRe w9 (w.heap.size + 2) x' a) := keepHid (HI4.out.below (HB48.out.trans hb89))
  have HIY9 : Hid (IsRe w9 w5.heap.size y' b) := keepHid (HIY8.out.keep fun j hj hl => ht9.block j hl (by have := HGL5.out; simp [Value.ownBlock]; omega))
  have HK9 := keepHid (HK8.out.below hb89 (by have := HS4.out; omega))
  have HZ9 := keepHid (HZ8.out.below hb89 (by have := HS4.out; omega))
  have HB9 := keepHid (HB8.out.trans (hb89.mono (by have := HS4.out; omega)))
  clear ho9 hG9 hc9 hm9 ht9 hb89 k0 k1 k2 k3 k4 k5 kf
  obtain ⟨k0, k1, k2, k3, k4, k5, kf⟩ := blk6 HK9.out
  obtain ⟨z0, z1, z2, z3, z4, z5, zf⟩ := blk6 HZ9.out
  go_wp2_with fail
  rw [rounds_succ]
  go_wp2_with fail
  refine bodyPost_ret (v := hdV ⟨k, s, some ⟨G2, 0, none⟩, 2, cap2⟩) (by rw [results_cell_one rfl]; go_simp; rfl) rfl ?_
  have hs4 := HS4.out
  have hs5 := HS5.out
  have hg9 := HG9.out
  refine ⟨G2, cap2, x', y', rfl, HC9.out, HM9.out, by omega, ?_, ?_, ?_, ?_, ?_⟩
  · exact (own_at0 HO9.out (by omega)).keep (six_far (by omega))
  · exact (own_at6 HO9.out (by omega)).keep (six_far (by omega))
  · exact (HI9.out.keep (fun j hj hl => six_far (by omega))).low (by omega)
  · exact (HIY9.out.keep (fun j hj hl => six_far (by omega))).low (by omega)
  · exact ((((((HB9.out.setCell (by show w.heap.size ≤ w.heap.size + 1; omega) _).setCell (by show w.heap.size ≤ w.heap.size + 1; omega) _).setCell (by show w.heap.size ≤ w.heap.size + 1; omega) _).setCell (by show w.heap.size ≤ w.heap.size + 1; omega) _).setCell (by show w.heap.size ≤ w.heap.size + 1; omega) _).setCell (by show w.heap.size ≤ w.heap.size + 1; omega) _)

theorem clone_any : ∀ (r : Re) (h : Hd) (lo : Nat) (w : World), IsRe w lo h r → Calls Tryz.prog 130 #[hdV h] w (ClonePost r w)
  | .nil, h, lo, w, hi => by
    obtain rfl : h = hd0 := hi
    exact (clone0 0 st0 w).mono fun e w' ⟨he, hb⟩ => ⟨hd0, he, rfl, hb⟩
  | .one s, h, lo, w, hi => by
    obtain rfl : h = ⟨1, s, none, 0, 0⟩ := hi
    exact (clone0 1 s w).mono fun e w' ⟨he, hb⟩ => ⟨_, he, rfl, hb⟩
  | .star a, h, lo, w, hi => by
    obtain ⟨g, c, x, rfl, h1, h2, hl, ax, ix⟩ := hi
    exact (clone1 4 st0 g c lo x a w (fun w => clone_any a x lo w) h1 h2 ax ix).mono fun e w' ⟨g', c', x', he, q1, q2, q3, q4, q5, hb⟩ => ⟨_, he, ⟨g', c', x', rfl, q1, q2, q3, q4, q5⟩, hb⟩
  | .thn a b, h, lo, w, hi => by
    obtain ⟨g, c, x, y, rfl, h1, h2, hl, ax, ay, ix, iy⟩ := hi
    exact (clone2 2 st0 g c lo x y a b w (fun w => clone_any a x lo w) (fun w => clone_any b y lo w) h1 h2 ax ay ix iy).mono fun e w' ⟨g', c', x', y', he, q1, q2, q3, q4, q5, q6, q7, hb⟩ => ⟨_, he, ⟨g', c', x', y', rfl, q1, q2, q3, q4, q5, q6, q7⟩, hb⟩
  | .alt a b, h, lo, w, hi => by
    obtain ⟨g, c, x, y, rfl, h1, h2, hl, ax, ay, ix, iy⟩ := hi
    exact (clone2 3 st0 g c lo x y a b w (fun w => clone_any a x lo w) (fun w => clone_any b y lo w) h1 h2 ax ay ix iy).mono fun e w' ⟨g', c', x', y', he, q1, q2, q3, q4, q5, q6, q7, hb⟩ => ⟨_, he, ⟨g', c', x', y', rfl, q1, q2, q3, q4, q5, q6, q7⟩, hb⟩






def Spec (f : FuncId) (d : Nat) (F : List UInt8 → R Re) : Prop := ∀ (g : Nat) (bs : List UInt8) (i : Nat) (w : World), Ps w g bs i d → Calls Tryz.prog f #[.pointer (some ⟨g, 0, none⟩)] w (ReadPost g bs d (F (bs.drop i)) w)
def Spec1 (f : FuncId) (d : Nat) (F : List UInt8 → R Re) : Prop := ∀ (g : Nat) (bs : List UInt8) (i : Nat) (w : World), Ps w g bs i d → i < bs.length → Calls Tryz.prog f #[.pointer (some ⟨g, 0, none⟩)] w (ReadPost g bs d (F (bs.drop i)) w)
theorem node_new {w w1 : World} (h : w.alloc (.cells #[.int .i64 0, .int .u64 0, .int .u64 0, .int .u64 0, .int .u64 0, .slice none 0 0] 76) = w1) : Blk w1 w.heap.size 76 nd0 := by rw [← h]; exact Blk.new _ _ _
theorem Went.drew {g d : Nat} {bs r : List UInt8} {a w : World} (h : Went g bs d r a w) : Went g bs d r a w.drew := ⟨by obtain ⟨i, hi, hp⟩ := h.at_; exact ⟨i, hi, hp.drewN 1⟩, h.only.drew⟩
set_option maxHeartbeats 2000000 in
theorem group_full (g : Nat) (bs : List UInt8) (i : Nat) (w : World) (h : Ps w g bs i 6) :
    Calls Tryz.prog 133 #[.pointer (some ⟨g, 0, none⟩)] w (ReadPost g bs 6 (none, bs.drop i) w) := by
  obtain ⟨w1, hw1⟩ : ∃ w1, w.alloc (.cells #[.int .i64 0, .int .u64 0, .int .u64 0, .int .u64 0, .int .u64 0, .slice none 0 0] 76) = w1 := ⟨_, rfl⟩
  have HG := keepHid h.lt
  have hp1 : Ps w1 g bs i 6 := by rw [← hw1]; exact h.alloc _
  have hz1 := node_new hw1
  have HO1 : Hid (Only g w w1) := keepHid (by rw [← hw1]; exact (Only.refl w g).alloc _)
  have HP1 := keepHid hp1
  obtain ⟨c0, c1, c2, cf⟩ := hp1.cells
  obtain ⟨z0, z1, z2, z3, z4, z5, zf⟩ := blk6 hz1
  clear h hp1 hz1
  go_enter Tryz.func133, Tryz.ntmps133
  go_wp2
  refine bodyPost_ret (v := .tuple #[hdV hd0, .bool false]) (by rw [results_cell_tmp rfl]; go_simp; rfl) rfl ⟨hd0, false, rfl, (fun h => by cases h), (fun _ => rfl), ?_⟩
  have k1 : Went g bs 6 (bs.drop i) w w1 := ⟨⟨i, rfl, HP1.out⟩, HO1.out⟩
  exact k1.six (by have := HG.out; omega) (Nat.le_refl _) _ _ _ _ _ _
set_option maxHeartbeats 800000 in
theorem group_less (d : Nat) (alt : List UInt8 → R Re) (hd : d < 6) (H : Spec 90 (d + 1) alt) : Spec1 133 d (grpF alt) := by
  intro g bs i w h hlt
  obtain ⟨w1, hw1⟩ : ∃ w1, w.alloc (.cells #[.int .i64 0, .int .u64 0, .int .u64 0, .int .u64 0, .int .u64 0, .slice none 0 0] 76) = w1 := ⟨_, rfl⟩
  have HG := keepHid h.lt
  have hp1 : Ps w1 g bs i d := by rw [← hw1]; exact h.alloc _
  have HZ1 := keepHid (node_new hw1)
  have HO1 : Hid (Only g w w1) := keepHid (by rw [← hw1]; exact (Only.refl w g).alloc _)
  have HP1 := keepHid hp1
  have HH := keepHid H
  obtain ⟨c0, c1, c2, cf⟩ := hp1.cells
  have hm : bs.length ≤ 64 := h.max
  have hd2 : ((d : Int) == 6) = false := by simp; omega
  have hd3 : ¬ (d : Int) = 6 := by omega
  have hd4 : (d : Int) < 6 := by omega
  have HTL : Hid (bs.drop (i + 1) = (bs.drop i).tail) := keepHid (by rw [List.tail_drop])
  have HLT := keepHid hlt
  clear h hp1 H
  go_enter Tryz.func133, Tryz.ntmps133
  go_wp2_with fail
  have hp2 := (HP1.out.put (i + 1) HLT.out).deep (d + 1)
  have ho2 := (HO1.out.setCell (p := ⟨g, 1, none⟩) (.inl rfl) (.int .i64 ((i + 1 : Nat) : Int))).setCell (p := ⟨g, 2, none⟩) (.inl rfl) (.int .i64 ((d + 1 : Nat) : Int))
  have hz2 := (HZ1.out.far (p := ⟨g, 1, none⟩) (by have := HG.out; show w.heap.size ≠ g; omega) (.int .i64 ((i + 1 : Nat) : Int))).far (p := ⟨g, 2, none⟩) (by have := HG.out; show w.heap.size ≠ g; omega) (.int .i64 ((d + 1 : Nat) : Int))
  have e1 : ((i + 1 : Nat) : Int) = (i : Int) + 1 := by omega
  have e2 : ((d + 1 : Nat) : Int) = (d : Int) + 1 := by omega
  rw [e1, e2] at hp2 ho2 hz2
  have HP2 := keepHid hp2
  have HO2 := keepHid ho2
  have HZ2 := keepHid hz2
  clear hp2 ho2 e1 e2 hz2 c0 c1 c2 cf hw1
  generalize (w1.setCell ⟨g, 1, none⟩ (.int .i64 ((i : Int) + 1))).setCell ⟨g, 2, none⟩ (.int .i64 ((d : Int) + 1)) = w2 at *
  refine (HH.out g bs (i + 1) w2 HP2.out).mono ?_
  rintro e w3 ⟨n, ok, rfl, hok, hno, ⟨j3, hj3, hp3⟩, ho3⟩
  rw [HTL.out] at hok hno hj3
  have hzl : w.heap.size < w2.heap.size := HZ2.out.lt
  have hgg : g < w.heap.size := HG.out
  have HO3 := keepHid (HO2.out.trans ho3)
  have HZ3 := keepHid (HZ2.out.only ho3 (by intro e; injection e; omega))
  have HP3 := keepHid hp3
  have HJ3 := keepHid hj3
  have hz3l := HZ3.out.lt
  obtain ⟨w4, hw4⟩ : ∃ w4, w3.alloc (.cells #[.int .i64 n.k, .int .u64 (n.s.a.toNat : Int), .int .u64 (n.s.b.toNat : Int), .int .u64 (n.s.c.toNat : Int), .int .u64 (n.s.d.toNat : Int), .slice n.A n.n n.c] 76) = w4 := ⟨_, rfl⟩
  have HP4 : Hid (Ps w4 g bs j3 (d + 1)) := keepHid (by rw [← hw4]; exact HP3.out.alloc _)
  have HO4 : Hid (Only g w w4) := keepHid (by rw [← hw4]; exact HO3.out.alloc _)
  have HZ4 : Hid (Blk w4 w.heap.size 76 nd0) := keepHid (by rw [← hw4]; exact HZ3.out.alloc _)
  have HN4 : Hid (Blk w4 w3.heap.size 76 (hdC n)) := keepHid (by rw [← hw4]; exact Blk.new _ _ _)
  have hb34 : Below w3.heap.size w3 w4 := by rw [← hw4]; exact (Below.refl _ _).alloc (Nat.le_refl _) _
  have HOK : Hid (ok = true → ∃ r, (alt (bs.drop i).tail).1 = some r ∧ IsRe w4 (w.heap.size + 1) n r) := keepHid (fun h => by obtain ⟨r, h1, h2⟩ := hok h; exact ⟨r, h1, (h2.below hb34).low (by omega)⟩)
  have HNO := keepHid hno
  obtain ⟨c0, c1, c2, cf⟩ := HP4.out.cells
  have e2 : ((d + 1 : Nat) : Int) = (d : Int) + 1 := by omega
  rw [e2] at c2
  clear e2 hok hno hj3 hp3 ho3 hzl hb34
  unfold hdV
  go_wp2_with fail
  have hp5 := HP4.out.deep d
  have ho5 := HO4.out.setCell (p := ⟨g, 2, none⟩) (.inl rfl) (.int .i64 (d : Int))
  have hz5 := HZ4.out.far (p := ⟨g, 2, none⟩) (by show w.heap.size ≠ g; omega) (.int .i64 (d : Int))
  have hn5 := HN4.out.far (p := ⟨g, 2, none⟩) (by show w3.heap.size ≠ g; omega) (.int .i64 (d : Int))
  have hok5 : ok = true → ∃ r, (alt (bs.drop i).tail).1 = some r ∧ IsRe (w4.setCell ⟨g, 2, none⟩ (.int .i64 (d : Int))) (w.heap.size + 1) n r := fun h => by
    obtain ⟨r, h1, h2⟩ := HOK.out h
    exact ⟨r, h1, h2.keep fun j hj _ => heap_setCell_other _ _ _ _ (by show j ≠ g; omega)⟩
  clear hw4 c0 c1 c2 cf
  generalize w4.setCell ⟨g, 2, none⟩ (.int .i64 (d : Int)) = w5 at *
  have HP5 := keepHid hp5
  have HO5 := keepHid ho5
  have HZ5 := keepHid hz5
  have HN5 := keepHid hn5
  have HOK5 := keepHid hok5
  clear hp5 ho5 hz5 hn5 hok5 HP4 HO4 HZ4 HN4 HOK HP3 HO3 HZ3 HO2 HZ2 HP2
  obtain ⟨n0, n1, n2, n3, n4, n5, nf⟩ := blk6 HN5.out
  obtain ⟨z0, z1, z2, z3, z4, z5, zf⟩ := blk6 HZ5.out
  cases ok
  · have HF : Hid (grpF alt (bs.drop i) = (none, (alt (bs.drop i).tail).2)) := keepHid (by
      have := HNO.out rfl
      unfold grpF
      generalize alt (bs.drop i).tail = x at *
      obtain ⟨o, r⟩ := x
      simp only at this
      subst this; rfl)
    clear HNO HOK5
    clear HG HTL HLT HH HP1 HZ1 HO1
    go_region
    all_goals
      go_wp2
      refine bodyPost_ret (v := .tuple #[hdV n, .bool false]) (by rw [results_cell_tmp rfl]; go_simp; rfl) rfl ⟨n, false, rfl, (fun h => by cases h), (fun _ => by rw [HF.out]), ?_⟩
      rw [HF.out]
      have k1 : Went g bs d (alt (bs.drop i).tail).2 w w5 := ⟨⟨j3, HJ3.out, HP5.out⟩, HO5.out⟩
      exact (k1.six (by omega) (Nat.le_refl _) _ _ _ _ _ _).drew
  · obtain ⟨r, hr, hir⟩ := HOK5.out rfl
    have HIR := keepHid hir
    have HF : Hid (grpF alt (bs.drop i) = if nx 41 (alt (bs.drop i).tail).2 then (some r, (alt (bs.drop i).tail).2.tail) else (none, (alt (bs.drop i).tail).2)) := keepHid (by
      unfold grpF
      generalize alt (bs.drop i).tail = x at *
      obtain ⟨o, q⟩ := x
      simp only at hr
      subst hr; rfl)
    have HT := keepHid (take_any (HP5.out.drewN 1) 41 41 rfl)
    rw [HJ3.out] at HT
    unfold TakePost at HT
    obtain ⟨b, hb⟩ : ∃ b, nx 41 (alt (bs.drop i).tail).2 = b := ⟨_, rfl⟩
    rw [hb] at HF HT
    clear hb
    clear HG HTL HLT HH HP1 HZ1 HO1 HNO HOK5 hr hir
    have hgl3 : g < w3.heap.size := by omega
    go_region_with
      (first
        | (go_at_call 106
           refine HT.out.mono ?_
           rintro e wT ⟨rfl, ⟨⟨jT, hjT, hpT⟩, hoT⟩⟩
           have HPT := keepHid hpT
           have HJT := keepHid hjT
           have HOT := keepHid hoT
           have HNT := keepHid ((HN5.out.drewN 1).only hoT (by intro e; injection e; omega))
           have HZT := keepHid ((HZ5.out.drewN 1).only hoT (by intro e; injection e; omega))
           clear hjT hpT hoT
           obtain ⟨m0, m1, m2, m3, m4, m5, mf⟩ := blk6 HNT.out
           obtain ⟨y0, y1, y2, y3, y4, y5, yf⟩ := blk6 HZT.out))
    all_goals
      go_wp2
      refine bodyPost_ret (v := .tuple #[hdV n, .bool b]) (by rw [results_cell_tmp rfl]; go_simp; rfl) rfl ⟨n, b, rfl, ?_, ?_, ?_⟩
      · intro hb1
        subst hb1
        exact ⟨r, by rw [HF.out]; rfl, (((HIR.out.below (w' := w5.drewN 1) (below_drewN (Below.refl _ _) 1)).only HOT.out (by omega)).keep fun j hj _ => six_far (by omega)).low (Nat.le_succ _)⟩
      · intro hb1
        subst hb1
        rw [HF.out]; rfl
      · have k1 : Went g bs d (grpF alt (bs.drop i)).2 w wT := ⟨⟨jT, by rw [HF.out, HJT.out]; cases b <;> rfl, HPT.out⟩, (HO5.out.drewN 1).trans HOT.out⟩
        exact k1.six (by omega) (Nat.le_refl _) _ _ _ _ _ _
end Go.Proofs.YtgndcgknedmalaaGreatDoor
