/-
  The reader of patterns: the bytes of a class.
-/
import Derived.Test.YtlmjijejgfhmmaaRegexSpan
import Derived.Test.YtlmjijejgfhmmaaRegexLen
import Derived.WalkKit
import Derived.OwnWalk
import Derived.ProofKit
import Derived.WalkLawsBesides
import Derived.IntWalk
import Derived.RegionTactic
import Derived.BigRegion
import Derived.ChangeAlike
import Derived.Deep.QuietTactic
import Derived.BigQuiet
import Derived.Deep.RegionHeld3
import Derived.Deep.DrawnRows
import Derived.Outline
import Derived.Deep.DeepCutAuto
namespace Go.Proofs.Ytlmjijejgfhmmaa
open Go.RowKit
set_option linter.unusedVariables false




def stC (s : St) : Array Value := #[.int .u64 (s.a.toNat : Int), .int .u64 (s.b.toNat : Int), .int .u64 (s.c.toNat : Int), .int .u64 (s.d.toNat : Int)]
/-- How much is left to read. -/
def leftN (g n : Nat) (w : World) : Nat := n - (intOf ((w.cell? ⟨g, 1, none⟩).getD undef)).toNat
theorem leftN_of {w : World} {g i d : Nat} {bs : List UInt8} (h : Ps w g bs i d) : leftN g bs.length w = (bs.drop i).length := by
  unfold leftN
  rw [h.cells.2.1]
  simp [intOf]
theorem memF_end {f : Nat} {s : St} {l : List UInt8} (hf : l.length < f) (hn : nx 93 l = true) : memF f s l = (some s, l.tail) := by
  obtain ⟨k, rfl⟩ : ∃ k, f = k + 1 := ⟨f - 1, by omega⟩
  unfold memF; rw [if_pos hn]
theorem memF_no {f : Nat} {s : St} {l : List UInt8} (hf : l.length < f) (hn : nx 93 l = false) (h : (spanF l).1 = none) : memF f s l = (none, (spanF l).2) := by
  obtain ⟨k, rfl⟩ : ∃ k, f = k + 1 := ⟨f - 1, by omega⟩
  unfold memF
  rw [if_neg (by simp [hn])]
  generalize spanF l = x at *
  obtain ⟨o, r⟩ := x
  simp only at h
  subst h
  rfl
theorem memF_go {f : Nat} {s : St} {l : List UInt8} (hf : l.length < f) (hn : nx 93 l = false) {x y : UInt8} (h : (spanF l).1 = some (x, y)) :
    memF f s l = memF (f - 1) (addR s x.toNat (y.toNat + 1 - x.toNat)) (spanF l).2 := by
  obtain ⟨k, rfl⟩ : ∃ k, f = k + 1 := ⟨f - 1, by omega⟩
  rw [memF, if_neg (by simp [hn])]
  generalize spanF l = z at *
  obtain ⟨o, r⟩ := z
  simp only at h
  subst h
  rfl
def MemPost (g : Nat) (bs : List UInt8) (d : Nat) (l : List UInt8) (w : World) (e : Ending) (w' : World) : Prop :=
  ∃ (s : St) (ok : Bool), e = .returned (.tuple #[stV s, .bool ok]) ∧ (ok = true → (memF 65 st0 l).1 = some s) ∧ (ok = false → (memF 65 st0 l).1 = none) ∧ Went g bs d (memF 65 st0 l).2 w w'
def MemRel (g : Nat) (bs : List UInt8) (d : Nat) (l : List UInt8) (w wr : World) : Prop :=
  ∃ (f j : Nat) (s : St) (l' : List UInt8), memF 65 st0 l = memF f s l' ∧ l'.length < f ∧ bs.drop j = l' ∧ Ps wr g bs j d ∧ Blk wr (w.heap.size + 1) 27 (stC s) ∧ Blk wr w.heap.size 27 (stC st0) ∧ Only g w wr
set_option maxHeartbeats 2000000 in
theorem members_any {g i d : Nat} {bs : List UInt8} {w : World} (h : Ps w g bs i d) :
    Calls Try.prog 64 #[.pointer (some ⟨g, 0, none⟩)] w (MemPost g bs d (bs.drop i) w) := by
  obtain ⟨w1, hw1⟩ : ∃ w1, (w.alloc (.cells #[.int .u64 0, .int .u64 0, .int .u64 0, .int .u64 0] 27)).alloc (.cells #[.int .u64 0, .int .u64 0, .int .u64 0, .int .u64 0] 27) = w1 := ⟨_, rfl⟩
  have HG := keepHid h.lt
  have HM := keepHid h.max
  have HR : Hid (MemRel g bs d (bs.drop i) w w1) := keepHid (by
    refine ⟨65, i, st0, bs.drop i, rfl, by have := h.max; simp; omega, rfl, ?_, ?_, ?_, ?_⟩
    · rw [← hw1]; exact (h.alloc _).alloc _
    · rw [← hw1]; exact Blk.new_at _ _ _ _ (by simp)
    · rw [← hw1]; exact (Blk.new _ _ _).alloc _
    · rw [← hw1]; exact ((Only.refl w g).alloc _).alloc _)
  generalize bs.drop i = l at *
  clear h
  go_enter Try.func64, Try.ntmps64
  go_wp2_with fail
  try rw [hw1]
  clear hw1
  go_loopw [] (fun wr => MemRel g bs d l w wr) (fun wr => leftN g bs.length wr)
  case atStart => exact HR.out
  case round =>
    obtain ⟨f, j, s, l', hf, hlf, hj, hp, hs, hz, ho⟩ := hrel
    have HF := keepHid hf
    have HLF := keepHid hlf
    have HJ := keepHid hj
    have HS := keepHid hs
    have HZ := keepHid hz
    have HO := keepHid ho
    have HP := keepHid hp
    have HT := keepHid (take_any hp 93 93 rfl)
    rw [hj] at HT
    clear hf hlf hj hs hz ho hp
    cases hn : nx 93 l'
    · go_wp2_with fail
      refine HT.out.mono ?_
      rintro e w2 ⟨rfl, ⟨j2, hj2, hp2⟩, ho2⟩
      rw [hn] at hj2 ⊢
      simp only [Bool.false_eq_true, if_false] at hj2
      have HN := keepHid hn
      have hzs : w.heap.size < wr.heap.size := HZ.out.lt
      have hss : w.heap.size + 1 < wr.heap.size := HS.out.lt
      have hgg : g < w.heap.size := HG.out
      have HS2 := keepHid (HS.out.only ho2 (by intro e; injection e; omega))
      have HZ2 := keepHid (HZ.out.only ho2 (by intro e; injection e; omega))
      have HO2 := keepHid (HO.out.trans ho2)
      have HP2 := keepHid hp2
      have HSP := keepHid (span_any hp2)
      rw [hj2] at HSP
      clear hj2 hp2 ho2 hn HT HS HZ HO hzs hss
      go_wp2_with fail
      refine HSP.out.mono ?_
      rintro e w3 ⟨a, b, ok, rfl, ha, hb, hok, hno, ⟨j3, hj3, hp3⟩, ho3⟩
      have hzs : w.heap.size < w2.heap.size := HZ2.out.lt
      have hss : w.heap.size + 1 < w2.heap.size := HS2.out.lt
      have HS3 := keepHid (HS2.out.only ho3 (by intro e; injection e; omega))
      have HZ3 := keepHid (HZ2.out.only ho3 (by intro e; injection e; omega))
      have HO3 := keepHid (HO2.out.trans ho3)
      have HP3 := keepHid hp3
      have HJ3 := keepHid hj3
      have HA := keepHid ha
      have HB := keepHid hb
      cases ok
      · have HE := keepHid (memF_no (s := s) HLF.out HN.out (hno rfl))
        clear hok hno hj3 hp3 ho3 ha hb hzs hss HSP
        obtain ⟨z0, z1, z2, z3, zf⟩ := blk4 HZ3.out
        go_wp2
        refine bodyPost_ret (v := .tuple #[stV st0, .bool false]) (by rw [results_cell_tmp rfl]; go_simp; rfl) rfl ⟨st0, false, rfl, (fun h => by cases h), (fun _ => by rw [HF.out, HE.out]), ⟨j3, by rw [HF.out, HE.out, HJ3.out], ?_⟩, ?_⟩
        · exact (((HP3.out.far (by show g ≠ w.heap.size; omega) _).far (by show g ≠ w.heap.size; omega) _).far (by show g ≠ w.heap.size; omega) _).far (by show g ≠ w.heap.size; omega) _
        · exact (((HO3.out.setCell (.inr (Nat.le_refl _)) _).setCell (.inr (Nat.le_refl _)) _).setCell (.inr (Nat.le_refl _)) _).setCell (.inr (Nat.le_refl _)) _
      · obtain ⟨x, y, hx, hy, hxy⟩ := hok rfl
        have HE := keepHid (memF_go (s := s) HLF.out HN.out hxy)
        have HLT := keepHid (spanF_lt (show spanF l' = (some (x, y), (spanF l').2) by rw [← hxy]))
        rw [hx, hy] at HE
        obtain ⟨n, hn⟩ : ∃ n, b + 1 - a = n := ⟨_, rfl⟩
        rw [hn] at HE
        have HNN := keepHid hn
        clear hok hno hj3 hp3 ho3 ha hb hzs hss hx hy hxy hn HSP
        have ha' : (a : Int) ≤ 255 := by have := HA.out; omega
        have hb' : (b : Int) ≤ 255 := by have := HB.out; omega
        go_wp2_with fail
        go_loopw [8] (fun c wq => ∃ k : Nat, k ≤ n ∧ c = .int .i64 ((a : Int) + (k : Int)) ∧ Ps wq g bs j3 d ∧ Blk wq (w.heap.size + 1) 27 (stC (addR s a k)) ∧ Blk wq w.heap.size 27 (stC st0) ∧ Only g w wq) (fun c _ => b + 1 - (intOf c).toNat)
        case atStart => exact ⟨0, Nat.zero_le _, by simp, HP3.out, HS3.out, HZ3.out, HO3.out⟩
        case round =>
          obtain ⟨k, hk, rfl, hp, hs, hz, ho⟩ := hrel
          have HP4 := keepHid hp
          have HZ4 := keepHid hz
          have HO4 := keepHid ho
          have HK := keepHid hk
          by_cases hlt : a + k ≤ b
          · obtain ⟨t, ht⟩ : ∃ t, addR s a k = t := ⟨_, rfl⟩
            rw [ht] at hs
            have HTT := keepHid ht
            have HS4 := keepHid hs
            obtain ⟨s0, s1, s2, s3, sf⟩ := blk4 hs
            have h1 : (a : Int) + (k : Int) ≤ (b : Int) := by omega
            have e1 : ((a : Int) + (k : Int)) % 256 = (a : Int) + (k : Int) := by omega
            have HW := keepHid (with_any t (a + k) (by omega))
            clear hp hs hz ho hk ht
            have e2 : ((a + k : Nat) : Int) = (a : Int) + (k : Int) := by omega
            rw [e2] at HW
            clear e2
            unfold stV at HW
            go_wp2_with fail
            refine (HW.out _).mono ?_
            rintro e w5 ⟨rfl, hb5⟩
            have HS5 := keepHid (HS4.out.below hb5 HS4.out.lt)
            have HZ5 := keepHid (HZ4.out.below hb5 HZ4.out.lt)
            have HP5 := keepHid (HP4.out.below hb5 HP4.out.lt)
            have HO5 := keepHid (HO4.out.trans (Only.of_below (g := g) hb5))
            obtain ⟨t', ht'⟩ : ∃ t', withS t (a + k) = t' := ⟨_, rfl⟩
            have HT' := keepHid (show addR s a (k + 1) = t' by rw [addR, HTT.out, ht'])
            rw [ht']
            clear s0 s1 s2 s3 sf hb5 ht'
            obtain ⟨s0, s1, s2, s3, sf⟩ := blk4 HS5.out
            go_wp2
            go_roundw
            case rel =>
              refine ⟨k + 1, by have := HNN.out; omega, by push_cast; go_num, ?_, ?_, ?_, ?_⟩
              · exact (((HP5.out.far (by show g ≠ w.heap.size + 1; omega) _).far (by show g ≠ w.heap.size + 1; omega) _).far (by show g ≠ w.heap.size + 1; omega) _).far (by show g ≠ w.heap.size + 1; omega) _
              · rw [HT'.out]; exact (((HS5.out.put 0 _).put 1 _).put 2 _).put 3 _
              · exact (((HZ5.out.far (by show w.heap.size ≠ w.heap.size + 1; omega) _).far (by show w.heap.size ≠ w.heap.size + 1; omega) _).far (by show w.heap.size ≠ w.heap.size + 1; omega) _).far (by show w.heap.size ≠ w.heap.size + 1; omega) _
              · exact (((HO5.out.setCell (.inr (by show w.heap.size ≤ w.heap.size + 1; omega)) _).setCell (.inr (by show w.heap.size ≤ w.heap.size + 1; omega)) _).setCell (.inr (by show w.heap.size ≤ w.heap.size + 1; omega)) _).setCell (.inr (by show w.heap.size ≤ w.heap.size + 1; omega)) _
            case measure => simp [intOf]; omega
          · obtain rfl : k = n := by have := HNN.out; omega
            have HS4 := keepHid hs
            clear hp hs hz ho hk
            have h1 : (b : Int) < (a : Int) + (k : Int) := by omega
            have h2 : (a : Int) + (k : Int) ≤ 512 := by have := HNN.out; have := HA.out; have := HB.out; omega
            go_wp2_with fail
            go_roundw
            case rel => exact ⟨f - 1, j3, _, (spanF l').2, by rw [HF.out, HE.out], by have := HLF.out; have := HLT.out; omega, HJ3.out, HP4.out, HS4.out, HZ4.out, HO4.out⟩
            case measure =>
              rw [leftN_of HP4.out, leftN_of HP.out, HJ3.out, HJ.out]
              exact HLT.out
    · have HE := keepHid (memF_end (s := s) HLF.out hn)
      go_wp2_with fail
      refine HT.out.mono ?_
      rintro e w2 ⟨rfl, ⟨j2, hj2, hp2⟩, ho2⟩
      rw [hn] at hj2 ⊢
      simp only [if_true] at hj2
      have hzs : w.heap.size < wr.heap.size := HZ.out.lt
      have hss : w.heap.size + 1 < wr.heap.size := HS.out.lt
      have hgg : g < w.heap.size := HG.out
      have HS2 := keepHid (HS.out.only ho2 (by intro e; injection e; omega))
      have HZ2 := keepHid (HZ.out.only ho2 (by intro e; injection e; omega))
      have HO2 := keepHid (HO.out.trans ho2)
      have HP2 := keepHid hp2
      have HJ2 := keepHid hj2
      clear hj2 hp2 ho2 hn HT HS HZ HO hzs hss
      obtain ⟨s0, s1, s2, s3, sf⟩ := blk4 HS2.out
      obtain ⟨z0, z1, z2, z3, zf⟩ := blk4 HZ2.out
      go_wp2
      refine bodyPost_ret (v := .tuple #[stV s, .bool true]) (by rw [results_cell_tmp rfl]; go_simp; rfl) rfl ⟨s, true, rfl, (fun _ => by rw [HF.out, HE.out]), (fun h => by cases h), ⟨j2, by rw [HF.out, HE.out, HJ2.out], ?_⟩, ?_⟩
      · exact (((HP2.out.far (by show g ≠ w.heap.size; omega) _).far (by show g ≠ w.heap.size; omega) _).far (by show g ≠ w.heap.size; omega) _).far (by show g ≠ w.heap.size; omega) _
      · exact (((HO2.out.setCell (.inr (Nat.le_refl _)) _).setCell (.inr (Nat.le_refl _)) _).setCell (.inr (Nat.le_refl _)) _).setCell (.inr (Nat.le_refl _)) _
end Go.Proofs.Ytlmjijejgfhmmaa
