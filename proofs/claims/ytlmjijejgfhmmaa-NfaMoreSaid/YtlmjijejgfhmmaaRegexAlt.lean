/-
  The reader of patterns: an alternation.
-/
import Derived.Test.YtlmjijejgfhmmaaRegexSeq
import Derived.WalkKit
import Derived.OwnWalk
import Derived.ProofKit
import Derived.WalkLawsBesides
import Derived.IntWalk
import Derived.RegionTactic
import Derived.BigRegion
import Derived.ChangeAlike
import Derived.Deep.QuietTactic
import Derived.BigQuiet
import Derived.Deep.RegionHeld3
import Derived.Deep.DrawnRows
import Derived.Outline
import Derived.Deep.DeepCutAuto
namespace Go.Proofs.Ytlmjijejgfhmmaa
open Go.RowKit
set_option linter.unusedVariables false






section
variable {d : Nat} {grp : List UInt8 → R Re}
theorem altL_end {f : Nat} {r : Re} {l : List UInt8} (hf : l.length < f) (he : nx 124 l = false) : altL grp f r l = (some r, l) := by
  obtain ⟨k, rfl⟩ : ∃ k, f = k + 1 := ⟨f - 1, by omega⟩
  unfold altL; rw [if_neg (by simp [he])]
theorem altL_go {f : Nat} {r : Re} {l : List UInt8} (hf : l.length < f) (he : nx 124 l = true) : altL grp f r l = match seqF grp l.tail with | (none, q) => (none, q) | (some m, q) => altL grp (f - 1) (.alt r m) q := by
  obtain ⟨k, rfl⟩ : ∃ k, f = k + 1 := ⟨f - 1, by omega⟩
  rw [altL, if_pos he]
  generalize seqF grp l.tail = z
  obtain ⟨o, q⟩ := z
  cases o <;> rfl
set_option maxHeartbeats 2000000 in
theorem alt_any (HL : Less grp) (HP : Spec 41 d (seqF grp)) : Spec 27 d (altG grp) := by
  intro g bs i w h
  obtain ⟨w2, hw2⟩ : ∃ w2, w.alloc (.cells #[.int .i64 0, .int .u64 0, .int .u64 0, .int .u64 0, .int .u64 0, .slice none 0 0] 30) = w2 := ⟨_, rfl⟩
  have HG := keepHid h.lt
  have HP2 : Hid (Ps w2 g bs i d) := keepHid (by rw [← hw2]; exact h.alloc _)
  have HZ2 := keepHid (node_new hw2)
  have HO2 : Hid (Only g w w2) := keepHid (by rw [← hw2]; exact (Only.refl w g).alloc _)
  have HL2 : Hid (w2.heap.size = w.heap.size + 1) := keepHid (by rw [← hw2]; simp)
  have HPC := keepHid HP
  have HMX := keepHid h.max
  clear h HP
  have HS : Hid (altG grp (bs.drop i) = match seqF grp (bs.drop i) with | (none, r) => (none, r) | (some n, r) => altL grp 65 n r) := keepHid (by
    unfold altG
    generalize seqF grp (bs.drop i) = z
    obtain ⟨o, q⟩ := z
    cases o <;> rfl)
  go_enter Try.func27, Try.ntmps27
  go_wp2_with fail
  clear hw2
  refine (HPC.out g bs i w2 HP2.out).mono ?_
  rintro e w3 ⟨n, ok, rfl, hok, hno, ⟨j3, hj3, hp3⟩, ho3⟩
  have hzl : w.heap.size < w2.heap.size := HZ2.out.lt
  obtain ⟨w4, hw4⟩ : ∃ w4, w3.alloc (.cells #[.int .i64 n.k, .int .u64 (n.s.a.toNat : Int), .int .u64 (n.s.b.toNat : Int), .int .u64 (n.s.c.toNat : Int), .int .u64 (n.s.d.toNat : Int), .slice n.A n.n n.c] 30) = w4 := ⟨_, rfl⟩
  have hsz3 : w2.heap.size ≤ w3.heap.size := ho3.size
  have hb34 : Below w3.heap.size w3 w4 := by rw [← hw4]; exact (Below.refl _ _).alloc (Nat.le_refl _) _
  have HR : Hid (SoFar g bs d (altG grp (bs.drop i)) (altL grp) w w3.heap.size (.bool ok) w4) := keepHid (by
    refine ⟨j3, n, ok, rfl, by rw [← hw4]; exact hp3.alloc _, by rw [← hw4]; exact Blk.new _ _ _, ?_, by rw [← hw4]; exact (HO2.out.trans ho3).alloc _, ?_, ?_⟩
    · rw [← hw4]; exact (HZ2.out.only ho3 (by have := HG.out; intro e; injection e; omega)).alloc _
    · intro hk
      obtain ⟨r, e1, e2⟩ := hok hk
      refine ⟨65, r, ?_, ?_, (e2.mono fun b hb hl => ⟨by have := HL2.out; omega, by omega⟩).below hb34⟩
      · rw [HS.out, hj3]
        generalize seqF grp (bs.drop i) = z at *
        obtain ⟨o, q⟩ := z
        simp only at e1
        subst e1; rfl
      · have := HMX.out; simp; omega
    · intro hk
      have e1 := hno hk
      rw [HS.out, hj3]
      generalize seqF grp (bs.drop i) = z at *
      obtain ⟨o, q⟩ := z
      simp only at e1
      subst e1; rfl)
  have HV : Hid (w.heap.size < w3.heap.size) := keepHid (by omega)
  clear hok hno hj3 hp3 ho3 hzl hsz3 hb34
  unfold hdV
  go_wp2_with fail
  try rw [hw4]
  clear hw4
  generalize w3.heap.size = v at *
  go_loopw [5] (fun okv wr => SoFar g bs d (altG grp (bs.drop i)) (altL grp) w v okv wr) (fun okv wr => seqM wr g bs.length okv)
  case atStart => exact HR.out
  case round =>
    obtain ⟨j, n', ok', rfl, hp, hn, hz, ho, hok, hno⟩ := hrel
    have HPR := keepHid hp
    have HNR := keepHid hn
    have HZR := keepHid hz
    have HOR := keepHid ho
    have HOKR := keepHid hok
    have HNOR := keepHid hno
    clear hp hn hz ho hok hno HR
    cases ok'
    · have HF := keepHid (HNOR.out rfl)
      obtain ⟨n0, n1, n2, n3, n4, n5, nf⟩ := blk6 HNR.out
      obtain ⟨z0, z1, z2, z3, z4, z5, zf⟩ := blk6 HZR.out
      have hw : Went g bs d (bs.drop j) w wr := ⟨⟨j, rfl, HPR.out⟩, HOR.out⟩
      have K := keepHid (hw.six (b := w.heap.size) (by have := HG.out; omega) (Nat.le_refl _))
      clear HOKR HNOR hw
      go_wp2
      exact ⟨by rfl, .tuple #[hdV n', .bool false], by rw [results_cell_tmp rfl]; go_simp; rfl, n', false, rfl, (fun h => by cases h), (fun _ => by rw [HF.out]), by rw [HF.out]; exact K.out _ _ _ _ _ _⟩
    · obtain ⟨f, r, hf, hlf, hir⟩ := HOKR.out rfl
      have HF := keepHid hf
      have HLF := keepHid hlf
      have HIR := keepHid hir
      have HER := keepHid (take_any HPR.out 124 124 rfl)
      unfold TakePost at HER
      clear HOKR HNOR hf hlf hir
      cases he : nx 124 (bs.drop j)
      case true =>
        have HGO := keepHid (altL_go (grp := grp) (r := r) HLF.out he)
        have HNT := keepHid (nx_tail he)
        rw [he] at HER
        simp only [if_true] at HER
        clear he
        go_wp2_with fail
        refine HER.out.mono ?_
        rintro e wd ⟨rfl, ⟨jd, hjd, hpd⟩, hot⟩
        have hgg := HG.out
        have hv := HV.out
        have HJD := keepHid hjd
        have hnd := HNR.out.only hot (by intro e; injection e; omega)
        have hzd := HZR.out.only hot (by intro e; injection e; omega)
        have hod := HOR.out.trans hot
        have hid : IsS wd (fun b => w.heap.size + 1 ≤ b ∧ b ≠ v) n' r := HIR.out.keep fun b hb hl => hot.block b hl (by intro e; injection e; omega)
        obtain ⟨w5, hw5⟩ : ∃ w5, wd.alloc (.cells #[.int .i64 0, .int .u64 0, .int .u64 0, .int .u64 0, .int .u64 0, .slice none 0 0] 30) = w5 := ⟨_, rfl⟩
        have HP5 : Hid (Ps w5 g bs jd d) := keepHid (by rw [← hw5]; exact hpd.alloc _)
        have HN5 : Hid (Blk w5 v 30 (hdC n')) := keepHid (by rw [← hw5]; exact hnd.alloc _)
        have HZ5 : Hid (Blk w5 w.heap.size 30 nd0) := keepHid (by rw [← hw5]; exact hzd.alloc _)
        have HO5 : Hid (Only g w w5) := keepHid (by rw [← hw5]; exact hod.alloc _)
        have HI5 : Hid (IsS w5 (fun b => w.heap.size + 1 ≤ b ∧ b ≠ v ∧ b ≠ wd.heap.size) n' r) := keepHid (by rw [← hw5]; exact (hid.mono fun b hb hl => ⟨hb.1, hb.2, by omega⟩).below ((Below.refl _ _).alloc (Nat.le_refl _) _))
        have HM5 : Hid (Blk w5 wd.heap.size 30 nd0) := keepHid (by rw [← hw5]; exact Blk.new _ _ _)
        have HVD : Hid (v < wd.heap.size) := keepHid hnd.lt
        have HS5 : Hid (w5.heap.size = wd.heap.size + 1) := keepHid (by rw [← hw5]; simp)
        obtain ⟨q, hq⟩ : ∃ q, wd.heap.size = q := ⟨_, rfl⟩
        rw [hq] at HM5 HVD HS5 HI5
        clear hpd hnd hzd hod hid HER hot hjd
        go_wp2_with (go_at_call 41; fail)
        try rw [hq]
        clear hq hw5
        refine (HPC.out g bs jd w5 HP5.out).mono ?_
        rintro e w6 ⟨mm, ok2, rfl, hok2, hno2, ⟨j6, hj6, hp6⟩, ho6⟩
        rw [HJD.out] at hok2 hno2 hj6
        have hvd := HVD.out
        have hs5 := HS5.out
        have HN6 := keepHid (HN5.out.only ho6 (by intro e; injection e; omega))
        have HZ6 := keepHid (HZ5.out.only ho6 (by intro e; injection e; omega))
        have HM6 := keepHid (HM5.out.only ho6 (by intro e; injection e; omega))
        have HO6 := keepHid (HO5.out.trans ho6)
        have HP6 := keepHid hp6
        have HJ6 := keepHid hj6
        have HI6 : Hid (IsS w6 (fun b => w.heap.size + 1 ≤ b ∧ b ≠ v ∧ b ≠ q) n' r) := keepHid (HI5.out.keep fun b hb hl => ho6.block b hl (by intro e; injection e; omega))
        have HOK2 : Hid (ok2 = true → ∃ rm, (seqF grp (bs.drop j).tail).1 = some rm ∧ IsS w6 (fun b => w.heap.size + 1 ≤ b ∧ b ≠ v ∧ b ≠ q) mm rm) := keepHid (fun h => by
          obtain ⟨rm, e1, e2⟩ := hok2 h
          exact ⟨rm, e1, e2.mono fun b hb _ => by omega⟩)
        have HNO2 := keepHid hno2
        have HS6 : Hid (w5.heap.size ≤ w6.heap.size) := keepHid ho6.size
        clear hp6 ho6 hj6 hok2 hno2
        obtain ⟨n0, n1, n2, n3, n4, n5, nf⟩ := blk6 HN6.out
        obtain ⟨m0, m1, m2, m3, m4, m5', mf⟩ := blk6 HM6.out
        unfold hdV
        go_wp2_with (go_at_call 43; fail)
        obtain ⟨w7, hw7⟩ : ∃ w7, (((((w6.setCell ⟨q, 0, none⟩ (.int .i64 mm.k)).setCell ⟨q, 1, none⟩ (.int .u64 (mm.s.a.toNat : Int))).setCell ⟨q, 2, none⟩ (.int .u64 (mm.s.b.toNat : Int))).setCell ⟨q, 3, none⟩ (.int .u64 (mm.s.c.toNat : Int))).setCell ⟨q, 4, none⟩ (.int .u64 (mm.s.d.toNat : Int))).setCell ⟨q, 5, none⟩ (.slice mm.A mm.n mm.c) = w7 := ⟨_, rfl⟩
        have HP7 : Hid (Ps w7 g bs j6 d) := keepHid (by rw [← hw7]; exact HP6.out.far6 (by omega) _ _ _ _ _ _)
        have HO7 : Hid (Only g w w7) := keepHid (by rw [← hw7]; exact HO6.out.six (by omega) _ _ _ _ _ _)
        have HN7 : Hid (Blk w7 v 30 (hdC n')) := keepHid (by rw [← hw7]; exact HN6.out.far6 (by omega) _ _ _ _ _ _)
        have HZ7 : Hid (Blk w7 w.heap.size 30 nd0) := keepHid (by rw [← hw7]; exact HZ6.out.far6 (by omega) _ _ _ _ _ _)
        have HI7 : Hid (IsS w7 (fun b => w.heap.size + 1 ≤ b ∧ b ≠ v ∧ b ≠ q) n' r) := keepHid (by rw [← hw7]; exact HI6.out.keep fun b hb _ => six_far hb.2.2)
        have HOK7 : Hid (ok2 = true → ∃ rm, (seqF grp (bs.drop j).tail).1 = some rm ∧ IsS w7 (fun b => w.heap.size + 1 ≤ b ∧ b ≠ v ∧ b ≠ q) mm rm) := keepHid (fun h => by
          obtain ⟨rm, e1, e2⟩ := HOK2.out h
          rw [← hw7]
          exact ⟨rm, e1, e2.keep fun b hb _ => six_far hb.2.2⟩)
        have HS7 : Hid (w5.heap.size ≤ w7.heap.size) := keepHid (by rw [← hw7]; have := HS6.out; simpa using this)
        rw [hw7]
        clear hw7 n0 n1 n2 n3 n4 n5 nf m0 m1 m2 m3 m4 m5' mf
        refine (pair_any 3 n' mm w7).mono ?_
        rintro e w8 ⟨gP, rfl, hgP, hat0, hat6, hb8⟩
        have HP8 := keepHid (HP7.out.below hb8 HP7.out.lt)
        have HO8 := keepHid (HO7.out.trans (Only.of_below (g := g) hb8))
        have HN8 := keepHid (HN7.out.below hb8 HN7.out.lt)
        have HZ8 := keepHid (HZ7.out.below hb8 HZ7.out.lt)
        have HI8 := keepHid (HI7.out.below hb8)
        have HOK8 : Hid (ok2 = true → ∃ rm, (seqF grp (bs.drop j).tail).1 = some rm ∧ IsS w8 (fun b => w.heap.size + 1 ≤ b ∧ b ≠ v) (⟨3, st0, some ⟨gP, 0, none⟩, 2, 2⟩ : Hd) (.alt r rm)) := keepHid (fun h => by
          obtain ⟨rm, e1, e2⟩ := HOK7.out h
          have hs7 := HS7.out
          exact ⟨rm, e1, gP, 2, n', mm, rfl, Nat.le_refl _, by unfold maxLen; omega, ⟨by omega, by omega⟩, hat0, hat6, HI8.out.mono fun b hb _ => ⟨hb.1, hb.2.1⟩, (e2.below hb8).mono fun b hb _ => ⟨hb.1, hb.2.1⟩⟩)
        clear hgP hat0 hat6 hb8
        obtain ⟨n0, n1, n2, n3, n4, n5, nf⟩ := blk6 HN8.out
        unfold hdV
        go_wp2
        go_roundw
        case rel =>
          refine ⟨j6, ⟨3, st0, some ⟨gP, 0, none⟩, 2, 2⟩, ok2, rfl, HP8.out.far6 (by omega) _ _ _ _ _ _, HN8.out.six _ _ _ _ _ _, HZ8.out.far6 (by omega) _ _ _ _ _ _, HO8.out.six (by omega) _ _ _ _ _ _, ?_, ?_⟩
          · intro hk
            obtain ⟨rm, e1, e2⟩ := HOK8.out hk
            refine ⟨f - 1, .alt r rm, ?_, ?_, e2.keep fun b hb _ => six_far hb.2⟩
            · rw [HF.out, HGO.out, HJ6.out]
              generalize seqF grp (bs.drop j).tail = z at *
              obtain ⟨o, y⟩ := z
              simp only at e1
              subst e1; rfl
            · have h1 := HLF.out
              have h2 := seqF_le HL _ _ _ (show seqF grp (bs.drop j).tail = (some rm, (seqF grp (bs.drop j).tail).2) by rw [← e1])
              have h3 := HNT.out
              rw [HJ6.out]
              omega
          · intro hk
            have e1 := HNO2.out hk
            rw [HF.out, HGO.out, HJ6.out]
            generalize seqF grp (bs.drop j).tail = z at *
            obtain ⟨o, y⟩ := z
            simp only at e1
            subst e1; rfl
        case measure =>
          cases ok2
          · show 0 < leftN g bs.length wr + 1
            omega
          · obtain ⟨rm, e1, e2⟩ := HOK8.out rfl
            have h2 := seqF_le HL _ _ _ (show seqF grp (bs.drop j).tail = (some rm, (seqF grp (bs.drop j).tail).2) by rw [← e1])
            show leftN g bs.length _ + 1 < leftN g bs.length wr + 1
            have h3 := HNT.out
            rw [leftN_of (HP8.out.far6 (b := v) (by omega) _ _ _ _ _ _), leftN_of HPR.out, HJ6.out]
            omega
      case false =>
        have HEND := keepHid (altL_end (grp := grp) (r := r) HLF.out he)
        rw [he] at HER
        simp only [Bool.false_eq_true, if_false] at HER
        clear he
        go_wp2_with fail
        refine HER.out.mono ?_
        rintro e we ⟨rfl, ⟨jd, hjd, hpd⟩, hot⟩
        have hgg := HG.out
        have hv := HV.out
        have HOE := keepHid (HOR.out.trans hot)
        have HPE := keepHid hpd
        have HJD := keepHid hjd
        have HNE := keepHid (HNR.out.only hot (by intro e; injection e; omega))
        have HZE := keepHid (HZR.out.only hot (by intro e; injection e; omega))
        have HIE : Hid (IsS we (fun b => w.heap.size + 1 ≤ b ∧ b ≠ v) n' r) := keepHid (HIR.out.keep fun b hb hl => hot.block b hl (by intro e; injection e; omega))
        clear hjd hpd hot
        obtain ⟨n0, n1, n2, n3, n4, n5, nf⟩ := blk6 HNE.out
        obtain ⟨z0, z1, z2, z3, z4, z5, zf⟩ := blk6 HZE.out
        have hw : Went g bs d (bs.drop j) w we := ⟨⟨jd, HJD.out, HPE.out⟩, HOE.out⟩
        have K := keepHid (hw.six (b := w.heap.size) (by have := HG.out; omega) (Nat.le_refl _))
        clear hw HER
        go_wp2
        exact ⟨by rfl, .tuple #[hdV n', .bool true], by rw [results_cell_tmp rfl]; go_simp; rfl, n', true, rfl, (fun _ => ⟨r, by rw [HF.out, HEND.out], (HIE.out.keep fun b hb _ => six_far (by omega)).mono fun b hb _ => by omega⟩), (fun h => by cases h), by rw [HF.out, HEND.out]; exact K.out _ _ _ _ _ _⟩
end
end Go.Proofs.Ytlmjijejgfhmmaa
