/-
  The reader of patterns: a sequence, an alternation.
-/
import Derived.Test.YtlmjijejgfhmmaaRegexPlus
import Derived.WalkKit
import Derived.OwnWalk
import Derived.ProofKit
import Derived.WalkLawsBesides
import Derived.IntWalk
import Derived.RegionTactic
import Derived.BigRegion
import Derived.ChangeAlike
import Derived.Deep.QuietTactic
import Derived.BigQuiet
import Derived.Deep.RegionHeld3
import Derived.Deep.DrawnRows
import Derived.Outline
import Derived.Deep.DeepCutAuto
namespace Go.Proofs.Ytlmjijejgfhmmaa
open Go.RowKit
set_option linter.unusedVariables false





theorem Blk.far6 {w : World} {b x : Nat} {t : TypeId} {cs : Array Value} (h : Blk w x t cs) (hb : x ≠ b) (u0 u1 u2 u3 u4 u5 : Value) :
    Blk ((((((w.setCell ⟨b, 0, none⟩ u0).setCell ⟨b, 1, none⟩ u1).setCell ⟨b, 2, none⟩ u2).setCell ⟨b, 3, none⟩ u3).setCell ⟨b, 4, none⟩ u4).setCell ⟨b, 5, none⟩ u5) x t cs :=
  (((((h.far hb _).far hb _).far hb _).far hb _).far hb _).far hb _
theorem Blk.six {w : World} {b : Nat} {t : TypeId} {a0 a1 a2 a3 a4 a5 : Value} (h : Blk w b t #[a0, a1, a2, a3, a4, a5]) (u0 u1 u2 u3 u4 u5 : Value) :
    Blk ((((((w.setCell ⟨b, 0, none⟩ u0).setCell ⟨b, 1, none⟩ u1).setCell ⟨b, 2, none⟩ u2).setCell ⟨b, 3, none⟩ u3).setCell ⟨b, 4, none⟩ u4).setCell ⟨b, 5, none⟩ u5) b t #[u0, u1, u2, u3, u4, u5] :=
  (((((h.put 0 u0).put 1 u1).put 2 u2).put 3 u3).put 4 u4).put 5 u5
/-- A node's variable in the loop: what has been read so far is the tree r. -/
def SoFar (g : Nat) (bs : List UInt8) (d : Nat) (F : R Re) (go : Nat → Re → List UInt8 → R Re) (w : World) (v : Nat) (okv : Value) (wr : World) : Prop :=
  ∃ (j : Nat) (n : Hd) (ok : Bool), okv = .bool ok ∧ Ps wr g bs j d ∧ Blk wr v 30 (hdC n) ∧ Blk wr w.heap.size 30 nd0 ∧ Only g w wr ∧
    (ok = true → ∃ f r, F = go f r (bs.drop j) ∧ (bs.drop j).length < f ∧ IsS wr (fun b => w.heap.size + 1 ≤ b ∧ b ≠ v) n r) ∧ (ok = false → F = (none, bs.drop j))
section
variable {d : Nat} {grp : List UInt8 → R Re}
theorem seqL_end {f : Nat} {r : Re} {l : List UInt8} (hf : l.length < f) (he : endsF l = true) : seqL grp f r l = (some r, l) := by
  obtain ⟨k, rfl⟩ : ∃ k, f = k + 1 := ⟨f - 1, by omega⟩
  unfold seqL; rw [if_pos he]
theorem seqL_go {f : Nat} {r : Re} {l : List UInt8} (hf : l.length < f) (he : endsF l = false) : seqL grp f r l = match pieceF grp l with | (none, q) => (none, q) | (some m, q) => seqL grp (f - 1) (.thn r m) q := by
  obtain ⟨k, rfl⟩ : ∃ k, f = k + 1 := ⟨f - 1, by omega⟩
  rw [seqL, if_neg (by simp [he])]
  generalize pieceF grp l = z
  obtain ⟨o, q⟩ := z
  cases o <;> rfl
def seqM (w : World) (g n : Nat) (v : Value) : Nat := match v with | .bool true => leftN g n w + 1 | _ => 0
set_option maxHeartbeats 2000000 in
theorem seq_any (HL : Less grp) (HP : Spec1 50 d (pieceF grp)) : Spec 41 d (seqF grp) := by
  intro g bs i w h
  obtain ⟨w1, hw1⟩ : ∃ w1, w.alloc (.cells #[.int .i64 0, .int .u64 0, .int .u64 0, .int .u64 0, .int .u64 0, .slice none 0 0] 30) = w1 := ⟨_, rfl⟩
  have HG := keepHid h.lt
  have HP1 : Hid (Ps w1 g bs i d) := keepHid (by rw [← hw1]; exact h.alloc _)
  have HZ1 := keepHid (node_new hw1)
  have HO1 : Hid (Only g w w1) := keepHid (by rw [← hw1]; exact (Only.refl w g).alloc _)
  have HL1 : Hid (w1.heap.size = w.heap.size + 1) := keepHid (by rw [← hw1]; simp)
  have HPC := keepHid HP
  have HE1 := keepHid (ends_any HP1.out)
  have HLE := keepHid h.le
  have HMX := keepHid h.max
  clear h HP
  cases he : endsF (bs.drop i)
  · have HNE : Hid (i < bs.length) := keepHid (by
      rcases Nat.lt_or_ge i bs.length with h1 | h1
      · exact h1
      · rw [List.drop_eq_nil_of_le h1] at he; cases he)
    have HS : Hid (seqF grp (bs.drop i) = match pieceF grp (bs.drop i) with | (none, r) => (none, r) | (some n, r) => seqL grp 65 n r) := keepHid (by
      unfold seqF
      rw [if_neg (by simp [he])]
      generalize pieceF grp (bs.drop i) = z
      obtain ⟨o, q⟩ := z
      cases o <;> rfl)
    rw [he] at HE1
    clear he
    go_enter Try.func41, Try.ntmps41
    go_wp2_with fail
    refine HE1.out.mono ?_
    rintro e w' ⟨rfl, m, rfl⟩
    have HP2 := keepHid (HP1.out.drewN m)
    have HZ2 := keepHid (HZ1.out.drewN m)
    have HO2 := keepHid (HO1.out.drewN m)
    have HL2 : Hid ((w1.drewN m).heap.size = w.heap.size + 1) := keepHid HL1.out
    generalize w1.drewN m = w2 at *
    clear HP1 HZ1 HO1 HL1 HE1 hw1
    go_wp2_with fail
    refine (HPC.out g bs i w2 HP2.out HNE.out).mono ?_
    rintro e w3 ⟨n, ok, rfl, hok, hno, ⟨j3, hj3, hp3⟩, ho3⟩
    have hzl : w.heap.size < w2.heap.size := HZ2.out.lt
    obtain ⟨w4, hw4⟩ : ∃ w4, w3.alloc (.cells #[.int .i64 n.k, .int .u64 (n.s.a.toNat : Int), .int .u64 (n.s.b.toNat : Int), .int .u64 (n.s.c.toNat : Int), .int .u64 (n.s.d.toNat : Int), .slice n.A n.n n.c] 30) = w4 := ⟨_, rfl⟩
    have hsz3 : w2.heap.size ≤ w3.heap.size := ho3.size
    have hb34 : Below w3.heap.size w3 w4 := by rw [← hw4]; exact (Below.refl _ _).alloc (Nat.le_refl _) _
    have HR : Hid (SoFar g bs d (seqF grp (bs.drop i)) (seqL grp) w w3.heap.size (.bool ok) w4) := keepHid (by
      refine ⟨j3, n, ok, rfl, by rw [← hw4]; exact hp3.alloc _, by rw [← hw4]; exact Blk.new _ _ _, ?_, by rw [← hw4]; exact (HO2.out.trans ho3).alloc _, ?_, ?_⟩
      · rw [← hw4]; exact (HZ2.out.only ho3 (by have := HG.out; intro e; injection e; omega)).alloc _
      · intro hk
        obtain ⟨r, e1, e2⟩ := hok hk
        refine ⟨65, r, ?_, ?_, (e2.mono fun b hb hl => ⟨by have := HL2.out; omega, by omega⟩).below hb34⟩
        · rw [HS.out, hj3]
          generalize pieceF grp (bs.drop i) = z at *
          obtain ⟨o, q⟩ := z
          simp only at e1
          subst e1; rfl
        · have := HMX.out; simp; omega
      · intro hk
        have e1 := hno hk
        rw [HS.out, hj3]
        generalize pieceF grp (bs.drop i) = z at *
        obtain ⟨o, q⟩ := z
        simp only at e1
        subst e1; rfl)
    have HV : Hid (w.heap.size < w3.heap.size) := keepHid (by omega)
    clear hok hno hj3 hp3 ho3 hzl hsz3 hb34
    unfold hdV
    go_wp2_with fail
    try rw [hw4]
    clear hw4
    generalize w3.heap.size = v at *
    go_loopw [5] (fun okv wr => SoFar g bs d (seqF grp (bs.drop i)) (seqL grp) w v okv wr) (fun okv wr => seqM wr g bs.length okv)
    case atStart => exact HR.out
    case round =>
      obtain ⟨j, n', ok', rfl, hp, hn, hz, ho, hok, hno⟩ := hrel
      have HPR := keepHid hp
      have HNR := keepHid hn
      have HZR := keepHid hz
      have HOR := keepHid ho
      have HOKR := keepHid hok
      have HNOR := keepHid hno
      clear hp hn hz ho hok hno HR
      cases ok'
      · have HF := keepHid (HNOR.out rfl)
        obtain ⟨n0, n1, n2, n3, n4, n5, nf⟩ := blk6 HNR.out
        obtain ⟨z0, z1, z2, z3, z4, z5, zf⟩ := blk6 HZR.out
        have hw : Went g bs d (bs.drop j) w wr := ⟨⟨j, rfl, HPR.out⟩, HOR.out⟩
        have K := keepHid (hw.six (b := w.heap.size) (by have := HG.out; omega) (Nat.le_refl _))
        clear HOKR HNOR hw
        go_wp2
        exact ⟨by rfl, .tuple #[hdV n', .bool false], by rw [results_cell_tmp rfl]; go_simp; rfl, n', false, rfl, (fun h => by cases h), (fun _ => by rw [HF.out]), by rw [HF.out]; exact K.out _ _ _ _ _ _⟩
      · obtain ⟨f, r, hf, hlf, hir⟩ := HOKR.out rfl
        have HF := keepHid hf
        have HLF := keepHid hlf
        have HIR := keepHid hir
        have HER := keepHid (ends_any HPR.out)
        clear HOKR HNOR hf hlf hir
        cases he : endsF (bs.drop j)
        · have HNJ : Hid (j < bs.length) := keepHid (by
            rcases Nat.lt_or_ge j bs.length with h1 | h1
            · exact h1
            · rw [List.drop_eq_nil_of_le h1] at he; cases he)
          have HGO := keepHid (seqL_go (grp := grp) (r := r) HLF.out he)
          have HNE := keepHid (ends_ne he)
          rw [he] at HER
          clear he
          go_wp2_with fail
          refine HER.out.mono ?_
          rintro e w' ⟨rfl, m5, rfl⟩
          obtain ⟨wd, hwd⟩ : ∃ wd, wr.drewN m5 = wd := ⟨_, rfl⟩
          have hpd : Ps wd g bs j d := by rw [← hwd]; exact HPR.out.drewN m5
          have hnd : Blk wd v 30 (hdC n') := by rw [← hwd]; exact HNR.out.drewN m5
          have hzd : Blk wd w.heap.size 30 nd0 := by rw [← hwd]; exact HZR.out.drewN m5
          have hod : Only g w wd := by rw [← hwd]; exact HOR.out.drewN m5
          have hid : IsS wd (fun b => w.heap.size + 1 ≤ b ∧ b ≠ v) n' r := by rw [← hwd]; exact HIR.out.below (below_drewN (Below.refl _ _) m5)
          rw [hwd]
          obtain ⟨w5, hw5⟩ : ∃ w5, wd.alloc (.cells #[.int .i64 0, .int .u64 0, .int .u64 0, .int .u64 0, .int .u64 0, .slice none 0 0] 30) = w5 := ⟨_, rfl⟩
          have HP5 : Hid (Ps w5 g bs j d) := keepHid (by rw [← hw5]; exact hpd.alloc _)
          have HN5 : Hid (Blk w5 v 30 (hdC n')) := keepHid (by rw [← hw5]; exact hnd.alloc _)
          have HZ5 : Hid (Blk w5 w.heap.size 30 nd0) := keepHid (by rw [← hw5]; exact hzd.alloc _)
          have HO5 : Hid (Only g w w5) := keepHid (by rw [← hw5]; exact hod.alloc _)
          have HI5 : Hid (IsS w5 (fun b => w.heap.size + 1 ≤ b ∧ b ≠ v ∧ b ≠ wd.heap.size) n' r) := keepHid (by rw [← hw5]; exact (hid.mono fun b hb hl => ⟨hb.1, hb.2, by omega⟩).below ((Below.refl _ _).alloc (Nat.le_refl _) _))
          have HM5 : Hid (Blk w5 wd.heap.size 30 nd0) := keepHid (by rw [← hw5]; exact Blk.new _ _ _)
          have HVD : Hid (v < wd.heap.size) := keepHid hnd.lt
          have HS5 : Hid (w5.heap.size = wd.heap.size + 1) := keepHid (by rw [← hw5]; simp)
          obtain ⟨q, hq⟩ : ∃ q, wd.heap.size = q := ⟨_, rfl⟩
          rw [hq] at HM5 HVD HS5 HI5
          clear hpd hnd hzd hod hid HER hwd
          go_wp2_with (go_at_call 50; fail)
          try rw [hq]
          clear hq hw5
          refine (HPC.out g bs j w5 HP5.out HNJ.out).mono ?_
          rintro e w6 ⟨mm, ok2, rfl, hok2, hno2, ⟨j6, hj6, hp6⟩, ho6⟩
          have hgg := HG.out
          have hvd := HVD.out
          have hv := HV.out
          have hs5 := HS5.out
          have HN6 := keepHid (HN5.out.only ho6 (by intro e; injection e; omega))
          have HZ6 := keepHid (HZ5.out.only ho6 (by intro e; injection e; omega))
          have HM6 := keepHid (HM5.out.only ho6 (by intro e; injection e; omega))
          have HO6 := keepHid (HO5.out.trans ho6)
          have HP6 := keepHid hp6
          have HJ6 := keepHid hj6
          have HI6 : Hid (IsS w6 (fun b => w.heap.size + 1 ≤ b ∧ b ≠ v ∧ b ≠ q) n' r) := keepHid (HI5.out.keep fun b hb hl => ho6.block b hl (by intro e; injection e; omega))
          have HOK2 : Hid (ok2 = true → ∃ rm, (pieceF grp (bs.drop j)).1 = some rm ∧ IsS w6 (fun b => w.heap.size + 1 ≤ b ∧ b ≠ v ∧ b ≠ q) mm rm) := keepHid (fun h => by
            obtain ⟨rm, e1, e2⟩ := hok2 h
            exact ⟨rm, e1, e2.mono fun b hb _ => by omega⟩)
          have HNO2 := keepHid hno2
          have HS6 : Hid (w5.heap.size ≤ w6.heap.size) := keepHid ho6.size
          clear hp6 ho6 hj6 hok2 hno2
          obtain ⟨n0, n1, n2, n3, n4, n5, nf⟩ := blk6 HN6.out
          obtain ⟨m0, m1, m2, m3, m4, m5', mf⟩ := blk6 HM6.out
          unfold hdV
          go_wp2_with (go_at_call 43; fail)
          obtain ⟨w7, hw7⟩ : ∃ w7, (((((w6.setCell ⟨q, 0, none⟩ (.int .i64 mm.k)).setCell ⟨q, 1, none⟩ (.int .u64 (mm.s.a.toNat : Int))).setCell ⟨q, 2, none⟩ (.int .u64 (mm.s.b.toNat : Int))).setCell ⟨q, 3, none⟩ (.int .u64 (mm.s.c.toNat : Int))).setCell ⟨q, 4, none⟩ (.int .u64 (mm.s.d.toNat : Int))).setCell ⟨q, 5, none⟩ (.slice mm.A mm.n mm.c) = w7 := ⟨_, rfl⟩
          have HP7 : Hid (Ps w7 g bs j6 d) := keepHid (by rw [← hw7]; exact HP6.out.far6 (by omega) _ _ _ _ _ _)
          have HO7 : Hid (Only g w w7) := keepHid (by rw [← hw7]; exact HO6.out.six (by omega) _ _ _ _ _ _)
          have HN7 : Hid (Blk w7 v 30 (hdC n')) := keepHid (by rw [← hw7]; exact HN6.out.far6 (by omega) _ _ _ _ _ _)
          have HZ7 : Hid (Blk w7 w.heap.size 30 nd0) := keepHid (by rw [← hw7]; exact HZ6.out.far6 (by omega) _ _ _ _ _ _)
          have HI7 : Hid (IsS w7 (fun b => w.heap.size + 1 ≤ b ∧ b ≠ v ∧ b ≠ q) n' r) := keepHid (by rw [← hw7]; exact HI6.out.keep fun b hb _ => six_far hb.2.2)
          have HOK7 : Hid (ok2 = true → ∃ rm, (pieceF grp (bs.drop j)).1 = some rm ∧ IsS w7 (fun b => w.heap.size + 1 ≤ b ∧ b ≠ v ∧ b ≠ q) mm rm) := keepHid (fun h => by
            obtain ⟨rm, e1, e2⟩ := HOK2.out h
            rw [← hw7]
            exact ⟨rm, e1, e2.keep fun b hb _ => six_far hb.2.2⟩)
          have HS7 : Hid (w5.heap.size ≤ w7.heap.size) := keepHid (by rw [← hw7]; have := HS6.out; simpa using this)
          rw [hw7]
          clear hw7 n0 n1 n2 n3 n4 n5 nf m0 m1 m2 m3 m4 m5' mf
          refine (pair_any 2 n' mm w7).mono ?_
          rintro e w8 ⟨gP, rfl, hgP, hat0, hat6, hb8⟩
          have HP8 := keepHid (HP7.out.below hb8 HP7.out.lt)
          have HO8 := keepHid (HO7.out.trans (Only.of_below (g := g) hb8))
          have HN8 := keepHid (HN7.out.below hb8 HN7.out.lt)
          have HZ8 := keepHid (HZ7.out.below hb8 HZ7.out.lt)
          have HI8 := keepHid (HI7.out.below hb8)
          have HOK8 : Hid (ok2 = true → ∃ rm, (pieceF grp (bs.drop j)).1 = some rm ∧ IsS w8 (fun b => w.heap.size + 1 ≤ b ∧ b ≠ v) (⟨2, st0, some ⟨gP, 0, none⟩, 2, 2⟩ : Hd) (.thn r rm)) := keepHid (fun h => by
            obtain ⟨rm, e1, e2⟩ := HOK7.out h
            have hs7 := HS7.out
            exact ⟨rm, e1, gP, 2, n', mm, rfl, Nat.le_refl _, by unfold maxLen; omega, ⟨by omega, by omega⟩, hat0, hat6, HI8.out.mono fun b hb _ => ⟨hb.1, hb.2.1⟩, (e2.below hb8).mono fun b hb _ => ⟨hb.1, hb.2.1⟩⟩)
          clear hgP hat0 hat6 hb8
          obtain ⟨n0, n1, n2, n3, n4, n5, nf⟩ := blk6 HN8.out
          unfold hdV
          go_wp2
          go_roundw
          case rel =>
            refine ⟨j6, ⟨2, st0, some ⟨gP, 0, none⟩, 2, 2⟩, ok2, rfl, HP8.out.far6 (by omega) _ _ _ _ _ _, HN8.out.six _ _ _ _ _ _, HZ8.out.far6 (by omega) _ _ _ _ _ _, HO8.out.six (by omega) _ _ _ _ _ _, ?_, ?_⟩
            · intro hk
              obtain ⟨rm, e1, e2⟩ := HOK8.out hk
              refine ⟨f - 1, .thn r rm, ?_, ?_, e2.keep fun b hb _ => six_far hb.2⟩
              · rw [HF.out, HGO.out, HJ6.out]
                generalize pieceF grp (bs.drop j) = z at *
                obtain ⟨o, y⟩ := z
                simp only at e1
                subst e1; rfl
              · have h1 := HLF.out
                have h2 := pieceF_lt HL HNE.out (show pieceF grp (bs.drop j) = (some rm, (pieceF grp (bs.drop j)).2) by rw [← e1])
                rw [HJ6.out]
                omega
            · intro hk
              have e1 := HNO2.out hk
              rw [HF.out, HGO.out, HJ6.out]
              generalize pieceF grp (bs.drop j) = z at *
              obtain ⟨o, y⟩ := z
              simp only at e1
              subst e1; rfl
          case measure =>
            cases ok2
            · show 0 < leftN g bs.length wr + 1
              omega
            · obtain ⟨rm, e1, e2⟩ := HOK8.out rfl
              have h2 := pieceF_lt HL HNE.out (show pieceF grp (bs.drop j) = (some rm, (pieceF grp (bs.drop j)).2) by rw [← e1])
              show leftN g bs.length _ + 1 < leftN g bs.length wr + 1
              rw [leftN_of (HP8.out.far6 (b := v) (by omega) _ _ _ _ _ _), leftN_of HPR.out, HJ6.out]
              omega
        · have HEND := keepHid (seqL_end (grp := grp) (r := r) HLF.out he)
          rw [he] at HER
          clear he
          go_wp2_with fail
          refine HER.out.mono ?_
          rintro e w' ⟨rfl, m5, rfl⟩
          have HPE := keepHid (HPR.out.drewN m5)
          have HOE := keepHid (HOR.out.drewN m5)
          have HNE := keepHid (HNR.out.drewN m5)
          have HZE := keepHid (HZR.out.drewN m5)
          have HIE : Hid (IsS (wr.drewN m5) (fun b => w.heap.size + 1 ≤ b ∧ b ≠ v) n' r) := keepHid (HIR.out.below (below_drewN (Below.refl _ _) m5))
          generalize wr.drewN m5 = we at *
          obtain ⟨n0, n1, n2, n3, n4, n5, nf⟩ := blk6 HNE.out
          obtain ⟨z0, z1, z2, z3, z4, z5, zf⟩ := blk6 HZE.out
          have hw : Went g bs d (bs.drop j) w we := ⟨⟨j, rfl, HPE.out⟩, HOE.out⟩
          have K := keepHid (hw.six (b := w.heap.size) (by have := HG.out; omega) (Nat.le_refl _))
          clear hw HER
          go_wp2
          exact ⟨by rfl, .tuple #[hdV n', .bool true], by rw [results_cell_tmp rfl]; go_simp; rfl, n', true, rfl, (fun _ => ⟨r, by rw [HF.out, HEND.out], (HIE.out.keep fun b hb _ => six_far (by omega)).mono fun b hb _ => by omega⟩), (fun h => by cases h), by rw [HF.out, HEND.out]; exact K.out _ _ _ _ _ _⟩
  · have HF : Hid (seqF grp (bs.drop i) = (some .nil, bs.drop i)) := keepHid (by unfold seqF; rw [if_pos he])
    rw [he] at HE1
    clear he
    go_enter Try.func41, Try.ntmps41
    go_wp2_with fail
    refine HE1.out.mono ?_
    rintro e w' ⟨rfl, m, rfl⟩
    have HP2 := keepHid (HP1.out.drewN m)
    have HZ2 := keepHid (HZ1.out.drewN m)
    have HO2 := keepHid (HO1.out.drewN m)
    generalize w1.drewN m = w2 at *
    obtain ⟨z0, z1, z2, z3, z4, z5, zf⟩ := blk6 HZ2.out
    have hw : Went g bs d (bs.drop i) w w2 := ⟨⟨i, rfl, HP2.out⟩, HO2.out⟩
    have K := keepHid (hw.six (b := w.heap.size) (by have := HG.out; omega) (Nat.le_refl _))
    clear hw HE1 hw1
    go_wp2
    exact ⟨by rfl, .tuple #[hdV hd0, .bool true], by rw [results_cell_tmp rfl]; go_simp; rfl, hd0, true, rfl, (fun _ => ⟨.nil, by rw [HF.out], rfl⟩), (fun h => by cases h), by rw [HF.out]; exact K.out _ _ _ _ _ _⟩
end
end Go.Proofs.Ytlmjijejgfhmmaa
