/-
  What 'filled' and 'Split' answer: data in parts of the call's own.
-/
import Derived.Test.YtgdjopiejmdbnaaGreatDoorMake
import Derived.Test.YtgdjopiejmdbnaaGreatDoorBlockPlain
import Derived.Laws.CopyOwn
namespace Go.Proofs.YtgdjopiejmdbnaaGreatDoor
open Go.RowKit
set_option linter.unusedVariables false

/-- A part as far as it is filled up. -/
def fillL (d : List UInt8) (S k : Nat) : List UInt8 := d ++ (List.replicate (k - d.length) 26 ++ zeros (S - k))
theorem fillL_len (d : List UInt8) {S k : Nat} (h1 : d.length ≤ k) (h2 : k ≤ S) : (fillL d S k).length = S := by simp [fillL, zeros_len]; omega
theorem fillL_start (d : List UInt8) (S : Nat) : fillL d S d.length = d ++ zeros (S - d.length) := by simp [fillL]
theorem fillL_full (d : List UInt8) (S : Nat) : fillL d S S = fill d S := by simp [fillL, fill, zeros]
theorem fillL_set (d : List UInt8) {S k : Nat} (h1 : d.length ≤ k) (h : k < S) : (fillL d S k).set k 26 = fillL d S (k + 1) := by
  have e : zeros (S - k) = 0 :: zeros (S - (k + 1)) := by
    unfold zeros; rw [show S - k = (S - (k + 1)) + 1 by omega, List.replicate_succ]
  unfold fillL
  rw [e, List.set_append_right _ _ h1, List.set_append_right _ _ (by simp), show k - d.length - (List.replicate (k - d.length) (26 : UInt8)).length = 0 by simp, show k + 1 - d.length = (k - d.length) + 1 by omega, List.replicate_succ']
  simp
theorem size8 : (Tryz.prog.info? 5).map (·.size) = some 1 := by kernel_rfl

theorem filled_any (A : Option Addr) (n c B S : Nat) (bs : List UInt8) (w : World) (h : Bys w B A n bs) (hB : B ≤ w.heap.size) (hS : n ≤ S) (hS2 : S ≤ 4096) :
    Calls Tryz.prog 46 #[.slice A n c, .int .i64 (S : Int)] w (RetB w (fill bs S)) := by
  have hln := h.len
  have hmk := run_mkbs (S : Int) (S : Int) S S rfl rfl (Nat.le_refl _) (by omega) w
  obtain ⟨w1, hw1⟩ : ∃ w1, w.alloc (.cells (zrow S) 5) = w1 := ⟨_, rfl⟩
  rw [hw1] at hmk
  have hk1 : Blk w1 w.heap.size 5 (zrow S) := by rw [← hw1]; exact Blk.new w _ _
  have hb1 : Below w.heap.size w w1 := by rw [← hw1]; exact (Below.refl _ _).alloc (Nat.le_refl _) _
  have HK1 := keepHid hk1
  have HB1 := keepHid hb1
  have H1 := keepHid ((h.more hB).below hb1)
  have hfin : ∀ w', Blk w' w.heap.size 5 (byteVals (fill bs S)) → Below w.heap.size w w' → RetB w (fill bs S) (.returned (.slice (some ⟨w.heap.size, 0, none⟩) S S)) w' := fun w' hk hb =>
    ⟨some ⟨w.heap.size, 0, none⟩, S, by rw [fill_len (by omega)], by rw [fill_len (by omega)]; exact own_blk hk (Nat.le_refl _) (fill_len (by omega)) (by omega), by rw [fill_len (by omega)]; exact Nat.le_refl _, by omega, hb⟩
  have HFIN := keepHid hfin
  have HLN := keepHid hln
  have hzl : ((zeros S).map byteV).toArray = zrow S := by simp [zrow, byteVals, byteV]
  have HZ := keepHid hzl
  obtain ⟨cs, hcs⟩ : ∃ cs, bs.map byteV = cs := ⟨_, rfl⟩
  have hcl : cs.length = n := by rw [← hcs, List.length_map, hln]
  obtain ⟨zs, hzs⟩ : ∃ zs, (zeros S).map byteV = zs := ⟨_, rfl⟩
  have hzsl : zs.length = S := by rw [← hzs, List.length_map, zeros_len]
  have HCS := keepHid hcs
  have HZS := keepHid hzs
  have HCL := keepHid hcl
  have HZL := keepHid hzsl
  have hspl : (splice zs 0 cs).toArray = byteVals (fillL bs S n) := by
    unfold splice
    rw [← hcs, ← hzs, ← hln, fillL_start, List.take_zero, List.nil_append, Nat.zero_add, List.length_map, ← List.map_drop, ← List.map_append]
    simp [byteVals, byteV, zeros]
  have HSPL := keepHid hspl
  clear hk1 hb1 h hfin hw1 hln hzl hcs hcl hzs hzsl hspl
  go_enter Tryz.func46, Tryz.ntmps46
  go_wp2_with ((with_reducible show wpList _ _ _ _ _ _); (refine wpList_copy_splice rfl (.tmp 9) (.tmp 10) 24 24 rfl 5 Tryz.underlying24 size8 _ _ _ _ _ _ (by rfl) (by rfl) w.heap.size 0 zs 5 ?c1 cs ?c2 ?c3 ?c4 ?c5 w.heap.size w HB1.out (Nat.le_refl _) ?_))
  case c1 => rw [← HZS.out, HZ.out]; exact HK1.out
  case c2 => rw [HCL.out]; exact (Nat.min_eq_left hS).symm
  case c3 =>
    intro hp
    rw [HCL.out] at hp
    obtain ⟨ad, _, ha, _⟩ := H1.out.at_ hp
    have key : ∀ (j : Nat) (v : Value), cs[j]? = some v → w1.cell? (ad.add j) = some v := fun j v hj => by
      rw [← HCS.out, List.getElem?_map] at hj
      obtain ⟨z, hz, rfl⟩ := Option.map_eq_some_iff.1 hj
      obtain ⟨ad', e, _, hcell⟩ := H1.out.2.2 j z hz
      rw [ha] at e
      obtain rfl := Option.some.inj e
      exact hcell
    first | exact ⟨rfl, ad, ha, key⟩ | exact ⟨ad, ha, key⟩
  case c4 => rw [HCL.out, HZL.out]; omega
  case c5 => rw [← HCS.out]; exact byteV_one _
  intro w2 HG2 hB2
  rw [HCL.out]
  have hk2 : Blk w2 w.heap.size 5 (byteVals (fillL bs S n)) := by rw [← HSPL.out]; exact HG2.out
  have HK2 := keepHid hk2
  have HB2 := keepHid hB2
  clear HG2 hB2 hk2 hmk
  go_wp2
  go_loopw [6] (fun i wr => ∃ k : Nat, n ≤ k ∧ k ≤ S ∧ i = .int .i64 k ∧ Blk wr w.heap.size 5 (byteVals (fillL bs S k)) ∧ Below w.heap.size w wr) (fun i _ => S - (intOf i).toNat)
  case atStart => exact ⟨n, Nat.le_refl _, hS, by first | rfl | simp, HK2.out, HB2.out⟩
  case round =>
    obtain ⟨k, hnk, hk, rfl, hbk, hbel⟩ := hrel
    have HK := keepHid hbk
    have HB := keepHid hbel
    by_cases hlt : k < S
    · obtain ⟨y, hy1, hy2⟩ := byteVals_at (cs := fillL bs S k) (i := k) (by rw [fillL_len bs (by rw [HLN.out]; exact hnk) hk]; exact hlt)
      have hcell := (hbk.cell k).trans hy2
      have hfz := hbk.frozen k
      clear hy1 hy2 hbk hbel
      go_wp2
      go_roundw
      case rel =>
        refine ⟨k + 1, by omega, by omega, by go_num, ?_, ?_⟩
        · rw [← fillL_set bs (by rw [HLN.out]; exact hnk) hlt, ← byteVals_set]; exact HK.out.put k _
        · exact HB.out.setCell (Nat.le_refl _) _
      case measure => simp [intOf]; omega
    · obtain rfl : k = S := by omega
      clear hbk hbel
      go_wp2
      go_ret
      exact HFIN.out wr (by rw [← fillL_full]; exact HK.out) HB.out
end Go.Proofs.YtgdjopiejmdbnaaGreatDoor
