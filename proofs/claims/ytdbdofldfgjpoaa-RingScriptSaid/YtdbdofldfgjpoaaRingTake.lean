/-
  'Take' of a ring.
-/
import Derived.Test.YtdbdofldfgjpoaaRingPut
namespace Go.Proofs.Ytdbdofldfgjpoaa
open Go.RowKit
set_option linter.unusedVariables false

theorem byteVals_len (cs : List UInt8) : (byteVals cs).size = cs.length := by simp [byteVals]
theorem take_step {q : List UInt8} {j m : Nat} {c : UInt8} (h : q[j]? = some c) (hj : j < m) : (q.take j ++ zeros (m - j)).set j c = q.take (j + 1) ++ zeros (m - (j + 1)) := by
  have hl : j < q.length := by
    rcases Nat.lt_or_ge j q.length with hl | hl
    · exact hl
    · rw [List.getElem?_eq_none hl] at h; cases h
  have h1 : (q.take j).length = j := by rw [List.length_take]; omega
  have h2 : zeros (m - j) = 0 :: zeros (m - (j + 1)) := by
    unfold zeros
    rw [show m - j = (m - (j + 1)) + 1 by omega, List.replicate_succ]
  rw [List.set_append, if_neg (by omega), h1, Nat.sub_self, h2, List.set_cons_zero, List.take_succ_of h, List.append_assoc]
  rfl

theorem take_fin {w wr : World} {g h N f k j p : Nat} {l : Int} {cs q : List UInt8} (hgh : g ≠ h) (hf : f < N) (hN : N ≤ 4096) (hcs : cs.length = N) (hk : q.length = k) (hj : j ≤ k) (hkN : k ≤ N) (hp : (f + j) % N = p) (hht : ¬ h = w.heap.size) (hgt : ¬ g = w.heap.size)
    (hrs : RS wr g h N f k l) (hbk : Blk wr h 5 (byteVals cs)) (hbt : Blk wr w.heap.size 5 (byteVals (q.take j ++ zeros (j - j)))) (hho : Holds f N cs q) (d : Nat) (ht : Turn (fun i => i = g ∨ i = h) w wr) :
    Ring (((wr.drewN d).setCell ⟨g, 1, none⟩ (.int .i64 (p : Int))).setCell ⟨g, 2, none⟩ (.int .i64 ((k : Int) - (j : Int)))) g h N (q.drop j) l ∧
      Blk (((wr.drewN d).setCell ⟨g, 1, none⟩ (.int .i64 (p : Int))).setCell ⟨g, 2, none⟩ (.int .i64 ((k : Int) - (j : Int)))) w.heap.size 5 (byteVals (q.take j)) ∧
      Turn (fun i => i = g ∨ i = h) w (((wr.drewN d).setCell ⟨g, 1, none⟩ (.int .i64 (p : Int))).setCell ⟨g, 2, none⟩ (.int .i64 ((k : Int) - (j : Int)))) := by
  refine ⟨⟨p, cs, hgh, by rw [← hp]; exact place_lt hf, hN, hcs, by rw [List.length_drop]; omega, ?_, ((Blk.drewN hbk d).far (Ne.symm hgh) _).far (Ne.symm hgh) _, by rw [← hp]; exact hho.drop (by omega) j⟩, ?_, ((ht.drewN d).setCell (.inl (.inl rfl)) _).setCell (.inl (.inl rfl)) _⟩
  · unfold RS
    rw [List.length_drop, hk, show ((k - j : Nat) : Int) = (k : Int) - (j : Int) by omega]
    exact ((Blk.drewN hrs d).put 1 _).put 2 _
  · rw [Nat.sub_self, show zeros 0 = [] from rfl, List.append_nil] at hbt
    exact ((Blk.drewN hbt d).far (Ne.symm hgt) _).far (Ne.symm hgt) _
theorem take_fin0 {w wr : World} {g h N f k : Nat} {l : Int} {cs q : List UInt8} (hgh : g ≠ h) (hf : f < N) (hN : N ≤ 4096) (hcs : cs.length = N) (hk : q.length = k) (hkN : k ≤ N)
    (hrs : RS wr g h N f k l) (hbk : Blk wr h 5 (byteVals cs)) (hbt : Blk wr w.heap.size 5 (byteVals (q.take 0 ++ zeros (0 - 0)))) (hho : Holds f N cs q) (ht : Turn (fun i => i = g ∨ i = h) w wr) :
    Ring wr g h N (q.drop 0) l ∧ Blk wr w.heap.size 5 (byteVals (q.take 0)) ∧ Turn (fun i => i = g ∨ i = h) w wr :=
  ⟨⟨f, cs, hgh, hf, hN, hcs, by simpa [hk] using hkN, by simpa [hk] using hrs, hbk, by simpa using hho⟩, by simpa [zeros] using hbt, ht⟩

theorem take_any (g h N : Nat) (q : List UInt8) (l : Int) (z : Int) (m : Nat) (w : World) (hr : Ring w g h N q l) (hm : (z < 1 ∧ m = 0) ∨ (1 ≤ z ∧ z ≤ q.length ∧ z = (m : Int)) ∨ ((q.length : Int) < z ∧ m = q.length)) :
    Calls Try.prog 12 #[.pointer (some ⟨g, 0, none⟩), .int .i64 z] w fun e w' => e = .returned (.slice (some ⟨w.heap.size, 0, none⟩) m m) ∧ Ring w' g h N (q.drop m) l ∧ Blk w' w.heap.size 5 (byteVals (q.take m)) ∧ Turn (fun i => i = g ∨ i = h) w w' := by
  obtain ⟨f, cs, hgh, hf, hN, hcs, hq, hrs, hbk, hho⟩ := hr
  obtain ⟨k, hk⟩ : ∃ k, q.length = k := ⟨_, rfl⟩
  rw [hk] at hq hrs hm
  have hmk : m ≤ k := by omega
  have hgt : ¬ g = w.heap.size := by have := Blk.lt hrs; omega
  have hht : ¬ h = w.heap.size := by have := Blk.lt hbk; omega
  have htg : ¬ w.heap.size = g := Ne.symm hgt
  have hth : ¬ w.heap.size = h := Ne.symm hht
  have HK := keepHid hk
  have HCS := keepHid hcs
  have HRS := keepHid hrs
  have HBK := keepHid hbk
  have HHO := keepHid hho
  have hc2 := hrs.c2
  clear hrs hbk hho hk hcs
  have hmake : ∃ v : Int, (v = (m : Int)) ∧ ((z < 0 ∧ v = 0) ∨ (z = 0 ∧ v = 0) ∨ (1 ≤ z ∧ z ≤ (k : Int) ∧ v = z) ∨ ((k : Int) < z ∧ v = (k : Int))) := ⟨m, rfl, by omega⟩
  obtain ⟨v, hv, hz⟩ := hmake
  have hmk2 := run_mkb v m hv (by omega)
  have HV := keepHid hv
  clear hm hv
  rcases hz with ⟨h1, rfl⟩ | ⟨rfl, rfl⟩ | ⟨h1, h2, rfl⟩ | ⟨h1, rfl⟩
  all_goals
    go_enter Try.func12, Try.ntmps12
    go_wp2
    clear hmk2 hc2
    go_loopw [17] (fun i wr => ∃ j : Nat, j ≤ m ∧ i = .int .i64 j ∧ RS wr g h N f k l ∧ Blk wr h 5 (byteVals cs) ∧ Blk wr w.heap.size 5 (byteVals (q.take j ++ zeros (m - j))) ∧ Turn (fun i => i = g ∨ i = h) w wr) (fun i _ => m - (intOf i).toNat)
    case atStart => exact ⟨0, Nat.zero_le _, rfl, Blk.alloc HRS.out _, HBK.out.alloc _, by simpa [zrow] using Blk.new w 5 (zrow m), (Turn.refl _ _).alloc _⟩
    case round =>
      obtain ⟨j, hj, rfl, hrs, hbk, hbt, htu⟩ := hrel
      have HT := keepHid htu
      have HRS' := keepHid hrs
      have HBK' := keepHid hbk
      have HBT' := keepHid hbt
      have hc0 := hrs.c0
      clear htu hbk hbt
      by_cases hlt : j < m
      · obtain ⟨p, hp⟩ : ∃ p, (f + j) % N = p := ⟨_, rfl⟩
        have hpN : p < N := by rw [← hp]; exact place_lt hf
        obtain ⟨x, hx⟩ : ∃ x, q[j]? = some x := ⟨_, List.getElem?_eq_getElem (by rw [HK.out]; omega)⟩
        have hcx := HHO.out j x hx
        rw [hp] at hcx
        have HP := keepHid hp
        have HX := keepHid hx
        have hpc : wr.cell? ⟨h, p, none⟩ = some (.int .u8 (x.toNat : Int)) := (HBK'.out.cell p).trans (by simp [byteVals, hcx])
        obtain ⟨y, _, hyc⟩ := byteVals_at (cs := q.take j ++ zeros (m - j)) (i := j) (by rw [List.length_append, zeros_len, List.length_take, HK.out]; omega)
        have hpt : wr.cell? ⟨w.heap.size, j, none⟩ = some (.int .u8 (y.toNat : Int)) := (HBT'.out.cell j).trans hyc
        have hpf : wr.frozen? ⟨w.heap.size, j, none⟩ = false := HBT'.out.frozen j
        have hb1 : (0 : Int) ≤ (p : Int) := by omega
        have hb2 : (p : Int) < (N : Int) := by omega
        have hb3 : (0 : Int) ≤ (j : Int) := by omega
        have hb4 : (j : Int) < (m : Int) := by omega
        clear hx hp hcx hyc
        go_wp2
        go_region_held3 (fun w' => w'.cell? ⟨g, 0, none⟩ = some (.slice (some ⟨h, 0, none⟩) N N) ∧ w'.cell? ⟨h, p, none⟩ = some (.int .u8 (x.toNat : Int)) ∧ RS w' g h N f k l)
          (go_keep)
          (first | (go_at_call 16; refine (place_at g h N f k p l _ j (by omega) HP.out hf hN (by omega) _ (by assumption)).mono ?_; rintro e w' ⟨rfl, d2, rfl⟩))
        go_wp2
        go_roundw
        case rel =>
          refine ⟨j + 1, by omega, by go_num, ?_, ?_, ?_, ?_⟩
          · rw [RS.at_set hgt]; exact HRS'.out
          · exact (Blk.drewN HBK'.out _).far hht _
          · rw [← take_step HX.out hlt, ← byteVals_set]; exact (Blk.drewN HBT'.out _).put j _
          · exact (HT.out.drewN _).setCell (.inr (Nat.le_refl _)) _
        case measure => simp [intOf]; omega
      · obtain rfl : j = m := by omega
        have hc1 := hrs.c1
        have hc2 := hrs.c2
        have hg1 : wr.frozen? ⟨g, 1, none⟩ = false := Blk.frozen hrs 1
        have hg2 : wr.frozen? ⟨g, 2, none⟩ = false := Blk.frozen hrs 2
        have hpj := place_lt (i := j) hf
        obtain ⟨p, hp⟩ : ∃ p, (f + j) % N = p := ⟨_, rfl⟩
        have HP := keepHid hp
        clear hp
        by_cases hpos : 0 < j
        · go_wp2_with fail
          refine (place_at g h N f k p l _ j (by omega) HP.out hf hN (by omega) _ HRS'.out).mono ?_
          rintro e w' ⟨rfl, d2, rfl⟩
          go_wp2
          go_ret
          exact ⟨rfl, take_fin hgh hf hN HCS.out HK.out hmk hq HP.out hht hgt HRS'.out HBK'.out HBT'.out HHO.out d2 HT.out⟩
        · obtain rfl : j = 0 := by omega
          go_wp2
          go_ret
          exact ⟨rfl, take_fin0 hgh hf hN HCS.out HK.out hq HRS'.out HBK'.out HBT'.out HHO.out HT.out⟩
end Go.Proofs.Ytdbdofldfgjpoaa
