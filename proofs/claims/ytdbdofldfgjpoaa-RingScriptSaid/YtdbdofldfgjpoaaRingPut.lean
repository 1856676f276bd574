/-
  'Of', 'Put', 'Take' of a ring.
-/
import Derived.Test.YtdbdofldfgjpoaaRing
namespace Go.Proofs.Ytdbdofldfgjpoaa
open Go.RowKit
set_option linter.unusedVariables false

/-- The room of a ring that is made for z. -/
def OfN (z : Int) (N : Nat) : Prop := (z < 1 ∧ N = 1) ∨ (1 ≤ z ∧ z ≤ 4096 ∧ z = (N : Int)) ∨ (4096 < z ∧ N = 4096)
def zeros (N : Nat) : List UInt8 := List.replicate N 0
def zrow (N : Nat) : Array Value := byteVals (zeros N)
theorem zeros_len (N : Nat) : (zeros N).length = N := List.length_replicate
theorem made_bytes (N : Nat) : madeCells #[.int .u8 0] (N * 1) = zrow N := by
  apply Array.ext'
  apply List.ext_getElem?
  intro i
  rcases Nat.lt_or_ge i N with hi | hi
  · simp [madeCells, zrow, zeros, byteVals, hi, Nat.mod_one]
  · simp [madeCells, zrow, zeros, byteVals, hi]
theorem run_mkb (v : Int) (N : Nat) (hv : v = (N : Int)) (hN : N ≤ 4096) (W : World) :
    (Instr.makeSlice 27 (.int .i64 v) (.int .i64 v)).run Try.prog W = .ok (.slice (some ⟨W.heap.size, 0, none⟩) N N) (W.alloc (.cells (zrow N) 5)) := by
  subst hv
  obtain ⟨i, hi⟩ := Option.isSome_iff_exists.1 (show (Try.prog.info? 5).isSome = true by kernel_rfl)
  have h0 : (Try.prog.info? 5).map (fun i => (i.zero, i.bytes, i.size)) = some (some (.int .u8 0), 1, 1) := by kernel_rfl
  rw [hi] at h0
  simp only [Option.map_some, Option.some.injEq, Prod.mk.injEq] at h0
  obtain ⟨hz, hb, hs⟩ := h0
  have h := run_make (P := Try.prog) W 27 5 i (.int .u8 0) Try.underlying27 hi hz .i64 .i64 (N : Int) (N : Int) (by omega) (by omega) (by rw [hb]; omega) (by omega)
  rw [hs] at h
  simp only [Int.toNat_natCast] at h
  rw [← made_bytes]
  exact h

theorem of_any (z : Int) (N : Nat) (hz : OfN z N) (w : World) :
    Calls Try.prog 10 #[.int .i64 z] w fun e w' => e = .returned (.pointer (some ⟨w.heap.size + 1, 0, none⟩)) ∧ RS w' (w.heap.size + 1) w.heap.size N 0 0 0 ∧ Blk w' w.heap.size 5 (zrow N) ∧
      Below w.heap.size w w' ∧ w'.heap.size = w.heap.size + 2 := by
  have fin : ∀ C : Array Value, Blk ((w.alloc (.cells (zrow N) 5)).alloc (.cells C 43)) (w.heap.size + 1) 43 C ∧ Blk ((w.alloc (.cells (zrow N) 5)).alloc (.cells C 43)) w.heap.size 5 (zrow N) ∧
      Below w.heap.size w ((w.alloc (.cells (zrow N) 5)).alloc (.cells C 43)) ∧ ((w.alloc (.cells (zrow N) 5)).alloc (.cells C 43)).heap.size = w.heap.size + 2 := fun C =>
    ⟨by simpa using Blk.new (w.alloc _) _ _, (Blk.new w _ _).alloc _, ((Below.refl _ _).alloc (Nat.le_refl _) _).alloc (by simp) _, by simp⟩
  have FIN := keepHid fin
  clear fin
  rcases hz with ⟨h1, rfl⟩ | ⟨h1, h2, rfl⟩ | ⟨h1, rfl⟩
  · have hmk := run_mkb 1 1 rfl (by omega)
    go_enter Try.func10, Try.ntmps10
    go_wp2
    go_ret
    exact ⟨rfl, FIN.out _⟩
  · have hmk := run_mkb N N rfl (by omega)
    go_enter Try.func10, Try.ntmps10
    go_wp2
    go_ret
    exact ⟨rfl, FIN.out _⟩
  · have hmk := run_mkb 4096 4096 rfl (by omega)
    go_enter Try.func10, Try.ntmps10
    go_wp2
    go_ret
    exact ⟨rfl, FIN.out _⟩
/-- A ring with room for N, in which q wait, and l were lost: its struct in block g, its circle in block h. -/
def Ring (w : World) (g h N : Nat) (q : List UInt8) (l : Int) : Prop :=
  ∃ (f : Nat) (cs : List UInt8), g ≠ h ∧ f < N ∧ N ≤ 4096 ∧ cs.length = N ∧ q.length ≤ N ∧ RS w g h N f q.length l ∧ Blk w h 5 (byteVals cs) ∧ Holds f N cs q

theorem byteVals_at {cs : List UInt8} {i : Nat} (hi : i < cs.length) : ∃ c : UInt8, cs[i]? = some c ∧ (byteVals cs)[i]? = some (.int .u8 (c.toNat : Int)) := by
  refine ⟨cs[i], List.getElem?_eq_getElem hi, ?_⟩
  simp [byteVals, hi]
theorem byteVals_set (cs : List UInt8) (i : Nat) (c : UInt8) : (byteVals cs).setIfInBounds i (.int .u8 (c.toNat : Int)) = byteVals (cs.set i c) := by
  simp [byteVals, List.map_set]

/-- What was lost, when n - m bytes more are. -/
def lostBy (l : Int) (d : Int) : Int := wrap64 (l + d)
theorem ring_fin {wr : World} {g h N f k j : Nat} {l l' : Int} {cs q : List UInt8} (hgh : g ≠ h) (hf : f < N) (hN : N ≤ 4096) (hcs : cs.length = N) (hrs : RS wr g h N f k l) (hbk : Blk wr h 5 (byteVals cs)) (hho : Holds f N cs q)
    (hq : q.length = k + j) (hkj : k + j ≤ N) (l2 : Int) (hl : l2 = l') : Ring ((wr.setCell ⟨g, 2, none⟩ (.int .i64 ((k : Int) + (j : Int)))).setCell ⟨g, 3, none⟩ (.int .i64 l2)) g h N q l' := by
  subst hl
  refine ⟨f, cs, hgh, hf, hN, hcs, by omega, ?_, (hbk.far (Ne.symm hgh) _).far (Ne.symm hgh) _, hho⟩
  rw [hq]
  exact (Blk.put hrs 2 _).put 3 _

theorem put_any (g h N : Nat) (q : List UInt8) (l : Int) (A : Option Addr) (n c B m : Nat) (bs : List UInt8) (w : World) (hr : Ring w g h N q l) (hb : Bys w B A n bs) (hB : B ≤ w.heap.size) (hc : n ≤ c) (hc2 : c ≤ 9223372036854775807)
    (ha : Apart (fun i => i = g ∨ i = h) A n) (hm : (n ≤ N - q.length ∧ m = n) ∨ (N - q.length < n ∧ m = N - q.length)) :
    Calls Try.prog 11 #[.pointer (some ⟨g, 0, none⟩), .slice A n c] w fun e w' => e = .returned (.int .i64 (m : Int)) ∧ Ring w' g h N (q ++ bs.take m) (lostBy l ((n : Int) - (m : Int))) ∧ Turn (fun i => i = g ∨ i = h) w w' := by
  obtain ⟨f, cs, hgh, hf, hN, hcs, hq, hrs, hbk, hho⟩ := hr
  obtain ⟨k, hk⟩ : ∃ k, q.length = k := ⟨_, rfl⟩
  rw [hk] at hq hrs hm
  obtain ⟨r, hr⟩ : ∃ r, k + r = N := ⟨N - k, by omega⟩
  have hm' : (n ≤ r ∧ m = n) ∨ (r < n ∧ m = r) := by omega
  clear hm
  have hmr : m ≤ r := by omega
  have hkr : k + r ≤ N := by omega
  have hmn : m ≤ n := by omega
  have HR := keepHid hr
  have HK := keepHid hk
  have HCS := keepHid hcs
  have HRS := keepHid hrs
  have HBK := keepHid hbk
  have HHO := keepHid hho
  have HBS := keepHid hb
  have HA := keepHid ha
  clear hrs hbk hho hb ha hr hk hcs
  rcases hm' with ⟨hm1, rfl⟩ | ⟨hm1, rfl⟩
  all_goals
    go_enter Try.func11, Try.ntmps11
    go_wp2_with fail
    refine (room_at g h N f k _ l HR.out hN _ HRS.out).mono ?_
    rintro e w1 ⟨rfl, d1, rfl⟩
    go_wp2
    go_loopw [17] (fun i wr => ∃ (j : Nat) (cs' : List UInt8), j ≤ m ∧ i = .int .i64 j ∧ RS wr g h N f k l ∧ cs'.length = N ∧ Blk wr h 5 (byteVals cs') ∧ Holds f N cs' (q ++ bs.take j) ∧ Turn (fun i => i = g ∨ i = h) w wr) (fun i _ => m - (intOf i).toNat)
    case atStart => exact ⟨0, cs, Nat.zero_le _, rfl, HRS.out.drewN _, HCS.out, HBK.out.drewN _, by simpa using HHO.out, (Turn.refl _ _).drewN _⟩
    case round =>
      obtain ⟨j, cs', hj, rfl, hrs, hcs, hbk, hho, htu⟩ := hrel
      have hbr := HBS.out.turn htu hB HA.out
      have HT := keepHid htu
      have HRS' := keepHid hrs
      have HBK' := keepHid hbk
      have HHO' := keepHid hho
      have HCS' := keepHid hcs
      have hc0 := hrs.c0
      have hc2 := hrs.c2
      clear htu hbk hho hcs
      by_cases hlt : j < m
      · obtain ⟨ad, x, rfl, _, hx, hcx⟩ := hbr.at_ (show j < _ by omega)
        have HX := keepHid hx
        clear hx hbr
        obtain ⟨p, hp⟩ : ∃ p, (f + (k + j)) % N = p := ⟨_, rfl⟩
        have hpN : p < N := by rw [← hp]; exact place_lt hf
        have HP := keepHid hp
        clear hp
        obtain ⟨y, hy, hyc⟩ := byteVals_at (cs := cs') (i := p) (by rw [HCS'.out]; exact hpN)
        have hpc : wr.cell? ⟨h, p, none⟩ = some (.int .u8 (y.toNat : Int)) := (HBK'.out.cell p).trans hyc
        have hpf : wr.frozen? ⟨h, p, none⟩ = false := HBK'.out.frozen p
        have hb1 : (0 : Int) ≤ (p : Int) := by omega
        have hb2 : (p : Int) < (N : Int) := by omega
        clear hy hyc
        go_wp2
        have hhg := Ne.symm hgh
        have hw1 : IntKind.i64.wrap ((k : Int) + (j : Int)) = (k : Int) + (j : Int) := IntWalk.i64_in _ (by omega)
        go_region_held3 (fun w' => w'.cell? ⟨g, 0, none⟩ = some (.slice (some ⟨h, 0, none⟩) N N) ∧ w'.cell? ⟨g, 2, none⟩ = some (.int .i64 (k : Int)) ∧ RS w' g h N f k l)
          (go_keep)
          (first | (go_at_call 16; refine (place_at g h N f k p l _ (k + j) (by first | omega | (rw [IntKind.wrap_i64]; omega)) HP.out hf hN (by omega) _ (by assumption)).mono ?_; rintro e w' ⟨rfl, d2, rfl⟩))
        go_wp2
        go_roundw
        case rel =>
          have hps : (f + (q ++ bs.take j).length) % N = p := by
            have : (q ++ bs.take j).length = k + j := by rw [List.length_append, HK.out, List.length_take, HBS.out.len]; omega
            rw [this]; exact HP.out
          have hq1 : (q ++ bs.take j).length < N := by rw [List.length_append, HK.out, List.length_take, HBS.out.len]; omega
          have hnew := HHO'.out.put hf hq1 HCS'.out x
          rw [hps, List.append_assoc, ← List.take_succ_of HX.out] at hnew
          refine ⟨j + 1, cs'.set p x, by omega, by go_num, ?_, by rw [List.length_set]; exact HCS'.out, ?_, hnew, ?_⟩
          · rw [RS.at_set hgh]; exact HRS'.out
          · rw [← byteVals_set]; exact (Blk.drewN HBK'.out _).put p _
          · exact (HT.out.drewN _).setCell (.inl (.inr rfl)) _
        case measure => simp [intOf]; omega
      · obtain rfl : j = m := by omega
        have hc3 := hrs.c3
        have hg2 : wr.frozen? ⟨g, 2, none⟩ = false := Blk.frozen hrs 2
        have hg3 : wr.frozen? ⟨g, 3, none⟩ = false := Blk.frozen hrs 3
        go_wp2
        go_ret
        refine ⟨rfl, ?_, (HT.out.setCell (.inl (.inl rfl)) _).setCell (.inl (.inl rfl)) _⟩
        have hq1 : (q ++ bs.take j).length = k + j := by rw [List.length_append, HK.out, List.length_take, HBS.out.len]; omega
        exact ring_fin hgh hf hN HCS'.out HRS'.out HBK'.out HHO'.out hq1 (by omega) _ (by unfold lostBy; first | rfl | (congr 1; omega))
end Go.Proofs.Ytdbdofldfgjpoaa
