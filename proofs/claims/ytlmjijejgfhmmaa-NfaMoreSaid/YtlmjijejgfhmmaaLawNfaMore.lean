/-
  'lifelinelaw07.NfaMore' answers true for every input, and leaves its arguments as they were.
  Conditions: none but what the row itself says of its arguments (how much memory each may take).
-/
import Derived.Test.YtlmjijejgfhmmaaRows
import Derived.Test.YtlmjijejgfhmmaaNfaKit
import Derived.Test.YtlmjijejgfhmmaaRegexMake3
import Derived.Test.YtlmjijejgfhmmaaRegexMakesAll
import Derived.Test.YtlmjijejgfhmmaaNfaWalk
import Derived.Lib.QuietBelow
import Derived.Test.YtlmjijejgfhmmaaFrame
import Derived.Test.YtlmjijejgfhmmaaFrameBools
import Derived.WalkKit
import Derived.ProofKit
import Derived.OpenShut
import Derived.ShutString
import Derived.ChangeOld
import Derived.Below
namespace Go.Proofs.Ytlmjijejgfhmmaa.nfaMore
open Go.ChangeShapes Go.WideShapes Go.ChangeAt Go.RowKit
open Go.ChangeMaps (open_string shut_string)
set_option linter.unusedVariables false

theorem own : ownKnob Try.prog.godebug = none := by kernel_rfl
theorem laidOut : laidOutB Try.prog = true := by kernel_rfl

theorem max_int (ts : Array TypeId) (t : TypeId) (a b : Nat) (k : Nat) (h : max a b = k) (w : World) :
    (Builtin.max_ ts t #[.int .i64 (a : Int), .int .i64 (b : Int)]).run Try.prog w = .ok (.int .i64 (k : Int)) w := by
  have e : max (a : Int) (b : Int) = (k : Int) := by omega
  rw [← e]
  by_cases hc : (a : Int) < (b : Int)
  · simp [Builtin.max_, Builtin.max2, Int.max_def]
    split <;> first | rfl | (exfalso; omega) | (congr 2; omega)
  · simp [Builtin.max_, Builtin.max2, Int.max_def]
    split <;> first | rfl | (exfalso; omega) | (congr 2; omega)
def orL (a b : List Bool) : List Bool := (List.range (max a.length b.length)).map fun k => a.getD k false || b.getD k false
theorem or_len (a b : List Bool) : (orL a b).length = max a.length b.length := by simp [orL]
theorem or_get (a b : List Bool) (k : Nat) : (orL a b).getD k false = (a.getD k false || b.getD k false) := by
  unfold orL
  by_cases h : k < max a.length b.length
  · simp [List.getD, h]
  · have h1 : a.length ≤ k := by omega
    have h2 : b.length ≤ k := by omega
    rw [List.getD, List.getElem?_eq_none (by simp; omega)]
    simp [List.getD, h1, h2]
theorem any2 (f g : Nat → Bool) : ∀ l : List Nat, (l.any fun p => f p || g p) = (l.any f || l.any g)
  | [] => rfl
  | p :: l => by
    simp only [List.any_cons, any2 f g l]
    cases f p <;> cases g p <;> simp
theorem any_or (a b : List Bool) (q : List Nat) : anyB (orL a b) q = (anyB a q || anyB b q) := by
  unfold anyB
  have e : (fun p => (orL a b).getD p false) = fun p => a.getD p false || b.getD p false := funext (or_get a b)
  rw [e]
  exact any2 _ _ q
theorem lead_or {α : Type} (f g t : α → Bool) : ∀ l : List α, (l.any fun p => (f p || g p) && t p) = ((l.any fun p => f p && t p) || (l.any fun p => g p && t p))
  | [] => rfl
  | p :: l => by
    simp only [List.any_cons, lead_or f g t l]
    cases f p <;> cases g p <;> cases t p <;> simp
theorem to_or (A : Au) (a b : List Bool) (bg : Bool) (q : Nat) : toB A (orL a b) bg q = (toB A a bg q || toB A b bg q) := by
  unfold toB
  simp only [any_or, lead_or]
  cases (bg && A.first.contains q) <;> simp
theorem step_or (A : Au) (a b : List Bool) (c : UInt8) (bg : Bool) (q : Nat) : (stepB A (orL a b) c bg).getD q false = ((stepB A a c bg).getD q false || (stepB A b c bg).getD q false) := by
  rw [step_get, step_get, step_get, to_or]
  cases decide (q < A.T.sets.length) <;> cases toB A a bg q <;> cases toB A b bg q <;> simp
theorem blk_bit {w : World} {G j : Nat} {xs : List Bool} (h : Blk w G 4 (boolVals xs)) (hj : j < xs.length) : w.cell? ⟨G, j, none⟩ = some (.bool (xs.getD j false)) := by
  rw [h.cell]
  simp [boolVals, List.getD, hj]
theorem run_mkbools (N : Nat) (hN : N ≤ 140737488351232) (W : World) :
    (Instr.makeSlice 41 (.int .i64 (N : Int)) (.int .i64 (N : Int))).run Try.prog W = .ok (.slice (some ⟨W.heap.size, 0, none⟩) N N) (W.alloc (.cells (boolVals (List.replicate N false)) 4)) := by
  obtain ⟨i, hi⟩ := Option.isSome_iff_exists.1 (show (Try.prog.info? 4).isSome = true by kernel_rfl)
  have h0 : (Try.prog.info? 4).map (fun i => (i.zero, i.bytes, i.size)) = some (some (.bool false), 1, 1) := by kernel_rfl
  rw [hi] at h0
  simp only [Option.map_some, Option.some.injEq, Prod.mk.injEq] at h0
  obtain ⟨hz, hb, hs⟩ := h0
  have h := run_make (P := Try.prog) W 41 4 i (.bool false) Try.underlying41 hi hz .i64 .i64 (N : Int) (N : Int) (by omega) (by omega) (by rw [hb]; omega) (by omega)
  rw [hs] at h
  simp only [Int.toNat_natCast] at h
  have e : madeCells (Value.bool false).cells (N * 1) = boolVals (List.replicate N false) := by
    apply Array.ext'
    apply List.ext_getElem?
    intro i
    rcases Nat.lt_or_ge i N with hi | hi
    · simp [madeCells, boolVals, Value.cells, hi, Nat.mod_one]
    · simp [madeCells, boolVals, Value.cells, hi]
  rw [e] at h
  exact h

set_option maxHeartbeats 2000000 in
theorem walk (a0 : Option Addr) (n0 c0 : Nat) (b0 : List UInt8) (a1 : Option Addr) (n1 c1 : Nat) (q1 : List Bool) (a2 : Option Addr) (n2 c2 : Nat) (q2 : List Bool) (x3 : Int) (x4 : Bool) (w : World) (h0 : Bys w w.heap.size a0 n0 b0) (l0 : n0 ≤ c0) (s0 : c0 ≤ 140737488351232) (h1 : Sl Value.bool w a1 n1 q1) (l1 : n1 ≤ c1) (s1 : c1 ≤ 140737488351232) (h2 : Sl Value.bool w a2 n2 q2) (l2 : n2 ≤ c2) (s2 : c2 ≤ 140737488351232) (h3 : 0 ≤ x3 ∧ x3 ≤ 255) :
    Calls Try.prog 5 #[.slice a0 n0 c0, .slice a1 n1 c1, .slice a2 n2 c2, .int .u8 x3, .bool x4] w fun e w' => e = .returned (.bool true) ∧ Below w.heap.size w w' := by
  have HY0 := keepHid h0
  have HY1 := keepHid h1
  have HY2 := keepHid h2
  have HAW := keepHid (awake7_any w)
  obtain ⟨c, rfl⟩ : ∃ c : UInt8, x3 = (c.toNat : Int) := ⟨UInt8.ofNat x3.toNat, by simp; omega⟩
  clear h0 h1 h2 h3
  obtain ⟨N, hN⟩ : ∃ N, max n1 n2 = N := ⟨_, rfl⟩
  have hmx := fun W ts t => max_int ts t n1 n2 N hN W
  have hNb : N ≤ 140737488351232 := by omega
  have hln1 := HY1.out.len
  have hln2 := HY2.out.len
  have HOL : Hid ((orL q1 q2).length = N) := keepHid (by rw [or_len, hln1, hln2, hN])
  go_enter Try.func5, Try.ntmps5
  go_wp2_with fail
  with_reducible refine HAW.out.mono ?_
  rintro e w1 ⟨rfl, hb1⟩
  have HB1 := keepHid hb1
  have HMK := keepHid (makes_any (build_all 3 (Nat.le_refl _)) a0 n0 c0 b0 w1 ((HY0.out.below hb1).more hb1.size) l0 (by omega))
  clear hb1
  go_wp2_with fail
  with_reducible refine HMK.out.mono ?_
  rintro e w2 ⟨h, rfl, hi2, hb2⟩
  obtain ⟨w3, hw3⟩ : ∃ w3, w2.alloc (.cells (hdC h) 30) = w3 := ⟨_, rfl⟩
  obtain ⟨hi3, hb3, hk3⟩ := node_var hi2 hw3
  have HB3 := keepHid (HB1.out.trans ((hb2.trans (hb3.mono hb2.size)).mono HB1.out.size))
  have HO := keepHid (of_any hi3 (sm_bld (Nat.le_refl _) b0))
  have WF := keepHid (auOf_wf (sm_bld (Nat.le_refl _) b0))
  have HW3 := keepHid hw3
  unfold hdC at hk3 HW3
  obtain ⟨m0, m1, m2, m3, m4, m5, mf⟩ := blk6 hk3
  clear hi2 hb2 hw3 hi3 hb3 hk3 HMK HAW
  unfold hdV at *
  go_upto_region 4 with fail
  rw [HW3.out]
  go_wp2_with fail
  with_reducible refine HO.out.mono ?_
  rintro e w4 ⟨g, rfl, hA, hb4⟩
  have HB4 := keepHid (HB3.out.trans (hb4.mono HB3.out.size))
  have HA := keepHid hA
  generalize auOf (bldL 3 b0).2.1 = A at *
  have hNN : A.T.sets.length ≤ 900000 := WF.out.small.sets
  obtain ⟨w5, hw5⟩ : ∃ w5, w4.alloc (.cells (boolVals (List.replicate N false)) 4) = w5 := ⟨_, rfl⟩
  have hmk := run_mkbools N hNb w4
  rw [hw5] at hmk
  have hb5 : Below w4.heap.size w4 w5 := by rw [← hw5]; exact (Below.refl _ _).alloc (Nat.le_refl _) _
  have hk5 : Blk w5 w4.heap.size 4 (boolVals (List.replicate N false)) := by rw [← hw5]; exact Blk.new _ _ _
  have HB5 := keepHid hb5
  have HK5 := keepHid hk5
  have HSA := keepHid (fun w' (hb : Below w4.heap.size w4 w') => step_any (k := c1) c x4 (HA.out.keep hb) WF.out (HY1.out.below (HB4.out.trans (hb.mono HB4.out.size))))
  have HSB := keepHid (fun w' (hb : Below w4.heap.size w4 w') => step_any (k := c2) c x4 (HA.out.keep hb) WF.out (HY2.out.below (HB4.out.trans (hb.mono HB4.out.size))))
  have HSZ := keepHid (fun w' (hb : Below w4.heap.size w4 w') (hk : Blk w' w4.heap.size 4 (boolVals (orL q1 q2))) => step_any (k := N) c x4 (HA.out.keep hb) WF.out (Sl.of_blk hk HOL.out (by unfold maxLen; omega)))
  have HLE := keepHid (fun w' (hb : Below w4.heap.size w4 w') => tabA_len (HA.out.keep hb))
  have HE1 := keepHid (fun w' (hb : Below w4.heap.size w4 w') => tabA_ends (c := c1) (HA.out.keep hb) (HY1.out.below (HB4.out.trans (hb.mono HB4.out.size))))
  have HE2 := keepHid (fun w' (hb : Below w4.heap.size w4 w') => tabA_ends (c := c2) (HA.out.keep hb) (HY2.out.below (HB4.out.trans (hb.mono HB4.out.size))))
  have HE3 := keepHid (fun w' (hb : Below w4.heap.size w4 w') (hk : Blk w' w4.heap.size 4 (boolVals (orL q1 q2))) => tabA_ends (c := N) (HA.out.keep hb) (Sl.of_blk hk HOL.out (by unfold maxLen; omega)))
  unfold natV at HLE
  clear hA hb4 hb5 hk5 hw5 HO HW3 m0 m1 m2 m3 m4 m5 mf
  generalize w2.heap.size = nb at *
  go_wp2
  go_loopw [37] (fun i wr => ∃ (j : Nat) (xs : List Bool), j ≤ N ∧ i = .int .i64 j ∧ xs.length = N ∧ (∀ k, k < j → xs.getD k false = (orL q1 q2).getD k false) ∧ Blk wr w4.heap.size 4 (boolVals xs) ∧ Below w4.heap.size w4 wr) (fun i _ => N - (intOf i).toNat)
  case atStart => exact ⟨0, _, Nat.zero_le _, rfl, List.length_replicate, fun k hk => absurd hk (Nat.not_lt_zero _), HK5.out, HB5.out⟩
  case round =>
    obtain ⟨j, xs, hj, rfl, hxl, hxs, hk, hb⟩ := hrel
    rcases Nat.lt_or_ge j N with hlt | hge
    · have hcur := blk_bit hk (by omega : j < xs.length)
      have hfz := hk.frozen j
      have HX1 := keepHid (fun (v : Bool) (hv : v = (orL q1 q2).getD j false) => (⟨by rw [List.length_set, hxl], fun k hkj => by
          rcases Nat.lt_or_ge k j with h | h
          · rw [List.getD, List.getElem?_set_ne (by omega)]; exact hxs k h
          · obtain rfl : k = j := by omega
            rw [List.getD, List.getElem?_set_self (by omega), hv]; rfl, by rw [← bool_put]; exact hk.put j _, hb.setCell (Nat.le_refl _) _⟩ : (xs.set j v).length = N ∧ (∀ k, k < j + 1 → (xs.set j v).getD k false = (orL q1 q2).getD k false) ∧ Blk (wr.setCell ⟨w4.heap.size, j, none⟩ (.bool v)) w4.heap.size 4 (boolVals (xs.set j v)) ∧ Below w4.heap.size w4 (wr.setCell ⟨w4.heap.size, j, none⟩ (.bool v))))
      have hy1 := HY1.out.below (HB4.out.trans (hb.mono HB4.out.size))
      have hy2 := HY2.out.below (HB4.out.trans (hb.mono HB4.out.size))
      have hor := or_get q1 q2 j
      have hji : (j : Int) < (N : Int) := by omega
      rcases Nat.lt_or_ge j n1 with g1 | g1
      · obtain ⟨va, hva⟩ : ∃ v, q1[j]? = some v := ⟨_, List.getElem?_eq_getElem (by omega)⟩
        obtain ⟨ad1, rfl, _, hc1⟩ := hy1.2.2 j va hva
        have i1 : (j : Int) < (n1 : Int) := by omega
        have HVA : Hid (q1.getD j false = va) := keepHid (by rw [List.getD, hva]; rfl)
        cases va
        · rcases Nat.lt_or_ge j n2 with g2 | g2
          · obtain ⟨vb, hvb⟩ : ∃ v, q2[j]? = some v := ⟨_, List.getElem?_eq_getElem (by omega)⟩
            obtain ⟨ad2, rfl, _, hc2⟩ := hy2.2.2 j vb hvb
            have i2 : (j : Int) < (n2 : Int) := by omega
            have HVV : Hid (vb = (orL q1 q2).getD j false) := keepHid (by rw [hor, HVA.out, List.getD, hvb]; cases vb <;> rfl)
            clear hk hb hxs hxl hva hvb hy1 hy2 hor
            go_wp2
            go_roundw
            case rel =>
              obtain ⟨r1, r2, r3, r4⟩ := HX1.out _ HVV.out
              exact ⟨j + 1, _, by omega, by go_num, r1, r2, r3, r4⟩
            case measure => simp [intOf]; omega
          · have i2 : ¬ (j : Int) < (n2 : Int) := by omega
            have HVV : Hid (false = (orL q1 q2).getD j false) := keepHid (by rw [hor, HVA.out, List.getD, List.getElem?_eq_none (by omega)]; rfl)
            clear hk hb hxs hxl hva hy1 hy2 hor
            go_wp2
            go_roundw
            case rel =>
              obtain ⟨r1, r2, r3, r4⟩ := HX1.out _ HVV.out
              exact ⟨j + 1, _, by omega, by go_num, r1, r2, r3, r4⟩
            case measure => simp [intOf]; omega
        · have HVV : Hid (true = (orL q1 q2).getD j false) := keepHid (by rw [hor, HVA.out]; rfl)
          clear hk hb hxs hxl hva hy1 hy2 hor
          go_wp2
          go_roundw
          case rel =>
            obtain ⟨r1, r2, r3, r4⟩ := HX1.out _ HVV.out
            exact ⟨j + 1, _, by omega, by go_num, r1, r2, r3, r4⟩
          case measure => simp [intOf]; omega
      · have i1 : ¬ (j : Int) < (n1 : Int) := by omega
        obtain ⟨vb, hvb⟩ : ∃ v, q2[j]? = some v := ⟨_, List.getElem?_eq_getElem (by omega)⟩
        obtain ⟨ad2, rfl, _, hc2⟩ := hy2.2.2 j vb hvb
        have i2 : (j : Int) < (n2 : Int) := by omega
        have HVV : Hid (vb = (orL q1 q2).getD j false) := keepHid (by rw [hor, List.getD, List.getElem?_eq_none (by omega), List.getD, hvb]; cases vb <;> rfl)
        clear hk hb hxs hxl hvb hy1 hy2 hor
        go_wp2
        go_roundw
        case rel =>
          obtain ⟨r1, r2, r3, r4⟩ := HX1.out _ HVV.out
          exact ⟨j + 1, _, by omega, by go_num, r1, r2, r3, r4⟩
        case measure => simp [intOf]; omega
    · have hxo : xs = orL q1 q2 := List.ext_getElem (by rw [hxl, HOL.out]) (fun k h1 h2 => by
        have := hxs k (by omega)
        simpa [List.getD, h1, h2] using this)
      rw [hxo] at hk
      have hji : ¬ (j : Int) < (N : Int) := by omega
      have HKO := keepHid hk
      have HBQ := keepHid hb
      clear hk hb hxs hxl hxo
      generalize wr = wq at *
      go_wp2_with fail
      with_reducible refine (HSA.out wq HBQ.out).mono ?_
      rintro e w6 ⟨G1, rfl, hk6, hg6, hb6⟩
      have HB6 := keepHid (HBQ.out.trans (hb6.mono HBQ.out.size))
      have HK6 := keepHid (HKO.out.below hb6 HKO.out.lt)
      have HX6 := keepHid hk6
      clear hk6 hg6 hb6
      go_wp2_with fail
      with_reducible refine (HSB.out w6 HB6.out).mono ?_
      rintro e w7 ⟨G2, rfl, hk7, hg7, hb7⟩
      have HB7 := keepHid (HB6.out.trans (hb7.mono HB6.out.size))
      have HK7 := keepHid (HK6.out.below hb7 HK6.out.lt)
      have HX7 := keepHid (HX6.out.below hb7 HX6.out.lt)
      have HY7 := keepHid hk7
      clear hk7 hg7 hb7
      go_wp2_with fail
      with_reducible refine (HSZ.out w7 HB7.out HK7.out).mono ?_
      rintro e w8 ⟨G3, rfl, hk8, hg8, hb8⟩
      have HB8 := keepHid (HB7.out.trans (hb8.mono HB7.out.size))
      have HK8 := keepHid (HK7.out.below hb8 HK7.out.lt)
      have HX8 := keepHid (HX7.out.below hb8 HX7.out.lt)
      have HY8 := keepHid (HY7.out.below hb8 HY7.out.lt)
      have HZ8 := keepHid hk8
      have HLX := keepHid (step_len A q1 c x4)
      have HLY := keepHid (step_len A q2 c x4)
      have HLZ := keepHid (step_len A (orL q1 q2) c x4)
      have HOR := keepHid (fun k => step_or A q1 q2 c x4 k)
      have HAO := keepHid (any_or q1 q2 A.last)
      have HL8 := keepHid (HLE.out w8 HB8.out)
      clear hk8 hg8 hb8 HSA HSB HSZ HLE HKO HK6 HK7 HX6 HX7 HY7
      generalize stepB A (orL q1 q2) c x4 = Z at *
      generalize stepB A q1 c x4 = X at *
      generalize stepB A q2 c x4 = Y at *
      generalize A.T.sets.length = NN at *
      generalize anyB (orL q1 q2) A.last = R at *
      generalize anyB q1 A.last = Ra at *
      generalize anyB q2 A.last = Rb at *
      go_wp2_with fail
      with_reducible refine HL8.out.mono ?_
      rintro e w' ⟨rfl, rfl⟩
      go_wp2_with fail
      with_reducible refine HL8.out.mono ?_
      rintro e w' ⟨rfl, rfl⟩
      go_wp2_with fail
      with_reducible refine HL8.out.mono ?_
      rintro e w' ⟨rfl, rfl⟩
      go_wp2
      go_loopw [102] (fun i wr => ∃ t : Nat, t ≤ NN ∧ i = .int .i64 t ∧ Below w8.heap.size w8 wr) (fun i _ => NN - (intOf i).toNat)
      case atStart => exact ⟨0, Nat.zero_le _, rfl, Below.refl _ _⟩
      case round =>
        obtain ⟨t, ht, rfl, hb⟩ := hrel
        have HBR := keepHid hb
        rcases Nat.lt_or_ge t NN with hlt | hge
        · have z1 := blk_bit (HZ8.out.below hb HZ8.out.lt) (by have := HLZ.out; omega : t < Z.length)
          have x1 := blk_bit (HX8.out.below hb HX8.out.lt) (by have := HLX.out; omega : t < X.length)
          have y1 := blk_bit (HY8.out.below hb HY8.out.lt) (by have := HLY.out; omega : t < Y.length)
          rw [HOR.out t] at z1
          generalize X.getD t false = vx at *
          generalize Y.getD t false = vy at *
          have hti : (t : Int) < (NN : Int) := by omega
          clear hb
          have z2 := fun d os => cell_regrown z1 d os
          have x2 := fun d os => cell_regrown x1 d os
          have y2 := fun d os => cell_regrown y1 d os
          clear z1 x1 y1
          cases vx <;> cases vy
          all_goals
            go_wp2_with fail
            refine wp_region_quiet_below (by kernel_rfl) (by kernel_rfl) ?_
            repeat (go_big_quiet_step (fail))
            refine wpQuiet_nil ?_
            intro _ hw'
            obtain ⟨⟨dq, osq⟩, hw''⟩ := hw'
            subst hw''
            have HBS := keepHid (HBR.out.trans ((below_regrown wr dq osq).mono HBR.out.size))
            go_wp2
            go_roundw
            case rel => exact ⟨t + 1, by omega, by go_num, HBS.out⟩
            case measure => simp [intOf]; omega
        · have hti : ¬ (t : Int) < (NN : Int) := by omega
          have HB9 := keepHid (HB8.out.trans (hb.mono HB8.out.size))
          have HK9 := keepHid (HK8.out.below hb HK8.out.lt)
          have E3 := keepHid (HE3.out wr HB9.out HK9.out)
          have E1 := keepHid (HE1.out wr HB9.out)
          have E2 := keepHid (HE2.out wr HB9.out)
          have HFIN : Hid (Below w.heap.size w wr) := keepHid (HB4.out.trans (HB9.out.mono HB4.out.size))
          have hao := HAO.out
          subst hao
          clear hb HE1 HE2 HE3 HX8 HY8 HZ8 HK8 HL8
          go_wp2_with fail
          with_reducible refine E3.out.mono ?_
          rintro e w' ⟨rfl, rfl⟩
          go_wp2_with fail
          with_reducible refine E1.out.mono ?_
          rintro e w' ⟨rfl, rfl⟩
          cases Ra
          · go_wp2_with fail
            with_reducible refine E2.out.mono ?_
            rintro e w' ⟨rfl, rfl⟩
            cases Rb
            all_goals
              go_wp2
              go_ret
              exact ⟨rfl, HFIN.out⟩
          · go_wp2
            go_ret
            exact ⟨by simp, HFIN.out⟩

set_option maxRecDepth 100000 in
theorem lifted (os : Os) (started : os.Started) (H : Type) (enc : TypeId × Value → H) :
    ReturnsInHanded {} Try.checked os 5 .any (Rows.nfaMoreSpec.pre6 enc Try.prog Try.f5 Rows.nfaMoreRow.domain false) (Rows.nfaMoreSpec.post enc Try.prog Try.f5 false true false false) := by
  refine returnsInHanded_of_change_sized (C := Try.checked) own started (by kernel_rfl) Try.func5
    (ChangeSpec.witness6 (enc := enc) (C := Try.checked) false ⟨#[], #[.slice none 0 0, .slice none 0 0, .slice none 0 0, .int .u8 0, .bool false], []⟩ 8 (by kernel_rfl) (by kernel_rfl) (by kernel_rfl) (by kernel_rfl)) ?_
  intro W base args ds gs before hval0 hW hcnd hsz0 _
  have hsz : (DataW.weightsEach Try.prog (Try.f5.params.toList ++ Rows.nfaMoreSpec.plain.varTypes Try.prog) (ds ++ gs)).all (· ≤ reachBytes) = true := hsz0
  clear hsz0
  have hval : ∀ (j : Nat) t v, Try.f5.params[j]? = some t → args[j]? = some v → Value.okWide Try.prog W .any base t v := hval0
  have hW' := hW
  obtain ⟨p, q, hA0, hV, rfl, hfz, hnd⟩ := hW
  have hA : DataW.TrodAll enc Try.prog W 0 (fun _ => true) true Try.f5.params.toList args.toList ds p := hA0
  rw [Try.params5] at hA hval hsz
  obtain ⟨v0, vs0, d0, ds0, p0, q0, hargs, rfl, rfl, h0, r0⟩ := trodAll_cons hA
  obtain ⟨v1, vs1, d1, ds1, p1, q1, rfl, rfl, rfl, h1, r1⟩ := trodAll_cons r0
  obtain ⟨v2, vs2, d2, ds2, p2, q2, rfl, rfl, rfl, h2, r2⟩ := trodAll_cons r1
  obtain ⟨v3, vs3, d3, ds3, p3, q3, rfl, rfl, rfl, h3, r3⟩ := trodAll_cons r2
  obtain ⟨v4, vs4, d4, ds4, p4, q4, rfl, rfl, rfl, h4, r4⟩ := trodAll_cons r3
  obtain ⟨rfl, rfl, rfl⟩ := trodAll_nil r4
  obtain rfl : args = #[v0, v1, v2, v3, v4] := by cases args; simp_all
  obtain ⟨rfl, rfl⟩ := trodVars_none hV
  have k0 := h0
  have lt0 : ∀ x ∈ p0, x.block < W.heap.size := by obtain ⟨m, hm⟩ := k0; exact DataW.trod_lt m _ _ _ hm
  have k1 := h1
  have lt1 : ∀ x ∈ p1, x.block < W.heap.size := by obtain ⟨m, hm⟩ := k1; exact DataW.trod_lt m _ _ _ hm
  have k2 := h2
  have lt2 : ∀ x ∈ p2, x.block < W.heap.size := by obtain ⟨m, hm⟩ := k2; exact DataW.trod_lt m _ _ _ hm
  have k3 := h3
  have lt3 : ∀ x ∈ p3, x.block < W.heap.size := by obtain ⟨m, hm⟩ := k3; exact DataW.trod_lt m _ _ _ hm
  have k4 := h4
  have lt4 : ∀ x ∈ p4, x.block < W.heap.size := by obtain ⟨m, hm⟩ := k4; exact DataW.trod_lt m _ _ _ hm
  obtain ⟨a0, n0, c0, b0, rfl, w0, l0, s0⟩ := open_bys Try.underlying22 Try.underlying5 (by kernel_rfl) (by kernel_rfl) (hval 0 22 v0 rfl rfl) (fun _ => rfl) h0 (fun el sp hd => sized_slice hsz (j := 0) (t := 22) (e := 5) rfl (by rw [hd]; rfl) Try.underlying22)
  obtain ⟨a1, n1, c1, q1, rfl, w1, l1, s1⟩ := open_bools Try.underlying41 Try.underlying4 (by kernel_rfl) (by kernel_rfl) (hval 1 41 v1 rfl rfl) h1 (fun el sp hd => sized_slice hsz (j := 1) (t := 41) (e := 4) rfl (by rw [hd]; rfl) Try.underlying41)
  obtain ⟨a2, n2, c2, q2, rfl, w2, l2, s2⟩ := open_bools Try.underlying41 Try.underlying4 (by kernel_rfl) (by kernel_rfl) (hval 2 41 v2 rfl rfl) h2 (fun el sp hd => sized_slice hsz (j := 2) (t := 41) (e := 4) rfl (by rw [hd]; rfl) Try.underlying41)
  obtain ⟨x3, rfl, rfl, rfl, w3⟩ := open_int Try.underlying5 (hval 3 5 v3 rfl rfl) h3
  obtain ⟨x4, rfl, rfl, rfl⟩ := open_bool Try.underlying4 (hval 4 4 v4 rfl rfl) h4
  clear hA0 hval0
  refine (walk a0 n0 c0 b0 a1 n1 c1 q1 a2 n2 c2 q2 x3 x4 W w0 l0 s0 w1 l1 s1 w2 l2 s2 (wf_u8 w3)).mono fun e W' ⟨he, bel⟩ => ?_
  subst he
  exact ⟨_, rfl, _, _, _, [], _, [], hW', trodAll_mk1 (shut_bool Try.underlying4 _), (trodAll_cons_mk (Below.trod laidOut (by kernel_rfl) (of_decide_eq_true (by kernel_rfl)) k0 bel lt0) (trodAll_cons_mk (Below.trod laidOut (by kernel_rfl) (of_decide_eq_true (by kernel_rfl)) k1 bel lt1) (trodAll_cons_mk (Below.trod laidOut (by kernel_rfl) (of_decide_eq_true (by kernel_rfl)) k2 bel lt2) (trodAll_cons_mk (Below.trod laidOut (by kernel_rfl) (of_decide_eq_true (by kernel_rfl)) k3 bel lt3) (trodAll_cons_mk (Below.trod laidOut (by kernel_rfl) (of_decide_eq_true (by kernel_rfl)) k4 bel lt4) trodAll_mk0))))), rfl, bel.frame _, fun h => by cases h⟩

theorem over : Rows.nfaMoreRow.holds Try.pinned (OpenSpec.ofChange Rows.nfaMoreSpec) :=
  OpenClaim.holds_of_wide 5 Try.f5 rfl rfl rfl rfl rfl rfl rfl ⟨rfl, rfl, rfl, rfl, rfl⟩ rfl rfl rfl rfl rfl (by kernel_rfl) Try.func5 (by kernel_rfl)
    (of_decide_eq_true (by kernel_rfl)) (by unfold Func.isWrapper; first | (rw [if_pos (by decide +kernel)]; kernel_rfl) | (rw [if_neg (by decide +kernel)]; exact ⟨rfl, rfl⟩))
    (fun os started H enc _ => lifted os started H enc)

theorem proved : Rows.NfaMoreSaid := over
end Go.Proofs.Ytlmjijejgfhmmaa.nfaMore
