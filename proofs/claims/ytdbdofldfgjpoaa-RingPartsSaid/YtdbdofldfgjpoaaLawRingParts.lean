/-
  'lifelinelaw02.RingParts' answers true for every input, and leaves its arguments as they were.
  Conditions: none but what the row itself says of its arguments (how much memory each may take).
-/
import Derived.Test.YtdbdofldfgjpoaaRows
import Derived.Test.YtdbdofldfgjpoaaRingUse
import Derived.Test.YtdbdofldfgjpoaaFrame
import Derived.WalkKit
import Derived.Deep.RegionHeld3
import Derived.Deep.RegionWith
import Derived.Deep.DrawnRows
import Derived.ProofKit
import Derived.OpenShut
import Derived.ShutString
import Derived.ChangeOld
import Derived.Below
namespace Go.Proofs.Ytdbdofldfgjpoaa.ringParts
open Go.ChangeShapes Go.WideShapes Go.ChangeAt Go.RowKit
open Go.ChangeMaps (open_string shut_string)
set_option linter.unusedVariables false
attribute [local go_sem ↓] Go.wp_at_zero Go.wp_at_succ

theorem own : ownKnob Try.prog.godebug = none := by kernel_rfl
theorem laidOut : laidOutB Try.prog = true := by kernel_rfl

theorem parts_eq {bs : List UInt8} {N k n a b m : Nat} (hn : bs.length = n) (hk : k ≤ n) (ha : (k ≤ N ∧ a = k) ∨ (N < k ∧ a = N)) (hb : (n - k ≤ N - a ∧ b = n - k) ∨ (N - a < n - k ∧ b = N - a)) (hm : (n ≤ N ∧ m = n) ∨ (N < n ∧ m = N)) :
    (bs.take k).take a ++ (bs.drop k).take b = bs.take m ∧ a + b = m := by
  have hs : a + b = m := by omega
  refine ⟨?_, hs⟩
  rcases ha with ⟨_, rfl⟩ | ⟨h1, rfl⟩
  · rw [← hs, List.take_add, List.take_take, Nat.min_self]
  · have : b = 0 := by omega
    subst this
    rw [← hs, List.take_take, Nat.min_eq_left (by omega)]
    simp
theorem min_of (x y : Nat) : ∃ m, (x ≤ y ∧ m = x) ∨ (y < x ∧ m = y) := by
  by_cases h : x ≤ y
  · exact ⟨x, .inl ⟨h, rfl⟩⟩
  · exact ⟨y, .inr ⟨by omega, rfl⟩⟩

set_option maxHeartbeats 4000000 in
theorem walk (x0 : Int) (a1 : Option Addr) (n1 c1 : Nat) (b1 : List UInt8) (x2 : Int) (w : World) (h0 : 0 ≤ x0 ∧ x0 ≤ 255) (h1 : Bys w w.heap.size a1 n1 b1) (l1 : n1 ≤ c1) (s1 : c1 ≤ 140737488351232) (h2 : 0 ≤ x2 ∧ x2 ≤ 255) :
    Calls Try.prog 6 #[.int .u8 x0, .slice a1 n1 c1, .int .u8 x2] w fun e w' => e = .returned (.bool true) ∧ Below w.heap.size w w' := by
  have H1 := keepHid h1
  have hl1 := h1.len
  clear h1
  obtain ⟨N, hN⟩ : ∃ N : Nat, (x0 = 0 ∧ N = 1) ∨ (1 ≤ x0 ∧ x0 = (N : Int)) := by
    by_cases h1 : x0 = 0
    · exact ⟨1, .inl ⟨h1, rfl⟩⟩
    · exact ⟨x0.toNat, .inr ⟨by omega, by omega⟩⟩
  have hof : OfN x0 N := by unfold OfN; omega
  have hN1 : 1 ≤ N := by omega
  have hN2 : N ≤ 255 := by omega
  obtain ⟨k, hk⟩ : ∃ k : Nat, x2 % ((n1 : Int) + 1) = (k : Int) := ⟨(x2 % ((n1 : Int) + 1)).toNat, by have := Int.emod_nonneg x2 (show (n1 : Int) + 1 ≠ 0 by omega); omega⟩
  have hkn : k ≤ n1 := by have := Int.emod_lt_of_pos x2 (show (0 : Int) < (n1 : Int) + 1 by omega); omega
  obtain ⟨a, ha⟩ := min_of k N
  obtain ⟨b, hb⟩ := min_of (n1 - k) (N - a)
  obtain ⟨m, hm⟩ := min_of n1 N
  obtain ⟨hpe, habm⟩ := parts_eq hl1 hkn ha hb hm
  have hc1 : (0 : Int) ≤ (k : Int) := by omega
  have hc2 : (k : Int) ≤ (n1 : Int) := by omega
  have hc3 : (n1 : Int) ≤ (c1 : Int) := by omega
  have hc4 : (k : Int) ≤ (c1 : Int) := by omega
  have HOF := keepHid hof
  have HPE := keepHid hpe
  have HA := keepHid ha
  have HB := keepHid hb
  have HM := keepHid hm
  have HL := keepHid hl1
  have hsum : IntKind.i64.wrap ((a : Int) + (b : Int)) = (m : Int) := by rw [IntKind.wrap_i64]; omega
  have HSUM := keepHid hsum
  have hlx : lostBy 0 ((n1 : Int) - (m : Int)) = (n1 : Int) - (m : Int) := by rw [lostBy_in] <;> omega
  have hly : lostBy (lostBy 0 ((k : Int) - (a : Int))) (((n1 - k : Nat) : Int) - (b : Int)) = (n1 : Int) - (m : Int) := by
    rw [lostBy_in (l := 0), lostBy_in] <;> omega
  have HLX := keepHid hlx
  have HLY := keepHid hly
  clear hsum hof hpe ha hb hm hl1 habm hN hlx hly
  obtain ⟨A2, hif⟩ : ∃ A2, (if c1 = k then a1 else a1.map (·.add k)) = A2 := ⟨_, rfl⟩
  have hcut : ∀ W : World, Bys W w.heap.size a1 n1 b1 → Bys W w.heap.size A2 (n1 - k) (b1.drop k) := fun W h => by have := h.cut hkn l1; rwa [hif] at this
  have HCUT := keepHid hcut
  clear hcut
  go_enter Try.func6, Try.ntmps6
  go_wp2_with fail
  refine (awake_any _).mono ?_
  rintro e w1 ⟨rfl, hb⟩
  have HB1 := keepHid hb
  clear hb
  go_wp2_with fail
  refine (of_ring _ _ HOF.out _).mono ?_
  rintro e w2 ⟨gx, cx, rfl, hx, hgx, hcx, hb⟩
  have HX2 := keepHid hx
  have hlgx := hx.ltg
  have hlcx := hx.lth
  have hgx' : w.heap.size ≤ gx := Nat.le_trans HB1.out.size hgx
  have hcx' : w.heap.size ≤ cx := Nat.le_trans HB1.out.size hcx
  have HB2 := keepHid (HB1.out.trans (hb.mono HB1.out.size))
  clear hx hb hgx hcx
  go_wp2_with fail
  refine (of_ring _ _ HOF.out _).mono ?_
  rintro e w3 ⟨gy, cy, rfl, hy, hgy, hcy, hb⟩
  have HX3 := keepHid (HX2.out.turn (Turn.of_below hb (S := fun _ => False)) id id)
  have HY3 := keepHid hy
  have hgy' : w.heap.size ≤ gy := Nat.le_trans HB2.out.size hgy
  have hcy' : w.heap.size ≤ cy := Nat.le_trans HB2.out.size hcy
  have HB3 := keepHid (HB2.out.trans (hb.mono HB2.out.size))
  have hax : Apart (Own gx cx) a1 n1 := H1.out.apart (by intro i hi; rcases hi with rfl | rfl <;> assumption)
  have n1' : ¬ gx = gy := by omega
  have n2 : ¬ gx = cy := by omega
  have n3 : ¬ cx = gy := by omega
  have n4 : ¬ cx = cy := by omega
  have HAX := keepHid hax
  clear hy hb hax
  go_wp2_with fail
  refine (put_ring gx cx N [] 0 _ n1 c1 _ m _ _ HX3.out (H1.out.below HB3.out) HB3.out.size l1 (by omega) HAX.out (by simpa using HM.out)).mono ?_
  rintro e w4 ⟨rfl, hx4, ht4⟩
  rw [HLX.out] at hx4
  have HX4 := keepHid hx4
  have HY4 := keepHid (HY3.out.turn ht4 (by simp [Own]; omega) (by simp [Own]; omega))
  have HB4 := keepHid (HB3.out.trans (ht4.below (B := w.heap.size) (by intro i hi; rcases hi with rfl | rfl <;> assumption) HB3.out.size))
  have H4 := keepHid (H1.out.below HB4.out)
  have hay : Apart (Own gy cy) a1 n1 := H1.out.apart (by intro i hi; rcases hi with rfl | rfl <;> assumption)
  have HAY := keepHid hay
  clear hx4 ht4 hay
  go_wp2_with fail
  have hsum := HSUM.out
  go_region_held3 (fun _ => True) (trivial)
    (first
      | (go_at_call_of 11 (Value.slice a1 k c1)
         refine (put_ring gy cy N [] 0 _ k c1 w.heap.size a (b1.take k) _ ?_ ?_ ?_ ?_ (by omega) ?_ ?_).mono ?_
         · exact HY4.out.drew
         · exact (H4.out.head hkn).drew
         · exact HB4.out.size
         · omega
         · exact fun h => HAY.out (by omega)
         · simpa using HA.out
         rintro e w5 ⟨rfl, hy5, ht5⟩
         have HY5 := keepHid hy5
         have HT5 := keepHid ht5
         clear hy5 ht5)
      | (go_at_call 11
         refine (put_ring gy cy N _ _ _ (n1 - k) (c1 - k) w.heap.size b (b1.drop k) _ HY5.out ?_ ?_ ?_ ?_ ?_ ?_).mono ?_
         · exact HCUT.out _ (H4.out.drew.turn HT5.out HB4.out.size (fun h => HAY.out h))
         · exact Nat.le_trans HB4.out.size HT5.out.size
         · omega
         · omega
         · exact (HCUT.out _ H1.out).apart (by intro i hi; rcases hi with rfl | rfl <;> assumption)
         · have := HA.out; have := HB.out; have := HL.out; simp only [List.nil_append, List.length_take]; omega
         rintro e w6 ⟨rfl, hy6, ht6⟩
         have HY6 := keepHid hy6
         have HT6 := keepHid (HT5.out.trans ht6)
         clear hy6 ht6))
  have hx6 := HX4.out.drew.turn HT6.out (by simp [Own]; omega) (by simp [Own]; omega)
  have hy6 := HY6.out
  rw [List.nil_append] at hx6
  rw [List.nil_append, HPE.out, HLY.out] at hy6
  have HX7 := keepHid hx6
  have HY7 := keepHid hy6
  have hmm : m ≤ 255 := by have := HM.out; omega
  have hlm : (b1.take m).length = m := by rw [List.length_take, HL.out]; have := HM.out; omega
  have HLM := keepHid hlm
  have HB6 := keepHid (HB4.out.drew.trans (HT6.out.below (B := w.heap.size) (by intro i hi; rcases hi with rfl | rfl <;> assumption) HB4.out.size))
  clear hsum hx6 hy6 HX4 HY4 HX3 HY3 HX2 HT5 HY5 HY6 HT6 HCUT hlm
  go_wp2
  go_region_with
    (first
      | (go_at_call_of 15 gx
         refine (lost_ring gx cx N _ _ _ HX7.out.drew).mono ?_
         rintro e w' ⟨rfl, rfl⟩)
      | (go_at_call_of 15 gy
         refine (lost_ring gy cy N _ _ _ HY7.out.drew).mono ?_
         rintro e w' ⟨rfl, rfl⟩)
      | (go_at_call_of 12 gx
         refine (take_ring gx cx N _ _ _ m _ HX7.out.drew ?_).mono ?_
         · rw [HLM.out]; omega
         rintro e w7 ⟨t, rfl, hx7, hk7, ht, ht7⟩
         have hcv := run_str (P := Try.prog) (c := m) 27 5 9 Try.underlying27 Try.underlying5 Try.underlying9 (bys_of_blk hk7 (n := m) (by rw [List.length_take, HLM.out]; omega) (by omega))
         have HK7 := keepHid hk7
         have HT7 := keepHid ht7
         have hown : ¬ Own gy cy t := by have := HY7.out.ltg; have := HY7.out.lth; have : w6.heap.size ≤ t := ht; unfold Own; omega
         clear hx7 hk7 ht7)
      | (go_at_call_of 12 gy
         refine (take_ring gy cy N _ _ _ m _ (HY7.out.drew.turn HT7.out ?_ ?_) ?_).mono ?_
         · simp [Own]; omega
         · simp [Own]; omega
         · rw [HLM.out]; omega
         rintro e w8 ⟨t', rfl, hy8, hk8, ht', ht8⟩
         have hcv8 := run_str (P := Try.prog) (c := m) 27 5 9 Try.underlying27 Try.underlying5 Try.underlying9 (bys_of_blk hk8 (n := m) (by rw [List.length_take, HLM.out]; omega) (by omega))
         have hk78 := ht8.blk HK7.out hown
         have hcv78 := run_str (P := Try.prog) (c := m) 27 5 9 Try.underlying27 Try.underlying5 Try.underlying9 (bys_of_blk hk78 (n := m) (by rw [List.length_take, HLM.out]; omega) (by omega))
         have HT8 := keepHid (HT7.out.mono (T := fun i => w.heap.size ≤ i) (by intro i hi; rcases hi with rfl | rfl <;> assumption) |>.trans (ht8.mono (by intro i hi; rcases hi with rfl | rfl <;> assumption)))
         clear hy8 hk8 ht8 hk78))
  all_goals
    go_wp2
    go_ret
    exact ⟨rfl, HB6.out.drew.trans (HT8.out.below (fun i hi => hi) HB6.out.size)⟩

set_option maxRecDepth 100000 in
theorem lifted (os : Os) (started : os.Started) (H : Type) (enc : TypeId × Value → H) :
    ReturnsInHanded {} Try.checked os 6 .any (Rows.ringPartsSpec.pre6 enc Try.prog Try.f6 Rows.ringPartsRow.domain false) (Rows.ringPartsSpec.post enc Try.prog Try.f6 false true false false) := by
  refine returnsInHanded_of_change_sized (C := Try.checked) own started (by kernel_rfl) Try.func6
    (ChangeSpec.witness6 (enc := enc) (C := Try.checked) false ⟨#[], #[.int .u8 0, .slice none 0 0, .int .u8 0], []⟩ 8 (by kernel_rfl) (by kernel_rfl) (by kernel_rfl) (by kernel_rfl)) ?_
  intro W base args ds gs before hval0 hW hcnd hsz0 _
  have hsz : (DataW.weightsEach Try.prog (Try.f6.params.toList ++ Rows.ringPartsSpec.plain.varTypes Try.prog) (ds ++ gs)).all (· ≤ reachBytes) = true := hsz0
  clear hsz0
  have hval : ∀ (j : Nat) t v, Try.f6.params[j]? = some t → args[j]? = some v → Value.okWide Try.prog W .any base t v := hval0
  have hW' := hW
  obtain ⟨p, q, hA0, hV, rfl, hfz, hnd⟩ := hW
  have hA : DataW.TrodAll enc Try.prog W 0 (fun _ => true) true Try.f6.params.toList args.toList ds p := hA0
  rw [Try.params6] at hA hval hsz
  obtain ⟨v0, vs0, d0, ds0, p0, q0, hargs, rfl, rfl, h0, r0⟩ := trodAll_cons hA
  obtain ⟨v1, vs1, d1, ds1, p1, q1, rfl, rfl, rfl, h1, r1⟩ := trodAll_cons r0
  obtain ⟨v2, vs2, d2, ds2, p2, q2, rfl, rfl, rfl, h2, r2⟩ := trodAll_cons r1
  obtain ⟨rfl, rfl, rfl⟩ := trodAll_nil r2
  obtain rfl : args = #[v0, v1, v2] := by cases args; simp_all
  obtain ⟨rfl, rfl⟩ := trodVars_none hV
  have k0 := h0
  have lt0 : ∀ x ∈ p0, x.block < W.heap.size := by obtain ⟨m, hm⟩ := k0; exact DataW.trod_lt m _ _ _ hm
  have k1 := h1
  have lt1 : ∀ x ∈ p1, x.block < W.heap.size := by obtain ⟨m, hm⟩ := k1; exact DataW.trod_lt m _ _ _ hm
  have k2 := h2
  have lt2 : ∀ x ∈ p2, x.block < W.heap.size := by obtain ⟨m, hm⟩ := k2; exact DataW.trod_lt m _ _ _ hm
  obtain ⟨x0, rfl, rfl, rfl, w0⟩ := open_int Try.underlying5 (hval 0 5 v0 rfl rfl) h0
  obtain ⟨a1, n1, c1, b1, rfl, w1, l1, s1⟩ := open_bys Try.underlying27 Try.underlying5 (by kernel_rfl) (by kernel_rfl) (hval 1 27 v1 rfl rfl) (fun _ => rfl) h1 (fun el sp hd => sized_slice hsz (j := 1) (t := 27) (e := 5) rfl (by rw [hd]; rfl) Try.underlying27)
  obtain ⟨x2, rfl, rfl, rfl, w2⟩ := open_int Try.underlying5 (hval 2 5 v2 rfl rfl) h2
  clear hA0 hval0
  refine (walk x0 a1 n1 c1 b1 x2 W (wf_u8 w0) w1 l1 s1 (wf_u8 w2)).mono fun e W' ⟨he, bel⟩ => ?_
  subst he
  exact ⟨_, rfl, _, _, _, [], _, [], hW', trodAll_mk1 (shut_bool Try.underlying4 _), (trodAll_cons_mk (Below.trod laidOut (by kernel_rfl) (of_decide_eq_true (by kernel_rfl)) k0 bel lt0) (trodAll_cons_mk (Below.trod laidOut (by kernel_rfl) (of_decide_eq_true (by kernel_rfl)) k1 bel lt1) (trodAll_cons_mk (Below.trod laidOut (by kernel_rfl) (of_decide_eq_true (by kernel_rfl)) k2 bel lt2) trodAll_mk0))), rfl, bel.frame _, fun h => by cases h⟩

theorem over : Rows.ringPartsRow.holds Try.pinned (OpenSpec.ofChange Rows.ringPartsSpec) :=
  OpenClaim.holds_of_wide 6 Try.f6 rfl rfl rfl rfl rfl rfl rfl ⟨rfl, rfl, rfl, rfl, rfl⟩ rfl rfl rfl rfl rfl (by kernel_rfl) Try.func6 (by kernel_rfl)
    (of_decide_eq_true (by kernel_rfl)) (by unfold Func.isWrapper; first | (rw [if_pos (by decide +kernel)]; kernel_rfl) | (rw [if_neg (by decide +kernel)]; exact ⟨rfl, rfl⟩))
    (fun os started H enc _ => lifted os started H enc)

theorem proved : Rows.RingPartsSaid := over
end Go.Proofs.Ytdbdofldfgjpoaa.ringParts
