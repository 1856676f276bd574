/-
  'lifelinelaw05.HeaderMake' answers true for every input of the row, and leaves its arguments as they were.
  Conditions: the package-level variables that the row lists lie as the program's own text lays them (the card ties them to it; what is pinned is a constant of the library's).
-/
import Derived.Test.YtipajdjcmgkcbaaDoorRows
import Derived.Test.YtipajdjcmgkcbaaDoorHeaderRead
import Derived.Test.YtipajdjcmgkcbaaDoorFrame
import Derived.Test.YtipajdjcmgkcbaaDoorFrameDoor
import Derived.Test.YtipajdjcmgkcbaaDoorFrameErrs
import Derived.Test.YtipajdjcmgkcbaaDoorCards
import Derived.WalkKit
import Derived.ProofKit
import Derived.OpenShut
import Derived.ShutString
import Derived.ChangeOld
import Derived.Below
import Derived.WalkLawsBesides
import Derived.IntWalk
import Derived.RegionTactic
import Derived.Deep.QuietTactic
import Derived.BigQuiet
import Derived.Deep.RegionHeld3
import Derived.Deep.DrawnRows
import Derived.Lib.QuietBelow
namespace Go.Proofs.YtipajdjcmgkcbaaDoor.headerMake
open Go.ChangeShapes Go.WideShapes Go.ChangeAt Go.RowKit
open Go.ChangeMaps (open_string shut_string)
set_option linter.unusedVariables false

theorem own : ownKnob Tryd.prog.godebug = none := by kernel_rfl
theorem laidOut : laidOutB Tryd.prog = true := by kernel_rfl

theorem neq_file (f g : Fl) (W : World) : (binOp .neq 23 (flV f) (flV g)).run Tryd.prog W = .ok (.bool (!decide (f = g))) W := by
  have h := eq_file f g W
  unfold flV at h ⊢
  rw [run_eql_struct] at h
  rw [run_neq_struct]
  cases hr : (Op.equalIn 10000 23 (.agg (flCells f)) (.agg (flCells g))).run Tryd.prog W with
  | ok b w' =>
    rw [hr] at h
    simp only [Result.andThen] at h ⊢
    injection h with h1 h2
    injection h1 with h1
    rw [h1, h2]
  | halt x w' => rw [hr] at h; simp [Result.andThen] at h
set_option maxHeartbeats 8000000 in
theorem walk (f0 : Fl) (a1 : Option Addr) (n1 c1 : Nat) (b1 : List UInt8) (x2 : Int) (x3 : Int) (x4 : Int) (w : World) (hT : Tabs w) (hE : Errs w) (h0 : Fits f0) (h1 : Bys w w.heap.size a1 n1 b1) (l1 : n1 ≤ c1) (s1 : c1 ≤ 140737488351232) (h2 : 0 ≤ x2 ∧ x2 ≤ 65535) (h3 : 0 ≤ x3 ∧ x3 ≤ 4294967295) (h4 : 0 ≤ x4 ∧ x4 ≤ 65535) :
    Calls Tryd.prog 3 #[flV f0, .slice a1 n1 c1, .int .u16 x2, .int .u32 x3, .int .u16 x4] w fun e w' => e = .returned (.bool true) ∧ Below w.heap.size w w' := by
  obtain ⟨l, a, b, c⟩ := f0
  obtain ⟨u, rfl⟩ : ∃ u : Nat, x2 = (u : Int) := ⟨x2.toNat, by omega⟩
  obtain ⟨t, rfl⟩ : ∃ u : Nat, x3 = (u : Int) := ⟨x3.toNat, by omega⟩
  obtain ⟨m, rfl⟩ : ∃ u : Nat, x4 = (u : Int) := ⟨x4.toNat, by omega⟩
  obtain ⟨w0, hw0⟩ : ∃ w0, w.alloc (.cells #[.string (strB l), .int .i64 a, .int .i64 b, .int .i64 c] 23) = w0 := ⟨_, rfl⟩
  have hk0 : Blk w0 w.heap.size 23 (flCells ⟨l, a, b, c⟩) := by rw [← hw0]; exact Blk.new w _ _
  have hb0 : Below w.heap.size w w0 := by rw [← hw0]; exact (Below.refl _ _).alloc (Nat.le_refl _) _
  have HF0 := keepHid (fileAt_blk hk0)
  have HB0 := keepHid hb0
  have H0 := keepHid (awake_any w0 (hT.below hb0 (Nat.le_refl _)))
  have HT0 := keepHid (hT.below hb0 (Nat.le_refl _))
  have HE0 := keepHid (hE.below hb0 (Nat.le_refl _))
  have HY1 := keepHid h1
  have HFIT := keepHid h0
  clear hk0 hb0 hT hE h0 h1
  show Calls Tryd.prog 3 #[.agg #[.string (strB l), .int .i64 a, .int .i64 b, .int .i64 c], .slice a1 n1 c1, .int .u16 (u : Int), .int .u32 (t : Int), .int .u16 (m : Int)] w _
  go_enter Tryd.func3, Tryd.ntmps3
  go_wp2_with fail
  refine H0.out.mono ?_
  rintro e w1 ⟨rfl, hb1⟩
  have HB1 := keepHid (HB0.out.trans (hb1.mono HB0.out.size))
  have HT1 := keepHid (HT0.out.below hb1 (Nat.le_refl _))
  have HE1 := keepHid (HE0.out.below hb1 (Nat.le_refl _))
  have HF1 := keepHid (HF0.out.below hb1 HF0.out.lt)
  obtain ⟨s, hs⟩ : ∃ s, u % 8193 = s := ⟨_, rfl⟩
  have hs2 : s < 8193 := by rw [← hs]; exact Nat.mod_lt _ (by omega)
  have es : (u : Int) % 8193 = (s : Int) := by omega
  have hN := nm_any a1 n1 c1 w1.heap.size b1 w1 ((HY1.out.below HB1.out).more HB1.out.size)
  have hM : May ⟨nmL b1, s, t, m⟩ := (mayB_iff _).1 (by unfold mayB; simp only [nm_name b1, Bool.true_and, Bool.and_eq_true, decide_eq_true_eq]; omega)
  generalize nmL b1 = N1 at *
  have HM := keepHid hM
  have HN := keepHid hN
  obtain ⟨w2, hw2⟩ : ∃ w2, w1.alloc (.cells #[.string (strB N1), .int .i64 (s : Int), .int .i64 (t : Int), .int .i64 (m : Int)] 23) = w2 := ⟨_, rfl⟩
  have hk2 : Blk w2 w1.heap.size 23 (flCells ⟨N1, s, t, m⟩) := by rw [← hw2]; exact Blk.new w1 _ _
  have hb2 : Below w1.heap.size w1 w2 := by rw [← hw2]; exact (Below.refl _ _).alloc (Nat.le_refl _) _
  have HG2 := keepHid (fileAt_blk hk2)
  have HB2 := keepHid (HB1.out.trans (hb2.mono HB1.out.size))
  have HT2 := keepHid (HT1.out.below hb2 (Nat.le_refl _))
  have HE2 := keepHid (HE1.out.below hb2 (Nat.le_refl _))
  have HF2 := keepHid (HF1.out.below hb2 HF1.out.lt)
  have HW2 := keepHid hw2
  have hc0 := HG2.out.c0; have hc1 := HG2.out.c1; have hc2 := HG2.out.c2; have hc3 := HG2.out.c3
  clear hN hM hw0 hb1 hs hw2 hk2 hb2
  go_wp2_with fail
  refine HN.out.mono ?_
  rintro e w' ⟨rfl, rfl⟩
  go_wp2_with (go_at_call 11; fail)
  rw [HW2.out]
  refine (hmake_ok ⟨N1, s, t, m⟩ HM.out _ HT2.out).mono ?_
  rintro e w3 ⟨g3, rfl, hg3, hk3, hb3⟩
  obtain ⟨E, hEE⟩ : ∃ E, encL ⟨N1, s, t, m⟩ = E := ⟨_, rfl⟩
  have hEl : E.length = 128 := by rw [← hEE]; exact enc_len HM.out
  rw [hEE] at hk3
  have HEE := keepHid hEE
  have HEL := keepHid hEl
  have HK3 := keepHid hk3
  have HB3 := keepHid (HB2.out.trans (hb3.mono HB2.out.size))
  have HT3 := keepHid (HT2.out.below hb3 (Nat.le_refl _))
  have HE3 := keepHid (HE2.out.below hb3 (Nat.le_refl _))
  have HF3 := keepHid (HF2.out.below hb3 HF2.out.lt)
  have HG3 := keepHid (HG2.out.below hb3 HG2.out.lt)
  have HY3 := keepHid ((mk_bys hk3 hEl).more (B' := w3.heap.size) (by have := hk3.lt; omega))
  clear hc0 hc1 hc2 hc3 hEE hEl hk3 hb3
  go_wp2_with fail
  refine (read_any (some ⟨g3, 0, none⟩) 128 128 E _ HY3.out HT3.out HE3.out).mono ?_
  rintro e w4 ⟨⟨f4, ok4, rfl, hrd4⟩, hb4⟩
  have hok4 : ok4 = true := by
    cases ok4
    · exact absurd HEE.out.symm ((hrd4.no rfl).2 _ HM.out)
    · rfl
  subst hok4
  obtain rfl : f4 = ⟨N1, s, t, m⟩ := by
    obtain ⟨hm, he⟩ := hrd4.yes rfl
    exact enc_inj hm HM.out (by rw [← he, HEE.out])
  unfold flV flCells
  dsimp only
  obtain ⟨w5, hw5⟩ : ∃ w5, w4.alloc (.cells #[.string (strB N1), .int .i64 (s : Int), .int .i64 (t : Int), .int .i64 (m : Int)] 23) = w5 := ⟨_, rfl⟩
  have hk5 : Blk w5 w4.heap.size 23 (flCells ⟨N1, s, t, m⟩) := by rw [← hw5]; exact Blk.new w4 _ _
  have hb5 : Below w4.heap.size w4 w5 := by rw [← hw5]; exact (Below.refl _ _).alloc (Nat.le_refl _) _
  have hb35 := hb4.trans (hb5.mono hb4.size)
  have HB5 := keepHid (HB3.out.trans (hb35.mono HB3.out.size))
  have HT5 := keepHid (HT3.out.below hb35 (Nat.le_refl _))
  have HF5 := keepHid (HF3.out.below hb35 HF3.out.lt)
  have hG5 := HG3.out.below hb35 HG3.out.lt
  have hX5 := fileAt_blk hk5
  have hY5 := (HY3.out.below hb35).more hb35.size
  have hse : ((strB E).toList == (strB E).toList) = true := strB_same rfl
  have hne : ∀ W, (binOp .neq 23 (.agg #[.string (strB N1), .int .i64 (s : Int), .int .i64 (t : Int), .int .i64 (m : Int)]) (.agg #[.string (strB N1), .int .i64 (s : Int), .int .i64 (t : Int), .int .i64 (m : Int)])).run Tryd.prog W = .ok (.bool false) W := fun W => by
    have h := neq_file ⟨N1, s, t, m⟩ ⟨N1, s, t, m⟩ W
    rw [decide_eq_true rfl] at h
    exact h
  have hfin : ∀ w' : World, Below w5.heap.size w5 w' → Below w5.heap.size w5 w' ∧ (convert 24 9 (.slice (some ⟨g3, 0, none⟩) 128 128)).run Tryd.prog w' = .ok (.string (strB E)) w'
      ∧ w'.cell? ⟨w1.heap.size, 0, none⟩ = some (.string (strB N1)) ∧ w'.cell? ⟨w1.heap.size, 1, none⟩ = some (.int .i64 (s : Int)) ∧ w'.cell? ⟨w1.heap.size, 2, none⟩ = some (.int .i64 (t : Int)) ∧ w'.cell? ⟨w1.heap.size, 3, none⟩ = some (.int .i64 (m : Int))
      ∧ w'.cell? ⟨w4.heap.size, 0, none⟩ = some (.string (strB N1)) ∧ w'.cell? ⟨w4.heap.size, 1, none⟩ = some (.int .i64 (s : Int)) ∧ w'.cell? ⟨w4.heap.size, 2, none⟩ = some (.int .i64 (t : Int)) ∧ w'.cell? ⟨w4.heap.size, 3, none⟩ = some (.int .i64 (m : Int)) := by
    intro w' hb
    have g1 := hG5.below hb hG5.lt
    have g2 := hX5.below hb hX5.lt
    exact ⟨hb, run_str 24 5 9 Tryd.underlying24 Tryd.underlying5 Tryd.underlying9 (hY5.below hb), g1.c0, g1.c1, g1.c2, g1.c3, g2.c0, g2.c1, g2.c2, g2.c3⟩
  have HFIN := keepHid hfin
  have HMD := keepHid (made_any ⟨N1, s, t, m⟩ HM.out)
  rw [HEE.out] at HMD
  clear hb4 hb5 hb35 hk5 hG5 hX5 hY5 hfin hrd4 HW2 HN HE3 HT3 HE2 HT2 HE1 HT1 HE0 HT0 H0
  generalize w1.heap.size = k1 at *
  go_wp2
  go_region_held3 (fun w' => Below w5.heap.size w5 w' ∧ (convert 24 9 (.slice (some ⟨g3, 0, none⟩) 128 128)).run Tryd.prog w' = .ok (.string (strB E)) w'
      ∧ w'.cell? ⟨k1, 0, none⟩ = some (.string (strB N1)) ∧ w'.cell? ⟨k1, 1, none⟩ = some (.int .i64 (s : Int)) ∧ w'.cell? ⟨k1, 2, none⟩ = some (.int .i64 (t : Int)) ∧ w'.cell? ⟨k1, 3, none⟩ = some (.int .i64 (m : Int))
      ∧ w'.cell? ⟨w4.heap.size, 0, none⟩ = some (.string (strB N1)) ∧ w'.cell? ⟨w4.heap.size, 1, none⟩ = some (.int .i64 (s : Int)) ∧ w'.cell? ⟨w4.heap.size, 2, none⟩ = some (.int .i64 (t : Int)) ∧ w'.cell? ⟨w4.heap.size, 3, none⟩ = some (.int .i64 (m : Int)))
    (exact HFIN.out _ (by first | assumption | exact Below.refl _ _ | exact (Below.refl _ _).drew | exact Below.drew (by assumption)))
    (first
      | (go_at_call 13
         refine (HMD.out _).mono ?_
         rintro e w6 ⟨rfl, hb6⟩
         have hc6 := fun (h : Below w5.heap.size w5 _) => h.trans (hb6.mono h.size)
         replace hc6 := hc6 (by first | exact And.left (by assumption) | exact (And.left (by assumption)).drew | assumption | exact Below.refl _ _ | exact (Below.refl _ _).drew | exact Below.drew (by assumption))
         clear hb6))
  rename_i hHeld
  obtain ⟨hb, -⟩ := hHeld
  have HB7 := keepHid (HB5.out.trans (hb.mono HB5.out.size))
  have HT7 := keepHid (HT5.out.below hb (Nat.le_refl _))
  have HF7 := keepHid (HF5.out.below hb HF5.out.lt)
  have hc0 := HF7.out.c0; have hc1 := HF7.out.c1; have hc2 := HF7.out.c2; have hc3 := HF7.out.c3
  clear hb hse hne HMD HFIN hc6 HF5 HT5 HB5 HG2 HG3 HK3 HY3 HF3 HF2 HF1 HF0
  go_wp2_with fail
  refine (make_any ⟨l, a, b, c⟩ HFIT.out.name _ HT7.out).mono ?_
  rintro e w8 ⟨⟨A8, n8, c8, E8, rfl, hy8, hn8, hc8, he8⟩, hb8⟩
  have HB8 := keepHid (HB7.out.trans (hb8.mono HB7.out.size))
  have hF8 := HF7.out.below hb8 HF7.out.lt
  have HMY := keepHid (may_any ⟨l, a, b, c⟩ HFIT.out.name)
  have HLM := keepHid (lmay_any ⟨l, a, b, c⟩ HFIT.out.name)
  have HMD : Hid (mayB ⟨l, a, b, c⟩ = true → ∀ w, Calls Tryd.prog 13 #[flV ⟨l, a, b, c⟩] w fun e w' => e = .returned (.string (strB E8)) ∧ Below w.heap.size w w') := keepHid fun h => by
    have := made_any ⟨l, a, b, c⟩ ((mayB_iff _).1 h)
    rw [he8, if_pos h]
    exact this
  have HLN : Hid (mayB ⟨l, a, b, c⟩ = false → ((n8 : Int) == 0) = true) := keepHid fun h => by
    have h2 := hy8.len
    rw [he8, h] at h2
    simp at h2
    simp; omega
  have k0 := cell_regrown hF8.c0; have k1 := cell_regrown hF8.c1; have k2 := cell_regrown hF8.c2; have k3 := cell_regrown hF8.c3
  have hcv : ∀ d os, (convert 24 9 (.slice A8 n8 c8)).run Tryd.prog (Sort.grow (redrawn w8 d) os) = .ok (.string (strB E8)) (Sort.grow (redrawn w8 d) os) := fun d os =>
    run_str 24 5 9 Tryd.underlying24 Tryd.underlying5 Tryd.underlying9 (hy8.below (below_regrown w8 d os))
  have hse : ((strB E8).toList == (strB E8).toList) = true := strB_same rfl
  have cMY : ∀ d os, Calls Tryd.prog 14 #[.agg #[.string (strB l), .int .i64 a, .int .i64 b, .int .i64 c]] (Sort.grow (redrawn w8 d) os) fun e w'' => e = .returned (.bool (mayB ⟨l, a, b, c⟩)) ∧ ∃ p : Regrown, w'' = Sort.grow (redrawn w8 p.d) p.os := fun d os => Calls.regrown_of (HMY.out _)
  have cLM : ∀ d os, Calls Tryd.prog 15 #[.agg #[.string (strB l), .int .i64 a, .int .i64 b, .int .i64 c]] (Sort.grow (redrawn w8 d) os) fun e w'' => e = .returned (.bool (mayB ⟨l, a, b, c⟩)) ∧ ∃ p : Regrown, w'' = Sort.grow (redrawn w8 p.d) p.os := fun d os => Calls.regrown_of (HLM.out _)
  have cMD : mayB ⟨l, a, b, c⟩ = true → ∀ d os, Calls Tryd.prog 13 #[.agg #[.string (strB l), .int .i64 a, .int .i64 b, .int .i64 c]] (Sort.grow (redrawn w8 d) os) fun e w'' => e = .returned (.string (strB E8)) ∧ ∃ p : Regrown, w'' = Sort.grow (redrawn w8 p.d) p.os := fun h d os => Calls.regrown_of (HMD.out h _)
  have CMY := keepHid cMY
  have CLM := keepHid cLM
  have CMD := keepHid cMD
  clear hc0 hc1 hc2 hc3 hy8 he8 hb8 hF8 hn8 hc8 cMY cLM cMD HMY HLM HMD
  generalize hp : mayB ⟨l, a, b, c⟩ = p at *
  clear hp
  cases p
  · have hln := HLN.out rfl
    clear CMD HLN
    go_wp2
    refine wp_region_quiet_below (by kernel_rfl) (by kernel_rfl) ?_
    repeat (go_big_quiet_step (first | (with_reducible exact CMY.out _ _) | (with_reducible exact CLM.out _ _)))
    refine wpQuiet_nil ?_
    intro _ hw'
    obtain ⟨⟨dq, osq⟩, hw''⟩ := hw'
    subst hw''
    go_wp2
    go_ret
    exact ⟨rfl, HB8.out.trans ((below_regrown w8 dq osq).mono HB8.out.size)⟩
  · have CMD2 := keepHid (CMD.out rfl)
    clear CMD HLN
    go_wp2
    refine wp_region_quiet_below (by kernel_rfl) (by kernel_rfl) ?_
    repeat (go_big_quiet_step (first | (with_reducible exact CMY.out _ _) | (with_reducible exact CLM.out _ _) | (with_reducible exact CMD2.out _ _)))
    refine wpQuiet_nil ?_
    intro _ hw'
    obtain ⟨⟨dq, osq⟩, hw''⟩ := hw'
    subst hw''
    go_wp2
    go_ret
    exact ⟨rfl, HB8.out.trans ((below_regrown w8 dq osq).mono HB8.out.size)⟩

set_option maxRecDepth 100000 in
theorem lifted (os : Os) (started : os.Started) (H : Type) (enc : TypeId × Value → H) :
    ReturnsInHanded {} Tryd.checked os 3 .any (fun w args => (Rows.headerMakeSpec.pre enc Tryd.prog Tryd.f3 [] false w args ∧ laidMetH Tryd.prog laid5 w) ∧ sizedMet enc Tryd.prog Tryd.f3 (OpenSpec.ofChange Rows.headerMakeSpec) false w args) (Rows.headerMakeSpec.post enc Tryd.prog Tryd.f3 false true false false) := by
  refine returnsInHanded_of_change_and (C := Tryd.checked) (X := fun w _ => laidMetH Tryd.prog laid5 w) (fun _ _ _ hh h => h.of_heap hh) own started (by kernel_rfl) Tryd.func3
    (ChangeSpec.witness_shaped (enc := enc) (C := Tryd.checked) (os := os) (X := fun w _ => laidMetH Tryd.prog laid5 w) false (World.doorLaid Tryd.prog 400 os) #[.agg #[.string ⟨#[]⟩, .int .i64 0, .int .i64 0, .int .i64 0], .slice none 0 0, .int .u16 0, .int .u32 0, .int .u16 0] 8 rfl (World.shaped_of_RefB (by kernel_rfl) (by kernel_rfl)) (by kernel_rfl) (by kernel_rfl) (by kernel_rfl) (door5 os _)) ?_
  intro W base args ds gs before hval0 hW hcnd hsz0 hL _
  have hsz : (DataW.weightsEach Tryd.prog (Tryd.f3.params.toList ++ Rows.headerMakeSpec.plain.varTypes Tryd.prog) (ds ++ gs)).all (· ≤ reachBytes) = true := hsz0
  clear hsz0
  have hval : ∀ (j : Nat) t v, Tryd.f3.params[j]? = some t → args[j]? = some v → Value.okWide Tryd.prog W .any base t v := hval0
  have hW' := hW
  obtain ⟨p, q, hA0, hV, rfl, hfz, hnd⟩ := hW
  have hA : DataW.TrodAll enc Tryd.prog W 0 (fun _ => true) true Tryd.f3.params.toList args.toList ds p := hA0
  rw [Tryd.params3] at hA hval hsz
  obtain ⟨v0, vs0, d0, ds0, p0, q0, hargs, rfl, rfl, h0, r0⟩ := trodAll_cons hA
  obtain ⟨v1, vs1, d1, ds1, p1, q1, rfl, rfl, rfl, h1, r1⟩ := trodAll_cons r0
  obtain ⟨v2, vs2, d2, ds2, p2, q2, rfl, rfl, rfl, h2, r2⟩ := trodAll_cons r1
  obtain ⟨v3, vs3, d3, ds3, p3, q3, rfl, rfl, rfl, h3, r3⟩ := trodAll_cons r2
  obtain ⟨v4, vs4, d4, ds4, p4, q4, rfl, rfl, rfl, h4, r4⟩ := trodAll_cons r3
  obtain ⟨rfl, rfl, rfl⟩ := trodAll_nil r4
  obtain rfl : args = #[v0, v1, v2, v3, v4] := by cases args; simp_all
  obtain ⟨rfl, rfl⟩ := trodVars_none hV
  have k0 := h0
  have lt0 : ∀ x ∈ p0, x.block < W.heap.size := by obtain ⟨m, hm⟩ := k0; exact DataW.trod_lt m _ _ _ hm
  have k1 := h1
  have lt1 : ∀ x ∈ p1, x.block < W.heap.size := by obtain ⟨m, hm⟩ := k1; exact DataW.trod_lt m _ _ _ hm
  have k2 := h2
  have lt2 : ∀ x ∈ p2, x.block < W.heap.size := by obtain ⟨m, hm⟩ := k2; exact DataW.trod_lt m _ _ _ hm
  have k3 := h3
  have lt3 : ∀ x ∈ p3, x.block < W.heap.size := by obtain ⟨m, hm⟩ := k3; exact DataW.trod_lt m _ _ _ hm
  have k4 := h4
  have lt4 : ∀ x ∈ p4, x.block < W.heap.size := by obtain ⟨m, hm⟩ := k4; exact DataW.trod_lt m _ _ _ hm
  obtain ⟨f0, rfl, w0⟩ := open_file Tryd.underlying23 ⟨rfl, rfl⟩ ⟨rfl, rfl⟩ ⟨rfl, rfl⟩ ⟨rfl, rfl⟩ Tryd.underlying9 Tryd.underlying3 (by kernel_rfl) (by kernel_rfl) (by kernel_rfl) (hval 0 23 v0 rfl rfl) h0
  obtain ⟨a1, n1, c1, b1, rfl, w1, l1, s1⟩ := open_bys Tryd.underlying24 Tryd.underlying5 (by kernel_rfl) (by kernel_rfl) (hval 1 24 v1 rfl rfl) (fun _ => rfl) h1 (fun el sp hd => sized_slice hsz (j := 1) (t := 24) (e := 5) rfl (by rw [hd]; rfl) Tryd.underlying24)
  obtain ⟨x2, rfl, rfl, rfl, w2⟩ := open_int Tryd.underlying25 (hval 2 25 v2 rfl rfl) h2
  obtain ⟨x3, rfl, rfl, rfl, w3⟩ := open_int Tryd.underlying26 (hval 3 26 v3 rfl rfl) h3
  obtain ⟨x4, rfl, rfl, rfl, w4⟩ := open_int Tryd.underlying25 (hval 4 25 v4 rfl rfl) h4
  clear hA0 hval0
  refine (walk f0 a1 n1 c1 b1 x2 x3 x4 W (tabs5 hL) (errs5 hL) w0 w1 l1 s1 (wf_u16 w2) (wf_u32 w3) (wf_u16 w4)).mono fun e W' ⟨he, bel⟩ => ?_
  subst he
  exact ⟨_, rfl, _, _, _, [], _, [], hW', trodAll_mk1 (shut_bool Tryd.underlying4 _), (trodAll_cons_mk (Below.trod laidOut (by kernel_rfl) (of_decide_eq_true (by kernel_rfl)) k0 bel lt0) (trodAll_cons_mk (Below.trod laidOut (by kernel_rfl) (of_decide_eq_true (by kernel_rfl)) k1 bel lt1) (trodAll_cons_mk (Below.trod laidOut (by kernel_rfl) (of_decide_eq_true (by kernel_rfl)) k2 bel lt2) (trodAll_cons_mk (Below.trod laidOut (by kernel_rfl) (of_decide_eq_true (by kernel_rfl)) k3 bel lt3) (trodAll_cons_mk (Below.trod laidOut (by kernel_rfl) (of_decide_eq_true (by kernel_rfl)) k4 bel lt4) trodAll_mk0))))), rfl, bel.frame _, fun h => by cases h⟩

theorem over : Rows.headerMakeRow.holds Tryd.pinned (OpenSpec.ofChange Rows.headerMakeSpec) :=
  OpenClaim.holds_of_wide 3 Tryd.f3 rfl rfl rfl rfl rfl rfl rfl ⟨rfl, rfl, rfl, rfl, rfl⟩ rfl rfl rfl rfl rfl (by kernel_rfl) Tryd.func3 (by kernel_rfl)
    (of_decide_eq_true (by kernel_rfl)) (by unfold Func.isWrapper; first | (rw [if_pos (by decide +kernel)]; kernel_rfl) | (rw [if_neg (by decide +kernel)]; exact ⟨rfl, rfl⟩))
    (fun os started H enc _ => lifted os started H enc)

/-- The card: what the row lists is tied to the program's own text. -/
theorem proved : Rows.HeaderMakeCardSaid :=
  Claim7.holds_tied_plain_at .later [] [.data, .data, .data, .sentinel, .sentinel] true Rows.headerMakeCard.stood.harness true
    over (fun _ h => by cases h) (by kernel_rfl) (fun _ h => by cases h) headerMake_row_tie rfl ⟨rfl, rfl⟩ (by kernel_rfl) rfl
    (fun f fn hf hfn => by
      obtain rfl : f = 3 := Option.some.inj ((show Tryd.prog.funcNamed "lifeline/lifelinelaw05.HeaderMake" = some 3 by kernel_rfl).symm.trans hf) |>.symm
      obtain rfl : fn = Tryd.f3 := (Option.some.inj (Tryd.func3.symm.trans hfn)).symm
      exact ⟨by kernel_rfl, fun j t ht => by
        rw [Tryd.params3] at ht
        have hm : t ∈ [23, 24, 25, 26, 25] := by simpa using Array.mem_of_getElem? ht
        have hall : ([23, 24, 25, 26, 25].all fun u => !Tryd.prog.wantsStandIn u) = true := by kernel_rfl
        exact (show Tryd.prog.wantsStandIn t = false by simpa using List.all_eq_true.1 hall t hm)⟩)
    (by kernel_rfl)
end Go.Proofs.YtipajdjcmgkcbaaDoor.headerMake
