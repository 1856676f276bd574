/-
  'lifelinelaw05.HeaderRead' answers true for every input of the row, and leaves its arguments as they were.
  Conditions: the package-level variables that the row lists lie as the program's own text lays them (the card ties them to it; what is pinned is a constant of the library's).
-/
import Derived.Test.YtipajdjcmgkcbaaDoorRows
import Derived.Test.YtipajdjcmgkcbaaDoorHeaderRead
import Derived.Test.YtipajdjcmgkcbaaDoorFrame
import Derived.Test.YtipajdjcmgkcbaaDoorFrameDoor
import Derived.Test.YtipajdjcmgkcbaaDoorFrameErrs
import Derived.Test.YtipajdjcmgkcbaaDoorCards
import Derived.WalkKit
import Derived.ProofKit
import Derived.OpenShut
import Derived.ShutString
import Derived.ChangeOld
import Derived.Below
import Derived.Test.YtipajdjcmgkcbaaDoorConv
import Derived.WalkLawsBesides
import Derived.IntWalk
import Derived.RegionTactic
import Derived.Deep.QuietTactic
import Derived.BigQuiet
import Derived.Deep.RegionHeld3
import Derived.Deep.DrawnRows
import Derived.Lib.QuietBelow
namespace Go.Proofs.YtipajdjcmgkcbaaDoor.headerRead
open Go.ChangeShapes Go.WideShapes Go.ChangeAt Go.RowKit
open Go.ChangeMaps (open_string shut_string)
set_option linter.unusedVariables false

theorem own : ownKnob Tryd.prog.godebug = none := by kernel_rfl
theorem laidOut : laidOutB Tryd.prog = true := by kernel_rfl

theorem neq_file (f g : Fl) (W : World) : (binOp .neq 23 (flV f) (flV g)).run Tryd.prog W = .ok (.bool (!decide (f = g))) W := by
  have h := eq_file f g W
  unfold flV at h ⊢
  rw [run_eql_struct] at h
  rw [run_neq_struct]
  cases hr : (Op.equalIn 10000 23 (.agg (flCells f)) (.agg (flCells g))).run Tryd.prog W with
  | ok b w' =>
    rw [hr] at h
    simp only [Result.andThen] at h ⊢
    injection h with h1 h2
    injection h1 with h1
    rw [h1, h2]
  | halt x w' => rw [hr] at h; simp [Result.andThen] at h
set_option maxHeartbeats 8000000 in
theorem walk (a0 : Option Addr) (n0 c0 : Nat) (b0 : List UInt8) (x1 : Int) (x2 : Int) (x3 : Int) (a4 : Option Addr) (n4 c4 : Nat) (b4 : List UInt8) (w : World) (hT : Tabs w) (hE : Errs w) (h0 : Bys w w.heap.size a0 n0 b0) (l0 : n0 ≤ c0) (s0 : c0 ≤ 140737488351232) (h1 : 0 ≤ x1 ∧ x1 ≤ 65535) (h2 : 0 ≤ x2 ∧ x2 ≤ 255) (h3 : 0 ≤ x3 ∧ x3 ≤ 255) (h4 : Bys w w.heap.size a4 n4 b4) (l4 : n4 ≤ c4) (s4 : c4 ≤ 140737488351232) :
    Calls Tryd.prog 4 #[.slice a0 n0 c0, .int .u16 x1, .int .u8 x2, .int .u8 x3, .slice a4 n4 c4] w fun e w' => e = .returned (.bool true) ∧ Below w.heap.size w w' := by
  obtain ⟨u, rfl⟩ : ∃ u : Nat, x1 = (u : Int) := ⟨x1.toNat, by omega⟩
  obtain ⟨p, rfl⟩ : ∃ p : Nat, x2 = (p : Int) := ⟨x2.toNat, by omega⟩
  obtain ⟨v, hv⟩ : ∃ v : UInt8, x3 = (v.toNat : Int) := ⟨UInt8.ofNat x3.toNat, by simp; omega⟩
  subst hv
  have H0 := keepHid (awake_any w hT)
  have HT := keepHid hT
  have HE := keepHid hE
  have HY0 := keepHid h0
  have HY4 := keepHid h4
  clear hT hE h0 h4
  go_enter Tryd.func4, Tryd.ntmps4
  go_wp2_with fail
  refine H0.out.mono ?_
  rintro e w1 ⟨rfl, hb1⟩
  have HB1 := keepHid hb1
  obtain ⟨s, hs⟩ : ∃ s, u % 8193 = s := ⟨_, rfl⟩
  have hs2 : s < 8193 := by rw [← hs]; exact Nat.mod_lt _ (by omega)
  have es : (u : Int) % 8193 = (s : Int) := by omega
  have hN := nm_any a0 n0 c0 w1.heap.size b0 w1 ((HY0.out.below hb1).more hb1.size)
  have hM : May ⟨nmL b0, s, u, 420⟩ := (mayB_iff _).1 (by unfold mayB; simp only [nm_name b0, Bool.true_and, Bool.and_eq_true, decide_eq_true_eq]; omega)
  generalize nmL b0 = N0 at *
  have HM := keepHid hM
  have HN := keepHid hN
  clear hN hM hs hb1
  go_wp2_with fail
  refine HN.out.mono ?_
  rintro e w' ⟨rfl, rfl⟩
  go_wp2_with fail
  refine (made_any ⟨N0, s, u, 420⟩ HM.out _).mono ?_
  rintro e w2 ⟨rfl, hb2⟩
  obtain ⟨E, hE⟩ : ∃ E, encL ⟨N0, s, u, 420⟩ = E := ⟨_, rfl⟩
  have hEl : E.length = 128 := by rw [← hE]; exact enc_len HM.out
  rw [hE]
  obtain ⟨cp, w3, hcv, hrow⟩ := run_str_bytes (P := Tryd.prog) w2 9 24 5 E Tryd.underlying9 Tryd.underlying24 Tryd.underlying5 (by omega)
  rw [hEl] at hcv
  obtain ⟨k, hk⟩ : ∃ k, p % 128 = k := ⟨_, rfl⟩
  have hk2 : k < 128 := by rw [← hk]; exact Nat.mod_lt _ (by omega)
  have ek : (p : Int) % 128 = (k : Int) := by omega
  have hb12 := HB1.out.trans ((hb2.trans (hrow.below.mono hb2.size)).mono HB1.out.size)
  have hy3 := hrow.bys
  rw [hEl] at hy3
  have hx : E[k]? = some (E[k]'(by omega)) := List.getElem?_eq_getElem (by omega)
  obtain ⟨ad, y, had, _, hy, hcell⟩ := hy3.at_ hk2
  obtain rfl := Option.some.inj had
  have hadd : (⟨w2.heap.size, 0, none⟩ : Addr).add k = ⟨w2.heap.size, k, none⟩ := by unfold Addr.add; split <;> simp_all
  rw [hadd] at hcell
  have hfz := hrow.froz k (by omega)
  have hy4 := bys_set hy3 hx v
  obtain ⟨D, hD⟩ : ∃ D, E.set k v = D := ⟨_, rfl⟩
  rw [hD] at hy4
  have hsz3 : w2.heap.size < w3.heap.size := hrow.lt
  have hcp := hrow.cap
  rw [hEl] at hcp
  obtain ⟨w4, hw4⟩ : ∃ w4, w3.setCell ⟨w2.heap.size, k, none⟩ (.int .u8 (v.toNat : Int)) = w4 := ⟨_, rfl⟩
  rw [hw4] at hy4
  have hs34 : w4.heap.size = w3.heap.size := by rw [← hw4]; simp [World.setCell]
  have hb4 : Below w.heap.size w w4 := by rw [← hw4]; exact hb12.setCell (p := ⟨w2.heap.size, k, none⟩) (by have := HB1.out.size; have := hb2.size; show w.heap.size ≤ w2.heap.size; omega) _
  have HB4 := keepHid hb4
  have HD4 := keepHid (hy4.more (B' := w4.heap.size) (by omega))
  have HDK := keepHid ((hy4.more (B' := w4.heap.size) (by omega)).head (k := k) (by omega))
  have HR4 := keepHid ((HY4.out.below hb4).more hb4.size)
  clear hy3 hy4 hx hy hadd hD hs34 hb4 hrow hb12 hb2 hk hE hsz3
  obtain ⟨w5, hw5⟩ : ∃ w5, w4.alloc (.cells #[.slice (some ⟨w2.heap.size, 0, none⟩) 128 cp, .slice a4 n4 c4, .slice (some ⟨w2.heap.size, 0, none⟩) k cp] 24) = w5 := ⟨_, rfl⟩
  have hk5 : Blk w5 w4.heap.size 24 #[.slice (some ⟨w2.heap.size, 0, none⟩) 128 cp, .slice a4 n4 c4, .slice (some ⟨w2.heap.size, 0, none⟩) k cp] := by rw [← hw5]; exact Blk.new _ _ _
  have hb5 : Below w4.heap.size w4 w5 := by rw [← hw5]; exact (Below.refl _ _).alloc (Nat.le_refl _) _
  have HROW : Hid (∀ wr, Below w5.heap.size w5 wr → ∀ i, i < 3 → ∃ A n c X, wr.cell? ⟨w4.heap.size, i, none⟩ = some (.slice A n c) ∧ Bys wr wr.heap.size A n X) := keepHid fun wr hb i hi => by
    have hkr := hk5.below hb hk5.lt
    have hbr := hb5.trans (hb.mono hb5.size)
    rcases (by omega : i = 0 ∨ i = 1 ∨ i = 2) with rfl | rfl | rfl
    · exact ⟨_, _, _, D, hkr.cell 0, (HD4.out.below hbr).more hbr.size⟩
    · exact ⟨_, _, _, b4, hkr.cell 1, (HR4.out.below hbr).more hbr.size⟩
    · exact ⟨_, _, _, D.take k, hkr.cell 2, (HDK.out.below hbr).more hbr.size⟩
  have HB5 := keepHid (HB4.out.trans (hb5.mono HB4.out.size))
  have HT5 := keepHid (HT.out.below HB5.out (Nat.le_refl _))
  have HE5 := keepHid (HE.out.below HB5.out (Nat.le_refl _))
  have HW5 := keepHid hw5
  clear hw5 hk5 hb5
  go_wp2
  rw [HW5.out]
  clear ek es hcell hfz hcv
  go_loopw [41] (fun i wr => ∃ j : Nat, j ≤ 3 ∧ i = .int .i64 j ∧ Below w5.heap.size w5 wr) (fun i _ => 3 - (intOf i).toNat)
  case atStart => exact ⟨0, by omega, rfl, Below.refl _ _⟩
  case round =>
    obtain ⟨j, hj, rfl, hbr⟩ := hrel
    have HBR := keepHid hbr
    clear hbr
    by_cases hlt : j < 3
    · obtain ⟨A, n, c, X, hcx, hbx⟩ := HROW.out wr HBR.out j hlt
      have HBX := keepHid hbx
      have hj3 : (j : Int) < 3 := by omega
      clear hbx
      go_wp2_with fail
      refine (read_any A n c X _ HBX.out (HT5.out.below HBR.out (Nat.le_refl _)) (HE5.out.below HBR.out (Nat.le_refl _))).mono ?_
      rintro e w6 ⟨⟨f, ok, rfl, hrd⟩, hb6⟩
      have HRD := keepHid hrd
      obtain ⟨l, a, b, d⟩ := f
      unfold flV flCells
      dsimp only
      obtain ⟨w7, hw7⟩ : ∃ w7, w6.alloc (.cells #[.string (strB l), .int .i64 a, .int .i64 b, .int .i64 d] 23) = w7 := ⟨_, rfl⟩
      have hk7 : Blk w7 w6.heap.size 23 (flCells ⟨l, a, b, d⟩) := by rw [← hw7]; exact Blk.new _ _ _
      have hb7 : Below w6.heap.size w6 w7 := by rw [← hw7]; exact (Below.refl _ _).alloc (Nat.le_refl _) _
      have hbr7 := hb6.trans (hb7.mono hb6.size)
      have HB7 := keepHid (HBR.out.trans (hbr7.mono HBR.out.size))
      have hbx7 := (HBX.out.below hbr7).more hbr7.size
      have f7 := fileAt_blk hk7
      have k0 := cell_regrown f7.c0; have k1 := cell_regrown f7.c1; have k2 := cell_regrown f7.c2; have k3 := cell_regrown f7.c3
      have hcv : ∀ q os, (convert 24 9 (.slice A n c)).run Tryd.prog (Sort.grow (redrawn w7 q) os) = .ok (.string (strB X)) (Sort.grow (redrawn w7 q) os) := fun q os =>
        run_str 24 5 9 Tryd.underlying24 Tryd.underlying5 Tryd.underlying9 (hbx7.below (below_regrown w7 q os))
      have CLM : Hid (∀ q os, Calls Tryd.prog 15 #[.agg #[.string (strB l), .int .i64 a, .int .i64 b, .int .i64 d]] (Sort.grow (redrawn w7 q) os) fun e w'' => e = .returned (.bool (mayB ⟨l, a, b, d⟩)) ∧ ∃ p : Regrown, w'' = Sort.grow (redrawn w7 p.d) p.os) := keepHid fun q os => Calls.regrown_of (lmay_any ⟨l, a, b, d⟩ HRD.out.fits.name _)
      clear hb6 hb7 hbr7 hbx7 f7 hk7 hcx hrd
      cases ok
      · have hfe : ∀ W, (binOp .neq 23 (.agg #[.string (strB l), .int .i64 a, .int .i64 b, .int .i64 d]) (.agg #[.string ⟨#[]⟩, .int .i64 0, .int .i64 0, .int .i64 0])).run Tryd.prog W = .ok (.bool false) W := fun W => by
          have h := neq_file ⟨l, a, b, d⟩ fl0 W
          rw [decide_eq_true (HRD.out.no rfl).1] at h
          exact h
        clear CLM hcv
        go_wp2
        refine wp_region_quiet_below (by kernel_rfl) (by kernel_rfl) ?_
        repeat (go_big_quiet_step (fail))
        refine wpQuiet_nil ?_
        intro _ hw'
        obtain ⟨⟨dq, osq⟩, hw''⟩ := hw'
        subst hw''
        go_wp2
        have HBE : Below w5.heap.size w5 (Sort.grow (redrawn w7 dq) osq) := HB7.out.trans ((below_regrown w7 dq osq).mono HB7.out.size)
        go_roundw
        case rel => exact ⟨j + 1, by omega, by go_num, HBE⟩
        case measure => simp [intOf]; omega
      · obtain ⟨hm, he⟩ := HRD.out.yes rfl
        rw [(mayB_iff _).2 hm] at CLM
        have CMD : Hid (∀ q os, Calls Tryd.prog 13 #[.agg #[.string (strB l), .int .i64 a, .int .i64 b, .int .i64 d]] (Sort.grow (redrawn w7 q) os) fun e w'' => e = .returned (.string (strB X)) ∧ ∃ p : Regrown, w'' = Sort.grow (redrawn w7 p.d) p.os) := keepHid fun q os => Calls.regrown_of (by have h := made_any ⟨l, a, b, d⟩ hm (Sort.grow (redrawn w7 q) os); rw [← he] at h; exact h)
        have hse : ((strB X).toList == (strB X).toList) = true := strB_same rfl
        clear hm he
        go_wp2
        refine wp_region_quiet_below (by kernel_rfl) (by kernel_rfl) ?_
        repeat (go_big_quiet_step (first | (with_reducible exact CLM.out _ _) | (with_reducible exact CMD.out _ _)))
        refine wpQuiet_nil ?_
        intro _ hw'
        obtain ⟨⟨dq, osq⟩, hw''⟩ := hw'
        subst hw''
        go_wp2
        have HBE : Below w5.heap.size w5 (Sort.grow (redrawn w7 dq) osq) := HB7.out.trans ((below_regrown w7 dq osq).mono HB7.out.size)
        go_roundw
        case rel => exact ⟨j + 1, by omega, by go_num, HBE⟩
        case measure => simp [intOf]; omega
    · obtain rfl : j = 3 := by omega
      go_wp2
      go_ret
      exact ⟨rfl, HB5.out.trans (HBR.out.mono HB5.out.size)⟩

set_option maxRecDepth 100000 in
theorem lifted (os : Os) (started : os.Started) (H : Type) (enc : TypeId × Value → H) :
    ReturnsInHanded {} Tryd.checked os 4 .any (fun w args => (Rows.headerReadSpec.pre enc Tryd.prog Tryd.f4 [] false w args ∧ laidMetH Tryd.prog laid5 w) ∧ sizedMet enc Tryd.prog Tryd.f4 (OpenSpec.ofChange Rows.headerReadSpec) false w args) (Rows.headerReadSpec.post enc Tryd.prog Tryd.f4 false true false false) := by
  refine returnsInHanded_of_change_and (C := Tryd.checked) (X := fun w _ => laidMetH Tryd.prog laid5 w) (fun _ _ _ hh h => h.of_heap hh) own started (by kernel_rfl) Tryd.func4
    (ChangeSpec.witness_shaped (enc := enc) (C := Tryd.checked) (os := os) (X := fun w _ => laidMetH Tryd.prog laid5 w) false (World.doorLaid Tryd.prog 400 os) #[.slice none 0 0, .int .u16 0, .int .u8 0, .int .u8 0, .slice none 0 0] 8 rfl (World.shaped_of_RefB (by kernel_rfl) (by kernel_rfl)) (by kernel_rfl) (by kernel_rfl) (by kernel_rfl) (door5 os _)) ?_
  intro W base args ds gs before hval0 hW hcnd hsz0 hL _
  have hsz : (DataW.weightsEach Tryd.prog (Tryd.f4.params.toList ++ Rows.headerReadSpec.plain.varTypes Tryd.prog) (ds ++ gs)).all (· ≤ reachBytes) = true := hsz0
  clear hsz0
  have hval : ∀ (j : Nat) t v, Tryd.f4.params[j]? = some t → args[j]? = some v → Value.okWide Tryd.prog W .any base t v := hval0
  have hW' := hW
  obtain ⟨p, q, hA0, hV, rfl, hfz, hnd⟩ := hW
  have hA : DataW.TrodAll enc Tryd.prog W 0 (fun _ => true) true Tryd.f4.params.toList args.toList ds p := hA0
  rw [Tryd.params4] at hA hval hsz
  obtain ⟨v0, vs0, d0, ds0, p0, q0, hargs, rfl, rfl, h0, r0⟩ := trodAll_cons hA
  obtain ⟨v1, vs1, d1, ds1, p1, q1, rfl, rfl, rfl, h1, r1⟩ := trodAll_cons r0
  obtain ⟨v2, vs2, d2, ds2, p2, q2, rfl, rfl, rfl, h2, r2⟩ := trodAll_cons r1
  obtain ⟨v3, vs3, d3, ds3, p3, q3, rfl, rfl, rfl, h3, r3⟩ := trodAll_cons r2
  obtain ⟨v4, vs4, d4, ds4, p4, q4, rfl, rfl, rfl, h4, r4⟩ := trodAll_cons r3
  obtain ⟨rfl, rfl, rfl⟩ := trodAll_nil r4
  obtain rfl : args = #[v0, v1, v2, v3, v4] := by cases args; simp_all
  obtain ⟨rfl, rfl⟩ := trodVars_none hV
  have k0 := h0
  have lt0 : ∀ x ∈ p0, x.block < W.heap.size := by obtain ⟨m, hm⟩ := k0; exact DataW.trod_lt m _ _ _ hm
  have k1 := h1
  have lt1 : ∀ x ∈ p1, x.block < W.heap.size := by obtain ⟨m, hm⟩ := k1; exact DataW.trod_lt m _ _ _ hm
  have k2 := h2
  have lt2 : ∀ x ∈ p2, x.block < W.heap.size := by obtain ⟨m, hm⟩ := k2; exact DataW.trod_lt m _ _ _ hm
  have k3 := h3
  have lt3 : ∀ x ∈ p3, x.block < W.heap.size := by obtain ⟨m, hm⟩ := k3; exact DataW.trod_lt m _ _ _ hm
  have k4 := h4
  have lt4 : ∀ x ∈ p4, x.block < W.heap.size := by obtain ⟨m, hm⟩ := k4; exact DataW.trod_lt m _ _ _ hm
  obtain ⟨a0, n0, c0, b0, rfl, w0, l0, s0⟩ := open_bys Tryd.underlying24 Tryd.underlying5 (by kernel_rfl) (by kernel_rfl) (hval 0 24 v0 rfl rfl) (fun _ => rfl) h0 (fun el sp hd => sized_slice hsz (j := 0) (t := 24) (e := 5) rfl (by rw [hd]; rfl) Tryd.underlying24)
  obtain ⟨x1, rfl, rfl, rfl, w1⟩ := open_int Tryd.underlying25 (hval 1 25 v1 rfl rfl) h1
  obtain ⟨x2, rfl, rfl, rfl, w2⟩ := open_int Tryd.underlying5 (hval 2 5 v2 rfl rfl) h2
  obtain ⟨x3, rfl, rfl, rfl, w3⟩ := open_int Tryd.underlying5 (hval 3 5 v3 rfl rfl) h3
  obtain ⟨a4, n4, c4, b4, rfl, w4, l4, s4⟩ := open_bys Tryd.underlying24 Tryd.underlying5 (by kernel_rfl) (by kernel_rfl) (hval 4 24 v4 rfl rfl) (fun _ => rfl) h4 (fun el sp hd => sized_slice hsz (j := 4) (t := 24) (e := 5) rfl (by rw [hd]; rfl) Tryd.underlying24)
  clear hA0 hval0
  refine (walk a0 n0 c0 b0 x1 x2 x3 a4 n4 c4 b4 W (tabs5 hL) (errs5 hL) w0 l0 s0 (wf_u16 w1) (wf_u8 w2) (wf_u8 w3) w4 l4 s4).mono fun e W' ⟨he, bel⟩ => ?_
  subst he
  exact ⟨_, rfl, _, _, _, [], _, [], hW', trodAll_mk1 (shut_bool Tryd.underlying4 _), (trodAll_cons_mk (Below.trod laidOut (by kernel_rfl) (of_decide_eq_true (by kernel_rfl)) k0 bel lt0) (trodAll_cons_mk (Below.trod laidOut (by kernel_rfl) (of_decide_eq_true (by kernel_rfl)) k1 bel lt1) (trodAll_cons_mk (Below.trod laidOut (by kernel_rfl) (of_decide_eq_true (by kernel_rfl)) k2 bel lt2) (trodAll_cons_mk (Below.trod laidOut (by kernel_rfl) (of_decide_eq_true (by kernel_rfl)) k3 bel lt3) (trodAll_cons_mk (Below.trod laidOut (by kernel_rfl) (of_decide_eq_true (by kernel_rfl)) k4 bel lt4) trodAll_mk0))))), rfl, bel.frame _, fun h => by cases h⟩

theorem over : Rows.headerReadRow.holds Tryd.pinned (OpenSpec.ofChange Rows.headerReadSpec) :=
  OpenClaim.holds_of_wide 4 Tryd.f4 rfl rfl rfl rfl rfl rfl rfl ⟨rfl, rfl, rfl, rfl, rfl⟩ rfl rfl rfl rfl rfl (by kernel_rfl) Tryd.func4 (by kernel_rfl)
    (of_decide_eq_true (by kernel_rfl)) (by unfold Func.isWrapper; first | (rw [if_pos (by decide +kernel)]; kernel_rfl) | (rw [if_neg (by decide +kernel)]; exact ⟨rfl, rfl⟩))
    (fun os started H enc _ => lifted os started H enc)

/-- The card: what the row lists is tied to the program's own text. -/
theorem proved : Rows.HeaderReadCardSaid :=
  Claim7.holds_tied_plain_at .later [] [.data, .data, .data, .sentinel, .sentinel] true Rows.headerReadCard.stood.harness true
    over (fun _ h => by cases h) (by kernel_rfl) (fun _ h => by cases h) headerRead_row_tie rfl ⟨rfl, rfl⟩ (by kernel_rfl) rfl
    (fun f fn hf hfn => by
      obtain rfl : f = 4 := Option.some.inj ((show Tryd.prog.funcNamed "lifeline/lifelinelaw05.HeaderRead" = some 4 by kernel_rfl).symm.trans hf) |>.symm
      obtain rfl : fn = Tryd.f4 := (Option.some.inj (Tryd.func4.symm.trans hfn)).symm
      exact ⟨by kernel_rfl, fun j t ht => by
        rw [Tryd.params4] at ht
        have hm : t ∈ [24, 25, 5, 5, 24] := by simpa using Array.mem_of_getElem? ht
        have hall : ([24, 25, 5, 5, 24].all fun u => !Tryd.prog.wantsStandIn u) = true := by kernel_rfl
        exact (show Tryd.prog.wantsStandIn t = false by simpa using List.all_eq_true.1 hall t hm)⟩)
    (by kernel_rfl)
end Go.Proofs.YtipajdjcmgkcbaaDoor.headerRead
