/-
  'lifelinelaw04.BlockMake' answers true for every input, and leaves its arguments as they were.
  Conditions: none but what the row itself says of its arguments (how much memory each may take).
-/
import Derived.Test.YtahlllkmjibbpaaRows
import Derived.Test.YtahlllkmjibbpaaBlockLaw
import Derived.Test.YtahlllkmjibbpaaFrame
import Derived.WalkKit
import Derived.Deep.RegionHeld3
import Derived.Deep.RegionWith
import Derived.Deep.DrawnRows
import Derived.ProofKit
import Derived.OpenShut
import Derived.ShutString
import Derived.ChangeOld
import Derived.Below
namespace Go.Proofs.Ytahlllkmjibbpaa.blockMake
open Go.ChangeShapes Go.WideShapes Go.ChangeAt Go.RowKit
open Go.ChangeMaps (open_string shut_string)
set_option linter.unusedVariables false

theorem own : ownKnob Try.prog.godebug = none := by kernel_rfl
theorem laidOut : laidOutB Try.prog = true := by kernel_rfl

set_option maxHeartbeats 4000000 in
theorem walk (a0 : Option Addr) (n0 c0 : Nat) (b0 : List UInt8) (x1 : Bool) (x2 : Int) (x3 : Bool) (w : World) (h0 : Bys w w.heap.size a0 n0 b0) (l0 : n0 ≤ c0) (s0 : c0 ≤ 140737488351232) (h2 : 0 ≤ x2 ∧ x2 ≤ 255) :
    Calls Try.prog 3 #[.slice a0 n0 c0, .bool x1, .int .u8 x2, .bool x3] w fun e w' => e = .returned (.bool true) ∧ Below w.heap.size w w' := by
  obtain ⟨num, hnum⟩ : ∃ y : UInt8, x2 = (y.toNat : Int) := ⟨UInt8.ofNat x2.toNat, by rw [UInt8.toNat_ofNat', Nat.mod_eq_of_lt (by omega)]; omega⟩
  subst hnum
  have hu := u8lt num
  have H0 := keepHid h0
  obtain ⟨N, hN⟩ : ∃ N, longN x1 = N := ⟨_, rfl⟩
  have hN2 : N = 128 ∨ N = 1024 := by rw [← hN]; exact longN_or x1
  obtain ⟨d, hd⟩ : ∃ d, dat b0 (longN x1) = d := ⟨_, rfl⟩
  have hdl : d.length = N := by rw [← hd, dat_len, hN]
  have hT := szT_pos x3
  obtain ⟨L, hL⟩ : ∃ L, 3 + N + szT x3 = L := ⟨_, rfl⟩
  have hLe : (enc num d x3).length = L := by rw [enc_len, hdl, hL]
  have hsz : szA (leadB N).toNat x3 = L := by rw [lead_nat hN2, hL]
  have hLn : L ≤ 2000 := by omega
  have hL0 : 0 < L := by omega
  have hNle : N ≤ 1024 := by omega
  have HD := keepHid hd
  have HDL := keepHid hdl
  have HLE := keepHid hLe
  have HSZ := keepHid hsz
  have HN2 := keepHid hN2
  have hx0 : (enc num d x3)[0]? = some (leadB N) := by rw [enc_at0, hdl]
  have HX0 := keepHid hx0
  have hld := u8lt (leadB N)
  clear h0 hN hd hdl hL hLe hsz hT hx0 hN2
  generalize leadB N = ld at *
  obtain ⟨m, hm⟩ : ∃ m : Nat, (n0 ≤ 127 ∧ m = n0) ∨ (127 < n0 ∧ m = 127) := by
    by_cases h : n0 ≤ 127
    · exact ⟨n0, .inl ⟨h, rfl⟩⟩
    · exact ⟨127, .inr ⟨by omega, rfl⟩⟩
  have hmc : (m : Int) ≤ (c0 : Int) := by omega
  rcases hm with ⟨hm, rfl⟩ | ⟨hm, rfl⟩
  all_goals
    go_enter Try.func3, Try.ntmps3
    go_wp2_with fail
    refine (awake_any _).mono ?_
    rintro e w1 ⟨rfl, hb⟩
    have HB1 := keepHid hb
    have H1 := keepHid (H0.out.below hb)
    clear hb
    go_wp2_with fail
    refine (data_any _ _ _ _ _ x1 _ H1.out HB1.out.size).mono ?_
    rintro e w2 ⟨A2, c2, rfl, ho2, hc21, hc22, hb2⟩
    rw [HD.out] at ho2 hc21 ⊢
    rw [HDL.out] at ho2 hc21 ⊢
    have HB2 := keepHid (HB1.out.trans (hb2.mono HB1.out.size))
    have HO2 := keepHid ho2
    clear ho2 hb2
    go_wp2_with fail
    refine (make_any num _ N _ _ d x3 HN2.out _ (HO2.out.bys (by rcases HN2.out with h | h <;> omega)) (Nat.le_refl _)).mono ?_
    rintro e w3 ⟨A3, c3, rfl, ho3, hc31, hc32, hb3⟩
    rw [HLE.out] at ho3 hc31 ⊢
    have HB3 := keepHid (HB2.out.trans (hb3.mono HB2.out.size))
    have HO3 := keepHid ho3
    have HD3 := keepHid ((HO2.out.bys (by rcases HN2.out with h | h <;> omega)).below hb3)
    have hs3 := hb3.size
    clear ho3 hb3
    obtain ⟨g3, _, hv, hg31, hg32, _, _⟩ := HO3.out.some_form hL0
    obtain rfl : A3 = some ⟨g3, 0, none⟩ := by injection hv
    clear hv
    go_wp2_with fail
    refine (make_none num _ _ _ x3 (by omega) (by omega) (by omega) _).mono ?_
    rintro e w4 ⟨rfl, hb4⟩
    have HB4 := keepHid (HB3.out.trans (hb4.mono HB3.out.size))
    have hs4 : w2.heap.size ≤ w4.heap.size := Nat.le_trans hs3 hb4.size
    have HD4 := keepHid ((HD3.out.below (hb4.mono hs3)).more hs4)
    have hfin : ∀ w' : World, Below w4.heap.size w4 w' → (convert 22 9 (.slice (some ⟨g3, 0, none⟩) L c3)).run Try.prog w' = .ok (.string (strB (enc num d x3))) w' ∧ w'.cell? ⟨g3, 0, none⟩ = some (.int .u8 (ld.toNat : Int)) ∧ Below w4.heap.size w4 w' := by
      intro w' hb
      have hb' : Below w3.heap.size w3 w' := hb4.trans (hb.mono hb4.size)
      refine ⟨run_str 22 5 9 Try.underlying22 Try.underlying5 Try.underlying9 ((HO3.out.bys (by omega)).below hb'), (hb'.cell (p := ⟨g3, 0, none⟩) hg32).trans (HO3.out.cell HX0.out), hb⟩
    have HFIN := keepHid hfin
    have HSAME := keepHid (strB_same (xs := enc num d x3) rfl)
    clear hb4 hfin
    go_wp2
    go_region_held3 (fun w' => (convert 22 9 (.slice (some ⟨g3, 0, none⟩) L c3)).run Try.prog w' = .ok (.string (strB (enc num d x3))) w' ∧ w'.cell? ⟨g3, 0, none⟩ = some (.int .u8 (ld.toNat : Int)) ∧ Below w4.heap.size w4 w')
      (exact HFIN.out _ (by first | assumption | exact Below.refl _ _ | exact (Below.refl _ _).drew | exact Below.drew (by assumption)))
      (first
        | (go_at_call 13
           refine (made_any num _ _ _ _ x3 _ (by first | exact HD4.out | exact HD4.out.drew) (by omega)).mono ?_
           rintro e w5 ⟨rfl, hb5⟩
           have hb5' : Below w4.heap.size w4 w5 := ⟨hb5.os, hb5.tape, hb5.output, hb5.size, hb5.block⟩
           clear hb5)
        | (go_at_call 14
           refine (size_any ld.toNat hld x3 _).mono ?_
           rintro e w' ⟨rfl, rfl⟩
           rw [HSZ.out]))
    all_goals
      go_wp2
      go_ret
      exact ⟨rfl, (HB4.out.trans (Below.mono (by assumption) HB4.out.size))⟩

set_option maxRecDepth 100000 in
theorem lifted (os : Os) (started : os.Started) (H : Type) (enc : TypeId × Value → H) :
    ReturnsInHanded {} Try.checked os 3 .any (Rows.blockMakeSpec.pre6 enc Try.prog Try.f3 Rows.blockMakeRow.domain false) (Rows.blockMakeSpec.post enc Try.prog Try.f3 false true false false) := by
  refine returnsInHanded_of_change_sized (C := Try.checked) own started (by kernel_rfl) Try.func3
    (ChangeSpec.witness6 (enc := enc) (C := Try.checked) false ⟨#[], #[.slice none 0 0, .bool false, .int .u8 0, .bool false], []⟩ 8 (by kernel_rfl) (by kernel_rfl) (by kernel_rfl) (by kernel_rfl)) ?_
  intro W base args ds gs before hval0 hW hcnd hsz0 _
  have hsz : (DataW.weightsEach Try.prog (Try.f3.params.toList ++ Rows.blockMakeSpec.plain.varTypes Try.prog) (ds ++ gs)).all (· ≤ reachBytes) = true := hsz0
  clear hsz0
  have hval : ∀ (j : Nat) t v, Try.f3.params[j]? = some t → args[j]? = some v → Value.okWide Try.prog W .any base t v := hval0
  have hW' := hW
  obtain ⟨p, q, hA0, hV, rfl, hfz, hnd⟩ := hW
  have hA : DataW.TrodAll enc Try.prog W 0 (fun _ => true) true Try.f3.params.toList args.toList ds p := hA0
  rw [Try.params3] at hA hval hsz
  obtain ⟨v0, vs0, d0, ds0, p0, q0, hargs, rfl, rfl, h0, r0⟩ := trodAll_cons hA
  obtain ⟨v1, vs1, d1, ds1, p1, q1, rfl, rfl, rfl, h1, r1⟩ := trodAll_cons r0
  obtain ⟨v2, vs2, d2, ds2, p2, q2, rfl, rfl, rfl, h2, r2⟩ := trodAll_cons r1
  obtain ⟨v3, vs3, d3, ds3, p3, q3, rfl, rfl, rfl, h3, r3⟩ := trodAll_cons r2
  obtain ⟨rfl, rfl, rfl⟩ := trodAll_nil r3
  obtain rfl : args = #[v0, v1, v2, v3] := by cases args; simp_all
  obtain ⟨rfl, rfl⟩ := trodVars_none hV
  have k0 := h0
  have lt0 : ∀ x ∈ p0, x.block < W.heap.size := by obtain ⟨m, hm⟩ := k0; exact DataW.trod_lt m _ _ _ hm
  have k1 := h1
  have lt1 : ∀ x ∈ p1, x.block < W.heap.size := by obtain ⟨m, hm⟩ := k1; exact DataW.trod_lt m _ _ _ hm
  have k2 := h2
  have lt2 : ∀ x ∈ p2, x.block < W.heap.size := by obtain ⟨m, hm⟩ := k2; exact DataW.trod_lt m _ _ _ hm
  have k3 := h3
  have lt3 : ∀ x ∈ p3, x.block < W.heap.size := by obtain ⟨m, hm⟩ := k3; exact DataW.trod_lt m _ _ _ hm
  obtain ⟨a0, n0, c0, b0, rfl, w0, l0, s0⟩ := open_bys Try.underlying22 Try.underlying5 (by kernel_rfl) (by kernel_rfl) (hval 0 22 v0 rfl rfl) (fun _ => rfl) h0 (fun el sp hd => sized_slice hsz (j := 0) (t := 22) (e := 5) rfl (by rw [hd]; rfl) Try.underlying22)
  obtain ⟨x1, rfl, rfl, rfl⟩ := open_bool Try.underlying4 (hval 1 4 v1 rfl rfl) h1
  obtain ⟨x2, rfl, rfl, rfl, w2⟩ := open_int Try.underlying5 (hval 2 5 v2 rfl rfl) h2
  obtain ⟨x3, rfl, rfl, rfl⟩ := open_bool Try.underlying4 (hval 3 4 v3 rfl rfl) h3
  clear hA0 hval0
  refine (walk a0 n0 c0 b0 x1 x2 x3 W w0 l0 s0 (wf_u8 w2)).mono fun e W' ⟨he, bel⟩ => ?_
  subst he
  exact ⟨_, rfl, _, _, _, [], _, [], hW', trodAll_mk1 (shut_bool Try.underlying4 _), (trodAll_cons_mk (Below.trod laidOut (by kernel_rfl) (of_decide_eq_true (by kernel_rfl)) k0 bel lt0) (trodAll_cons_mk (Below.trod laidOut (by kernel_rfl) (of_decide_eq_true (by kernel_rfl)) k1 bel lt1) (trodAll_cons_mk (Below.trod laidOut (by kernel_rfl) (of_decide_eq_true (by kernel_rfl)) k2 bel lt2) (trodAll_cons_mk (Below.trod laidOut (by kernel_rfl) (of_decide_eq_true (by kernel_rfl)) k3 bel lt3) trodAll_mk0)))), rfl, bel.frame _, fun h => by cases h⟩

theorem over : Rows.blockMakeRow.holds Try.pinned (OpenSpec.ofChange Rows.blockMakeSpec) :=
  OpenClaim.holds_of_wide 3 Try.f3 rfl rfl rfl rfl rfl rfl rfl ⟨rfl, rfl, rfl, rfl, rfl⟩ rfl rfl rfl rfl rfl (by kernel_rfl) Try.func3 (by kernel_rfl)
    (of_decide_eq_true (by kernel_rfl)) (by unfold Func.isWrapper; first | (rw [if_pos (by decide +kernel)]; kernel_rfl) | (rw [if_neg (by decide +kernel)]; exact ⟨rfl, rfl⟩))
    (fun os started H enc _ => lifted os started H enc)

theorem proved : Rows.BlockMakeSaid := over
end Go.Proofs.Ytahlllkmjibbpaa.blockMake
