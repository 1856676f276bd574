/-
  'lifelinelaw11.ReceiverTurned' answers true for every input, and leaves its arguments as they were.
  Conditions: none but what the row itself says of its arguments (how much memory each may take).
-/
import Derived.Test.YtjdjbdedfohfbaaRows
import Derived.Test.YtjdjbdedfohfbaaReceiverLaw
import Derived.LoopTactic
import Derived.Deep.DeepCutAuto
import Derived.Deep.RegionWith
import Derived.Deep.DrawnRows
import Derived.Test.YtjdjbdedfohfbaaFrame
import Derived.WalkKit
import Derived.ProofKit
import Derived.OpenShut
import Derived.ShutString
import Derived.ChangeOld
import Derived.Below
namespace Go.Proofs.Ytjdjbdedfohfbaa.receiverTurned
open Go.ChangeShapes Go.WideShapes Go.ChangeAt Go.RowKit
open Go.ChangeMaps (open_string shut_string)
set_option linter.unusedVariables false

theorem own : ownKnob Try.prog.godebug = none := by kernel_rfl
theorem laidOut : laidOutB Try.prog = true := by kernel_rfl

theorem take_close (s : Rd) (num : UInt8) (d : List UInt8) (h : num = s.ex) : takeR true s num d = ([6], { s with da := s.da ++ d, ex := s.ex + 1, bl := s.bl - 1 }) := by
  unfold takeR
  rw [if_pos h]
  unfold finR
  rw [if_neg (fun e => by cases e.1)]
theorem cap_9_9 : capZ 9 9 = 9 := by decide
theorem cap_9_99 : capZ 9 99 = 9 := by decide
set_option maxRecDepth 100000 in
set_option maxHeartbeats 4000000 in
theorem walk (x0 : Int) (a1 : Option Addr) (n1 c1 : Nat) (b1 : List UInt8) (x2 : Bool) (x3 : Int) (x4 : Int) (w : World) (h0 : 0 ≤ x0 ∧ x0 ≤ 255) (h1 : Bys w w.heap.size a1 n1 b1) (l1 : n1 ≤ c1) (s1 : c1 ≤ 140737488351232) (h3 : 0 ≤ x3 ∧ x3 ≤ 65535) (h4 : 0 ≤ x4 ∧ x4 ≤ 255) :
    Calls Try.prog 5 #[.int .u8 x0, .slice a1 n1 c1, .bool x2, .int .u16 x3, .int .u8 x4] w fun e w' => e = .returned (.bool true) ∧ Below w.heap.size w w' := by
  obtain ⟨num, hnum⟩ : ∃ y : UInt8, x0 = (y.toNat : Int) := ⟨UInt8.ofNat x0.toNat, by rw [UInt8.toNat_ofNat', Nat.mod_eq_of_lt (by omega)]; omega⟩
  subst hnum
  obtain ⟨cut, rfl⟩ : ∃ m : Nat, x3 = (m : Int) := ⟨x3.toNat, by omega⟩
  obtain ⟨y, hy⟩ : ∃ y : UInt8, x4 = (y.toNat : Int) := ⟨UInt8.ofNat x4.toNat, by rw [UInt8.toNat_ofNat', Nat.mod_eq_of_lt (by omega)]; omega⟩
  subst hy
  obtain ⟨d, hd⟩ : ∃ d, dat b1 (longN false) = d := ⟨_, rfl⟩
  have hdl : d.length = 128 := by rw [← hd, dat_len]; rfl
  have hT := szT_pos x2
  obtain ⟨L, hL⟩ : ∃ L, 3 + 128 + szT x2 = L := ⟨_, rfl⟩
  have hLe : (enc num d x2).length = L := by rw [enc_len, hdl, hL]
  have hLn : L ≤ 2000 := by omega
  have hL0 : 0 < L := by omega
  obtain ⟨M, hM⟩ : ∃ M, M + 1 = L := ⟨L - 1, by omega⟩
  have hM0 : 0 < M := by omega
  have hLM : (L : Int) - 1 = (M : Int) := by omega
  obtain ⟨r, hr⟩ : ∃ r, cut % M = r := ⟨_, rfl⟩
  have hrM : r < M := by rw [← hr]; exact Nat.mod_lt _ hM0
  have hmod : (cut : Int).tmod (M : Int) = (r : Int) := by rw [← hr]; rfl
  have hmod2 : (cut : Int) % (M : Int) = (r : Int) := by rw [← hr]; rfl
  have hMz : ((M : Int) == 0) = false := by simp; omega
  obtain ⟨k, hk⟩ : ∃ k, 1 + r = k := ⟨_, rfl⟩
  have hkL : k < L := by omega
  have hk1 : 1 ≤ k := by omega
  have hki : 1 + (r : Int) = (k : Int) := by omega
  have hki2 : (r : Int) + 1 = (k : Int) := by omega
  obtain ⟨c, hc⟩ : ∃ c, (enc num d x2)[k]? = some c := ⟨_, List.getElem?_eq_getElem (by rw [hLe]; exact hkL)⟩
  obtain ⟨s0, hs0⟩ : ∃ s0, newR num 1 9 = s0 := ⟨_, rfl⟩
  have hbl0 : s0.bl = 1 := by rw [← hs0]; rfl
  have hda0 : s0.da = [] := by rw [← hs0]; rfl
  have hbu0 : s0.bu = [] := by rw [← hs0]; rfl
  have hov0 : s0.ov = false := by rw [← hs0]; rfl
  have hex0 : s0.ex = num := by rw [← hs0]; rfl
  have good : ∀ s : Rd, s.ov = false → s.bu = [] → s.ex = num → s.da = [] → ∃ s', putR x2 true 9 s (enc num d x2) = ([6], s') ∧ s'.da = d := fun s h1 h2 h3 h4 => by
    rw [put_block x2 true 9 s num d (.inl hdl) h1 h2]
    exact ⟨_, take_close _ num d h3.symm, by show s.da ++ d = d; rw [h4]; rfl⟩
  obtain ⟨xv, hxv⟩ : ∃ xv, c ^^^ y = xv := ⟨_, rfl⟩
  have hp1 : y = 0 → ∃ s', putR x2 true 9 s0 ((enc num d x2).set k xv) = ([6], s') ∧ s'.da = d := fun hy => by
    have e0 : xv = c := by rw [← hxv, hy]; simp
    rw [e0, show (enc num d x2).set k c = enc num d x2 by obtain ⟨p1, p2⟩ := parts_of hc c; rw [p2]; exact p1.symm]
    exact good s0 hov0 hbu0 hex0 hda0
  have hp2 : y ≠ 0 → putR x2 true 9 s0 ((enc num d x2).set k xv) = ([21], { s0 with tk := 9, bu := [] }) := fun hy => put_turned x2 true 9 s0 num d (.inl hdl) hov0 hbu0 k hk1 c xv hc (by rw [← hxv]; exact u8_xor_ne hy)
  have hp3 : ∃ s', putR x2 true 9 { s0 with tk := 9, bu := [] } (enc num d x2) = ([6], s') ∧ s'.da = d := good _ hov0 rfl hex0 hda0
  have HP1 := keepHid hp1
  have HP2 := keepHid hp2
  have HP3 := keepHid hp3
  have HBL0 := keepHid hbl0
  have HDA0 := keepHid hda0
  have HBU0 := keepHid hbu0
  have HAW := keepHid (awake11_any w)
  have HY := keepHid h1
  have HC := keepHid hc
  have HDL := keepHid hdl
  have HLE := keepHid hLe
  have HDT : Hid (∀ {G W : Nat} {O : Nat → Prop} {cl : Bool} {s : Rd} {w' : World}, RAt w G O x2 cl W s w' → Calls Try.prog 16 #[.slice a1 n1 c1, .bool false] w' fun e w'' => ∃ A c, e = .returned (.slice A 128 c) ∧ RAt w G O x2 cl W s w'' ∧ Lies w'' O A 128 d ∧ Below w'.heap.size w' w'') := keepHid (fun h => by
    refine (dat_at h a1 n1 c1 b1 false HY.out).mono ?_
    rintro e w'' ⟨A, c, rfl, k1, k2, k3, _⟩
    rw [hd, hdl] at k2 ⊢
    exact ⟨A, c, rfl, k1, k2, k3⟩)
  have HOF : Hid (∀ w', Below w.heap.size w w' → Calls Try.prog 8 #[.agg #[.int .i64 9, .int .i64 9], .int .u8 (num.toNat : Int), .bool x2, .bool true, .int .i64 1] w' fun e w'' => ∃ G, e = .returned (.pointer (some ⟨G, 0, none⟩)) ∧ ∃ O, RAt w G O x2 true 9 s0 w'') := keepHid (fun w' hb => by
    refine (of_at 9 9 num x2 true 1 w w' (by omega) hb).mono ?_
    rintro e w'' ⟨G, O, rfl, k1, _⟩
    rw [cap_9_9, cap_9_99, hs0] at k1
    exact ⟨G, rfl, O, k1⟩)
  have HMK : Hid (∀ {G W : Nat} {O : Nat → Prop} {cl : Bool} {s : Rd} {w' : World} (A : Option Addr) (c : Nat), RAt w G O x2 cl W s w' → Lies w' O A 128 d → Calls Try.prog 17 #[.agg #[.int .u8 (num.toNat : Int), .slice A 128 c], .bool x2] w' fun e w'' => ∃ A' c', e = .returned (.tuple #[.slice A' L c', .bool true]) ∧ RAt w G O x2 cl W s w'' ∧ Lies w'' O A' L (enc num d x2)) := keepHid (fun A c h hl => by
    refine (make_at' h num A 128 c d x2 (.inl rfl) hl).mono ?_
    rintro e w'' ⟨A', c', rfl, k1, k2, _⟩
    rw [hLe] at k2 ⊢
    exact ⟨A', c', rfl, k1, k2⟩)
  have hxor : bits .xor .u8 (c.toNat : Int) (y.toNat : Int) = (xv.toNat : Int) := by rw [xor8 rfl rfl (u8lt c) (u8lt y), ← hxv, UInt8.toNat_xor]
  have hsame := strB_same (xs := d) (bs := d) rfl
  clear hxv h0 h1 h4 l1 s1 hd hdl hLe hL hT hM hr hk hc hs0 hbl0 hda0 hbu0 hov0 hex0 good hp1 hp2 hp3
  go_enter Try.func5, Try.ntmps5
  go_wp2_with fail
  with_reducible refine HAW.out.mono ?_
  rintro e w1 ⟨rfl, hb1⟩
  have HB1 := keepHid hb1
  clear hb1
  go_wp2_with fail
  with_reducible refine (HOF.out _ HB1.out).mono ?_
  rintro e w2 ⟨G, rfl, O2, hs2⟩
  have HS2 := keepHid hs2
  clear hs2
  go_wp2_with fail
  with_reducible refine (HDT.out HS2.out).mono ?_
  rintro e w3 ⟨A3, c3, rfl, hs3, hl3, _⟩
  have HS3 := keepHid hs3
  have HL3 := keepHid hl3
  clear hs3 hl3
  go_wp2_with fail
  with_reducible refine (HMK.out A3 c3 HS3.out HL3.out).mono ?_
  rintro e w4 ⟨A4, c4, rfl, hs4, hl4⟩
  have HS4 := keepHid hs4
  have HL4 := keepHid hl4
  clear hs4 hl4
  go_wp2_with (at_builtin; go_loud (refine wpList_append_bytes _ rfl _ _ 31 rfl w4.heap.size 5 byteT (.slice none 0 0) 0 [] (by rfl) (OwnB.nil _ _ _) w4.heap.size A4 L c4 (enc num d x2) (by rfl) HL4.out.bys L (Nat.zero_add _) (by omega) (Nat.le_refl _) ?_))
  intro A5 c5 w5 q1 q2 q3 q4 q5
  obtain ⟨g, c6, hv, hg1, hg2, _, _⟩ := q1.some_form hL0
  obtain rfl : A5 = some ⟨g, 0, none⟩ := by injection hv
  clear hv
  have b5 : Below w4.heap.size w4 w5 := q2.below (fun i hi => by simp [Value.ownBlock] at hi) (Nat.le_refl _)
  have hcell : w5.cell? ⟨g, k, none⟩ = some (.int .u8 (c.toNat : Int)) := q1.cell HC.out
  have hfro : w5.frozen? ⟨g, k, none⟩ = false := q1.frozen k
  have t6 : Turn (fun i => i = g) w5 (w5.setCell ⟨g, k, none⟩ (.int .u8 (xv.toNat : Int))) := turnAt _ _ (Turn.refl _ _)
  have hOg : ∀ i, O2 i → i < g := fun i hi => Nat.lt_of_lt_of_le (HS4.out.lt i hi) hg1
  have hs6 := (HS4.out.below b5).turns t6 (fun i hi => ⟨fun hh => by have := hOg _ hh; omega, by have := HS4.out.bel.size; omega⟩)
  have hl6 : Lies (w5.setCell ⟨g, k, none⟩ (.int .u8 (xv.toNat : Int))) O2 A4 L (enc num d x2) := ⟨(((HL4.out.bys.below b5).more b5.size).turn t6 (Nat.le_refl _) (fun h0 ad ea hh => by
    obtain ⟨ad', _, ea', hlt, _⟩ := HL4.out.bys.at_ h0
    rw [ea] at ea'
    obtain rfl := Option.some.inj ea'
    omega)).more t6.size, HL4.out.ap⟩
  have hy6 : Lies (w5.setCell ⟨g, k, none⟩ (.int .u8 (xv.toNat : Int))) O2 (some ⟨g, 0, none⟩) L ((enc num d x2).set k xv) := ⟨(q1.stored k xv).bys (by omega), fun _ ad ea hh => by
    obtain rfl := Option.some.inj ea
    exact absurd (hOg _ hh) (Nat.lt_irrefl _)⟩
  have HPT := keepHid (put_at hs6 (some ⟨g, 0, none⟩) L c5 _ hy6 (by rw [HDA0.out]; simp) (by rw [HBL0.out]; omega) (by rw [HBU0.out]; simp; omega))
  have HL6 := keepHid hl6
  clear q1 q2 q3 q4 q5 b5 t6 hOg hs6 hl6 hy6 hg1 hg2
  by_cases hy0 : y = 0
  · obtain ⟨s7, e7, hda7⟩ := HP1.out hy0
    rw [e7] at HPT
    have HPT2 : Hid (Calls Try.prog 14 #[.pointer (some ⟨G, 0, none⟩), .slice (some ⟨g, 0, none⟩) L c5] (w5.setCell ⟨g, k, none⟩ (.int .u8 (xv.toNat : Int))) fun e w7 => ∃ A7 c7, e = .returned (.slice A7 1 c7) ∧ (convert 31 9 (.slice A7 1 c7)).run Try.prog w7 = .ok (.string ⟨#[6]⟩) w7 ∧
        Calls Try.prog 18 #[.pointer (some ⟨G, 0, none⟩)] w7 fun e w8 => ∃ A8 c8, e = .returned (.slice A8 128 c8) ∧ Below w.heap.size w w8) := keepHid (HPT.out.mono fun e w7 h => by
      obtain ⟨A7, c7, O7, rfl, k1, k2, _⟩ := h
      refine ⟨A7, c7, rfl, k2.str c7, (data_at k1 (by show s7.da.length ≤ _; rw [hda7, HDL.out]; omega)).mono ?_⟩
      rintro e w8 ⟨A8, c8, rfl, k3, _⟩
      exact ⟨A8, c8, by show Ending.returned (.slice A8 s7.da.length c8) = _; rw [hda7, HDL.out], k3.bel⟩)
    have hyz : ((y.toNat : Int) == 0) = true := by rw [hy0]; rfl
    clear HPT e7 hda7 hy0
    go_wp2_with fail
    with_reducible refine HPT2.out.mono ?_
    rintro e w7 ⟨A7, c7, rfl, cv7, hdt⟩
    have HDA := keepHid hdt
    clear hdt
    go_wp2_with fail
    with_reducible refine HDA.out.mono ?_
    rintro e w8 ⟨A8, c8, rfl, hb8⟩
    have HB8 := keepHid hb8
    clear hb8
    go_wp2
    go_ret
    exact ⟨rfl, HB8.out⟩
  · have e7 := HP2.out hy0
    rw [e7] at HPT
    obtain ⟨s8, e8, hda8⟩ := HP3.out
    have HPT2 : Hid (Calls Try.prog 14 #[.pointer (some ⟨G, 0, none⟩), .slice (some ⟨g, 0, none⟩) L c5] (w5.setCell ⟨g, k, none⟩ (.int .u8 (xv.toNat : Int))) fun e w7 => ∃ A7 c7, e = .returned (.slice A7 1 c7) ∧
        Calls Try.prog 14 #[.pointer (some ⟨G, 0, none⟩), .slice A4 L c4] w7 fun e w8 => ∃ A8 c8 O8, e = .returned (.slice A8 1 c8) ∧ Lies w8 O8 A7 1 [21] ∧ Lies w8 O8 A8 1 [6] ∧ RAt w G O8 x2 true 9 s8 w8) := keepHid (HPT.out.mono fun e w7 h => by
      obtain ⟨A7, c7, O7, rfl, k1, k2, k3, _⟩ := h
      refine ⟨A7, c7, rfl, (put_at k1 A4 L c4 _ (k3 _ _ _ HL6.out) (by show s0.da.length ≤ _; rw [HDA0.out]; simp) (by show _ ≤ s0.bl; rw [HBL0.out]; omega) (by show 0 + L ≤ _; omega)).mono ?_⟩
      intro e w8 h8
      rw [e8] at h8
      obtain ⟨A8, c8, O8, rfl, j1, j2, j3, _⟩ := h8
      exact ⟨A8, c8, O8, rfl, j3 _ _ _ k2, j2, j1⟩)
    have hyz : ((y.toNat : Int) == 0) = false := by
      have : y.toNat ≠ 0 := fun e => hy0 (UInt8.toNat_inj.1 (by simpa using e))
      simp; omega
    have HDA8 := keepHid hda8
    clear HPT e7 e8 hda8 hy0
    go_wp2_with fail
    with_reducible refine HPT2.out.mono ?_
    rintro e w7 ⟨A7, c7, rfl, hpt⟩
    have HPT3 := keepHid hpt
    clear hpt hcell hfro
    go_wp2_with fail
    with_reducible refine HPT3.out.mono ?_
    rintro e w8 ⟨A8, c8, O8, rfl, hl7, hl8, hs8⟩
    have cv7 : (convert 31 9 (.slice A7 1 c7)).run Try.prog w8.drew = .ok (.string ⟨#[21]⟩) w8.drew := hl7.drew.str c7
    have cv8 : (convert 31 9 (.slice A8 1 c8)).run Try.prog w8.drew = .ok (.string ⟨#[6]⟩) w8.drew := hl8.drew.str c8
    have HS8 := keepHid hs8.drew
    have HDA : Hid (∀ w', RAt w G O8 x2 true 9 s8 w' → Calls Try.prog 18 #[.pointer (some ⟨G, 0, none⟩)] w' fun e w'' => ∃ A c, e = .returned (.slice A 128 c) ∧ RAt w G O8 x2 true 9 s8 w'' ∧ Lies w'' O8 A 128 d ∧ Below w'.heap.size w' w'') := keepHid (fun w' h => by
      have hl : s8.da.length = 128 := by rw [HDA8.out, HDL.out]
      refine (data_at h (by omega)).mono ?_
      rintro e w'' ⟨A, c, rfl, k1, k2, k3, _⟩
      rw [hl, HDA8.out] at k2
      rw [hl]
      exact ⟨A, c, rfl, k1, k2, k3⟩)
    clear hl7 hl8 hs8
    go_wp2_with fail
    go_region_with (first
      | (go_at_call 18; (with_reducible refine (HDA.out _ (by first | exact HS8.out | exact HSX.out)).mono ?_); rintro e wa ⟨AA, cA, rfl, ha1, ha2, ha3⟩; have HSX := keepHid ha1; have cvA := ha2.str cA; have HLX := keepHid ha2; try (have cvB2 := (HLY.out.below ha3).str cB); clear ha1 ha2 ha3)
      | (go_at_call 16; (with_reducible refine (HDT.out (w' := _) (by first | exact HS8.out | exact HSX.out)).mono ?_); rintro e wb ⟨AB, cB, rfl, hb1, hb2, hb3⟩; have HSX := keepHid hb1; have cvB := hb2.str cB; have HLY := keepHid hb2; try (have cvA2 := (HLX.out.below hb3).str cA); clear hb1 hb2 hb3))
    all_goals
      go_wp2
      go_ret
      exact ⟨rfl, HSX.out.bel⟩

set_option maxRecDepth 100000 in
theorem lifted (os : Os) (started : os.Started) (H : Type) (enc : TypeId × Value → H) :
    ReturnsInHanded {} Try.checked os 5 .any (Rows.receiverTurnedSpec.pre6 enc Try.prog Try.f5 Rows.receiverTurnedRow.domain false) (Rows.receiverTurnedSpec.post enc Try.prog Try.f5 false true false false) := by
  refine returnsInHanded_of_change_sized (C := Try.checked) own started (by kernel_rfl) Try.func5
    (ChangeSpec.witness6 (enc := enc) (C := Try.checked) false ⟨#[], #[.int .u8 0, .slice none 0 0, .bool false, .int .u16 0, .int .u8 0], []⟩ 8 (by kernel_rfl) (by kernel_rfl) (by kernel_rfl) (by kernel_rfl)) ?_
  intro W base args ds gs before hval0 hW hcnd hsz0 _
  have hsz : (DataW.weightsEach Try.prog (Try.f5.params.toList ++ Rows.receiverTurnedSpec.plain.varTypes Try.prog) (ds ++ gs)).all (· ≤ reachBytes) = true := hsz0
  clear hsz0
  have hval : ∀ (j : Nat) t v, Try.f5.params[j]? = some t → args[j]? = some v → Value.okWide Try.prog W .any base t v := hval0
  have hW' := hW
  obtain ⟨p, q, hA0, hV, rfl, hfz, hnd⟩ := hW
  have hA : DataW.TrodAll enc Try.prog W 0 (fun _ => true) true Try.f5.params.toList args.toList ds p := hA0
  rw [Try.params5] at hA hval hsz
  obtain ⟨v0, vs0, d0, ds0, p0, q0, hargs, rfl, rfl, h0, r0⟩ := trodAll_cons hA
  obtain ⟨v1, vs1, d1, ds1, p1, q1, rfl, rfl, rfl, h1, r1⟩ := trodAll_cons r0
  obtain ⟨v2, vs2, d2, ds2, p2, q2, rfl, rfl, rfl, h2, r2⟩ := trodAll_cons r1
  obtain ⟨v3, vs3, d3, ds3, p3, q3, rfl, rfl, rfl, h3, r3⟩ := trodAll_cons r2
  obtain ⟨v4, vs4, d4, ds4, p4, q4, rfl, rfl, rfl, h4, r4⟩ := trodAll_cons r3
  obtain ⟨rfl, rfl, rfl⟩ := trodAll_nil r4
  obtain rfl : args = #[v0, v1, v2, v3, v4] := by cases args; simp_all
  obtain ⟨rfl, rfl⟩ := trodVars_none hV
  have k0 := h0
  have lt0 : ∀ x ∈ p0, x.block < W.heap.size := by obtain ⟨m, hm⟩ := k0; exact DataW.trod_lt m _ _ _ hm
  have k1 := h1
  have lt1 : ∀ x ∈ p1, x.block < W.heap.size := by obtain ⟨m, hm⟩ := k1; exact DataW.trod_lt m _ _ _ hm
  have k2 := h2
  have lt2 : ∀ x ∈ p2, x.block < W.heap.size := by obtain ⟨m, hm⟩ := k2; exact DataW.trod_lt m _ _ _ hm
  have k3 := h3
  have lt3 : ∀ x ∈ p3, x.block < W.heap.size := by obtain ⟨m, hm⟩ := k3; exact DataW.trod_lt m _ _ _ hm
  have k4 := h4
  have lt4 : ∀ x ∈ p4, x.block < W.heap.size := by obtain ⟨m, hm⟩ := k4; exact DataW.trod_lt m _ _ _ hm
  obtain ⟨x0, rfl, rfl, rfl, w0⟩ := open_int Try.underlying5 (hval 0 5 v0 rfl rfl) h0
  obtain ⟨a1, n1, c1, b1, rfl, w1, l1, s1⟩ := open_bys Try.underlying31 Try.underlying5 (by kernel_rfl) (by kernel_rfl) (hval 1 31 v1 rfl rfl) (fun _ => rfl) h1 (fun el sp hd => sized_slice hsz (j := 1) (t := 31) (e := 5) rfl (by rw [hd]; rfl) Try.underlying31)
  obtain ⟨x2, rfl, rfl, rfl⟩ := open_bool Try.underlying4 (hval 2 4 v2 rfl rfl) h2
  obtain ⟨x3, rfl, rfl, rfl, w3⟩ := open_int Try.underlying32 (hval 3 32 v3 rfl rfl) h3
  obtain ⟨x4, rfl, rfl, rfl, w4⟩ := open_int Try.underlying5 (hval 4 5 v4 rfl rfl) h4
  clear hA0 hval0
  refine (walk x0 a1 n1 c1 b1 x2 x3 x4 W (wf_u8 w0) w1 l1 s1 (wf_u16 w3) (wf_u8 w4)).mono fun e W' ⟨he, bel⟩ => ?_
  subst he
  exact ⟨_, rfl, _, _, _, [], _, [], hW', trodAll_mk1 (shut_bool Try.underlying4 _), (trodAll_cons_mk (Below.trod laidOut (by kernel_rfl) (of_decide_eq_true (by kernel_rfl)) k0 bel lt0) (trodAll_cons_mk (Below.trod laidOut (by kernel_rfl) (of_decide_eq_true (by kernel_rfl)) k1 bel lt1) (trodAll_cons_mk (Below.trod laidOut (by kernel_rfl) (of_decide_eq_true (by kernel_rfl)) k2 bel lt2) (trodAll_cons_mk (Below.trod laidOut (by kernel_rfl) (of_decide_eq_true (by kernel_rfl)) k3 bel lt3) (trodAll_cons_mk (Below.trod laidOut (by kernel_rfl) (of_decide_eq_true (by kernel_rfl)) k4 bel lt4) trodAll_mk0))))), rfl, bel.frame _, fun h => by cases h⟩

theorem over : Rows.receiverTurnedRow.holds Try.pinned (OpenSpec.ofChange Rows.receiverTurnedSpec) :=
  OpenClaim.holds_of_wide 5 Try.f5 rfl rfl rfl rfl rfl rfl rfl ⟨rfl, rfl, rfl, rfl, rfl⟩ rfl rfl rfl rfl rfl (by kernel_rfl) Try.func5 (by kernel_rfl)
    (of_decide_eq_true (by kernel_rfl)) (by unfold Func.isWrapper; first | (rw [if_pos (by decide +kernel)]; kernel_rfl) | (rw [if_neg (by decide +kernel)]; exact ⟨rfl, rfl⟩))
    (fun os started H enc _ => lifted os started H enc)

theorem proved : Rows.ReceiverTurnedSaid := over
end Go.Proofs.Ytjdjbdedfohfbaa.receiverTurned
