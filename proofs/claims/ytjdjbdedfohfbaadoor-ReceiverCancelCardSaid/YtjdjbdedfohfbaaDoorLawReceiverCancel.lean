/-
  'lifelinelaw11.ReceiverCancel' answers true for every input of the row, and leaves its arguments as they were.
  Conditions: the package-level variables that the row lists lie as the program's own text lays them (the card ties them to it; what is pinned is a constant of the library's).
-/
import Derived.Test.YtjdjbdedfohfbaaDoorRows
import Derived.Test.YtjdjbdedfohfbaaDoorReceiverLaw
import Derived.Test.YtjdjbdedfohfbaaDoorFrameTwo
import Derived.LoopTactic
import Derived.Deep.DeepCutAuto
import Derived.Deep.RegionWith
import Derived.Deep.DrawnRows
import Derived.Test.YtjdjbdedfohfbaaDoorFrame
import Derived.Test.YtjdjbdedfohfbaaDoorFrameRegex
import Derived.Test.YtjdjbdedfohfbaaDoorCards
import Derived.WalkKit
import Derived.ProofKit
import Derived.OpenShut
import Derived.ShutString
import Derived.ChangeOld
import Derived.Below
namespace Go.Proofs.YtjdjbdedfohfbaaDoor.receiverCancel
open Go.ChangeShapes Go.WideShapes Go.ChangeAt Go.RowKit
open Go.ChangeMaps (open_string shut_string)
set_option linter.unusedVariables false

theorem own : ownKnob Tryd.prog.godebug = none := by kernel_rfl
theorem laidOut : laidOutB Tryd.prog = true := by kernel_rfl

/-- The receiver behind k blocks. -/
structure Cn (num : UInt8) (k : Nat) (s : Rd) : Prop where
  bu : s.bu = []
  ov : s.ov = false
  er : s.er = 0
  ex : s.ex = num + UInt8.ofNat k
  bl : s.bl = 1 - (k : Int)
  da : s.da.length = 128 * k
theorem cn_put {num : UInt8} {k : Nat} {s : Rd} (h : Cn num k s) (W : Nat) (nk : UInt8) (hnk : nk = num + UInt8.ofNat k) (d : List UInt8) (hd : d.length = 128) : ∃ s', putR true true W s (enc nk d true) = ([6], s') ∧ Cn num (k + 1) s' := by
  have hex : nk = s.ex := by rw [hnk, h.ex]
  have e := put_block true true W s nk d (.inl hd) h.ov h.bu
  have e2 : takeR true { s with tk := W, bu := [] } nk d = ([6], { s with tk := W, bu := [], da := s.da ++ d, ex := s.ex + 1, bl := s.bl - 1 }) := by
    unfold takeR
    rw [if_pos (by exact hex)]
    unfold finR
    rw [if_neg (fun e => by cases e.1)]
  refine ⟨_, e.trans e2, rfl, h.ov, h.er, ?_, ?_, ?_⟩
  · show s.ex + 1 = num + UInt8.ofNat (k + 1)
    rw [h.ex, UInt8.ofNat_add, ← UInt8.add_assoc]
    rfl
  · show s.bl - 1 = 1 - ((k + 1 : Nat) : Int)
    rw [h.bl]; omega
  · show (s.da ++ d).length = _
    rw [List.length_append, h.da, hd]; omega
theorem can_one (W : Nat) (s : Rd) (h : s.ov = false) (hb : s.bu = []) : putR true true W s [24] = ([], { s with tk := W, bu := [24] }) := by
  unfold putR
  rw [if_neg (by rw [h]; simp), hb]
  rfl
theorem can_two (W : Nat) (s : Rd) (h : s.ov = false) (hb : s.bu = [24]) : putR true true W s [24] = ([], stopR { s with tk := W, bu := [24, 24] } 9) := by
  unfold putR
  rw [if_neg (by rw [h]; simp), hb]
  rfl
theorem over_put (crc cl : Bool) (W : Nat) (s : Rd) (b : List UInt8) (h : s.ov = true) : putR crc cl W s b = ([], s) := by
  unfold putR
  rw [if_pos (.inl h)]
theorem over_tick (crc : Bool) (W : Nat) (s : Rd) (h : s.ov = true) : tickR crc W s = ([], s) := by
  unfold tickR
  rw [if_pos h]
theorem RAt.errT {w0 w : World} {G W : Nat} {O : Nat → Prop} {crc cl : Bool} {s : Rd} (h : RAt w0 G O crc cl W s w) (ht : ErrT w0) : ErrT w := ht.below h.bel ht.pos
theorem cap_9_99 : capZ 9 99 = 9 := by decide
set_option maxRecDepth 100000 in
set_option maxHeartbeats 4000000 in
theorem walk (y0 z0 : Int) (x1 : Int) (a2 : Option Addr) (n2 c2 : Nat) (b2 : List UInt8) (x3 : Int) (w : World) (hT : ErrT w) (h0 : -9223372036854775808 ≤ y0 ∧ y0 ≤ 9223372036854775807) (g0 : -9223372036854775808 ≤ z0 ∧ z0 ≤ 9223372036854775807) (h1 : 0 ≤ x1 ∧ x1 ≤ 255) (h2 : Bys w w.heap.size a2 n2 b2) (l2 : n2 ≤ c2) (s2 : c2 ≤ 140737488351232) (h3 : 0 ≤ x3 ∧ x3 ≤ 255) :
    Calls Tryd.prog 4 #[.agg #[.int .i64 y0, .int .i64 z0], .int .u8 x1, .slice a2 n2 c2, .int .u8 x3] w fun e w' => e = .returned (.bool true) ∧ Below w.heap.size w w' := by
  have hET := hT
  clear hT
  obtain ⟨num, hnum⟩ : ∃ y : UInt8, x1 = (y.toNat : Int) := ⟨UInt8.ofNat x1.toNat, by rw [UInt8.toNat_ofNat', Nat.mod_eq_of_lt (by omega)]; omega⟩
  subst hnum
  obtain ⟨m, hm, hm4⟩ : ∃ m : Nat, x3.tmod 5 = (m : Int) ∧ m ≤ 4 := ⟨(x3.tmod 5).toNat, by rw [Int.tmod_eq_emod_of_nonneg (by omega)]; omega⟩
  have hm4i : (m : Int) ≤ 4 := by omega
  have HY := keepHid h2
  obtain ⟨d, hd⟩ : ∃ d, dat b2 (longN false) = d := ⟨_, rfl⟩
  have hdl : d.length = 128 := by rw [← hd, dat_len]; rfl
  have HDL := keepHid hdl
  have HET := keepHid hET
  have HOF : Hid (∀ w', Below w.heap.size w w' → Calls Tryd.prog 6 #[.agg #[.int .i64 y0, .int .i64 9], .int .u8 (num.toNat : Int), .bool true, .bool true, .int .i64 1] w' fun e w'' => ∃ G O s, e = .returned (.pointer (some ⟨G, 0, none⟩)) ∧ RAt w G O true true 9 s w'' ∧ Cn num 0 s) := keepHid (fun w' hb => by
    refine (of_at y0 9 num true true 1 w w' (by omega) hb).mono ?_
    rintro e w'' ⟨G, O, rfl, k1, k2⟩
    rw [cap_9_99] at k1
    exact ⟨G, O, _, rfl, k1, ⟨rfl, rfl, rfl, (UInt8.toNat_inj.1 (by simp [newR])), rfl, by simp [newR]⟩⟩)
  have HDT : Hid (∀ {G W : Nat} {O : Nat → Prop} {s : Rd} {w' : World}, RAt w G O true true W s w' → Calls Tryd.prog 12 #[.slice a2 n2 c2, .bool false] w' fun e w'' => ∃ A c, e = .returned (.slice A 128 c) ∧ RAt w G O true true W s w'' ∧ Lies w'' O A 128 d) := keepHid (fun h => by
    refine (dat_at h a2 n2 c2 b2 false HY.out).mono ?_
    rintro e w'' ⟨A, c, rfl, k1, k2, k3, _⟩
    rw [hd, hdl] at k2 ⊢
    exact ⟨A, c, rfl, k1, k2⟩)
  obtain ⟨wc, hwc⟩ : ∃ wc, w.alloc (.cells #[.int .i64 y0, .int .i64 z0] 23) = wc := ⟨_, rfl⟩
  have hbc : Below w.heap.size w wc := by rw [← hwc]; exact (Below.refl _ _).alloc (Nat.le_refl _) _
  have hkc : Blk wc w.heap.size 23 #[.int .i64 y0, .int .i64 z0] := by rw [← hwc]; exact Blk.new w _ _
  have HAW : Hid (Calls Tryd.prog 5 #[] wc fun e w' => e = .returned (.bool true) ∧ Below wc.heap.size wc w') := keepHid (awake11_any wc)
  have HBC := keepHid hbc
  have HKC := keepHid hkc
  clear h0 g0 h1 h2 l2 s2 hd hdl hET hbc hkc
  go_enter Tryd.func4, Tryd.ntmps4
  go_wp2_with fail
  with_reducible refine HAW.out.mono ?_
  rintro e w1 ⟨rfl, hb1⟩
  have hk1 := HKC.out.below hb1 HKC.out.lt
  have d0 : w1.cell? ⟨w.heap.size, 0, none⟩ = some (.int .i64 y0) := hk1.cell 0
  have HB1 := keepHid (HBC.out.trans (hb1.mono HBC.out.size))
  clear hk1 hb1 hwc
  go_wp2_with fail
  with_reducible refine (HOF.out _ HB1.out).mono ?_
  rintro e w3 ⟨G, O3, s3, rfl, hs3, ha3⟩
  have HS3 := keepHid hs3
  have HA3 := keepHid ha3
  clear hs3 ha3 d0 HOF HAW
  go_wp2_with fail
  go_loopw [11] (fun kv wr => ∃ (k : Nat) (O : Nat → Prop) (s : Rd), k ≤ m ∧ kv = .int .i64 k ∧ RAt w G O true true 9 s wr ∧ Cn num k s) (fun kv _ => m - (intOf kv).toNat)
  case atStart => exact ⟨0, O3, s3, Nat.zero_le _, rfl, HS3.out, HA3.out⟩
  case round =>
    obtain ⟨k, O, s, hk, rfl, hs, hc⟩ := hrel
    rcases Nat.lt_or_ge k m with hlt | hge
    · have HDT2 := keepHid (HDT.out hs)
      have i1 : (k : Int) < (m : Int) := by omega
      obtain ⟨nk, hnk⟩ : ∃ nk, num + UInt8.ofNat k = nk := ⟨_, rfl⟩
      have hnki : ((num.toNat : Int) + (k : Int)) % 256 = (nk.toNat : Int) := by
        rw [← hnk, UInt8.toNat_add, UInt8.toNat_ofNat']
        simp
      have hki : IntKind.u8.wrap (k : Int) = (k : Int) := by show (k : Int) % 256 = _; omega
      have hki2 : (k : Int) % 256 = (k : Int) := by omega
      have hnki2 : IntKind.u8.wrap ((num.toNat : Int) + (k : Int)) = (nk.toNat : Int) := hnki
      have HC := keepHid hc
      have HNK := keepHid hnk
      clear hs hc hnk
      go_wp2_with fail
      with_reducible refine HDT2.out.mono ?_
      rintro e w4 ⟨A4, c4, rfl, hs4, hl4⟩
      have HMK : Hid (Calls Tryd.prog 11 #[.agg #[.int .u8 (nk.toNat : Int), .slice A4 128 c4], .bool true] w4 fun e w5 => ∃ A5 L5 c5, e = .returned (.tuple #[.slice A5 L5 c5, .bool true]) ∧
          Calls Tryd.prog 13 #[.pointer (some ⟨G, 0, none⟩), .slice A5 L5 c5] w5 fun e w6 => ∃ A6 L6 c6, e = .returned (.slice A6 L6 c6) ∧ ∃ O6 s6, RAt w G O6 true true 9 s6 w6 ∧ Cn num (k + 1) s6) := keepHid (by
        refine (make_at' hs4 nk A4 128 c4 d true (.inl rfl) hl4).mono ?_
        rintro e w5 ⟨A5, c5, rfl, hs5, hl5, _, h51, h52⟩
        have hle := enc_len nk d true
        have hszT := szT_pos true
        have hdl := HDL.out
        have hda := HC.out.da
        have hbl := HC.out.bl
        refine ⟨A5, _, c5, rfl, (put_at hs5 A5 _ c5 _ hl5 (by omega) (by rw [hbl]; omega) (by rw [HC.out.bu]; simp; omega)).mono ?_⟩
        intro e w6 hp
        obtain ⟨s6, e6, hm6⟩ := cn_put HC.out 9 nk HNK.out.symm d hdl
        rw [e6] at hp
        obtain ⟨A6, c6, O6, rfl, k1, k2, _⟩ := hp
        exact ⟨A6, _, c6, rfl, O6, s6, k1, hm6⟩)
      clear hs4 hl4
      go_wp2_with fail
      with_reducible refine HMK.out.mono ?_
      rintro e w5 ⟨A5, L5, c5, rfl, hpt⟩
      have HPT := keepHid hpt
      clear hpt
      go_wp2_with fail
      with_reducible refine HPT.out.mono ?_
      rintro e w6 ⟨A6, L6, c6, rfl, O6, s6, hs6, hm6⟩
      have HS6 := keepHid hs6
      have HM6 := keepHid hm6
      clear hs6 hm6
      go_wp2
      go_roundw
      case rel => exact ⟨k + 1, O6, s6, by omega, by go_num, HS6.out, HM6.out⟩
      case measure => simp [intOf]; omega
    · obtain rfl : k = m := by omega
      obtain ⟨L, hL⟩ : ∃ L, 128 * k = L := ⟨_, rfl⟩
      have q1 : 128 * (k : Int) = (L : Int) := by omega
      have HFIN : Hid (Calls Tryd.prog 13 #[.pointer (some ⟨G, 0, none⟩), .slice (some ⟨wr.heap.size, 0, none⟩) 1 1] (wr.alloc (.cells #[.int .u8 24] 5)) fun e w5 => ∃ A5 c5, e = .returned (.slice A5 0 c5) ∧
          Calls Tryd.prog 13 #[.pointer (some ⟨G, 0, none⟩), .slice (some ⟨w5.heap.size, 0, none⟩) 1 1] (w5.alloc (.cells #[.int .u8 24] 5)) fun e w6 => ∃ A6 c6, e = .returned (.slice A6 0 c6) ∧
            Calls Tryd.prog 8 #[.pointer (some ⟨G, 0, none⟩)] w6 fun e w7 => e = .returned (.tuple #[.bool true, .iface 33 (.int .i64 9)]) ∧
              Calls Tryd.prog 9 #[.iface 33 (.int .i64 9)] w7 fun e w8 => e = .returned (.int .i64 9) ∧
                Calls Tryd.prog 10 #[.pointer (some ⟨G, 0, none⟩)] w8 fun e w9 => ∃ A9 c9, e = .returned (.slice A9 L c9) ∧
                  Calls Tryd.prog 13 #[.pointer (some ⟨G, 0, none⟩), .slice (some ⟨w9.heap.size, 0, none⟩) 1 1] (w9.alloc (.cells #[.int .u8 4] 5)) fun e w10 => ∃ A10 c10, e = .returned (.slice A10 0 c10) ∧
                    Calls Tryd.prog 7 #[.pointer (some ⟨G, 0, none⟩)] w10 fun e w11 => ∃ A11 c11, e = .returned (.slice A11 0 c11) ∧ Below w.heap.size w w11) := keepHid (by
        have hda := hc.da
        have hbl := hc.bl
        have p5 := put_at (hs.alloc (.cells #[.int .u8 24] 5)) _ 1 1 _ (hs.lit [24] 1 rfl (by omega) #[.int .u8 24] rfl wr.heap.size rfl) (by omega) (by rw [hbl]; omega) (by rw [hc.bu]; simp)
        rw [can_one 9 s hc.ov hc.bu] at p5
        refine p5.mono ?_
        rintro e w5 ⟨A5, c5, O5, rfl, hs5, _⟩
        refine ⟨A5, c5, rfl, ?_⟩
        have p6 := put_at (hs5.alloc (.cells #[.int .u8 24] 5)) _ 1 1 _ (hs5.lit [24] 1 rfl (by omega) #[.int .u8 24] rfl w5.heap.size rfl) (by show s.da.length ≤ _; omega) (by show _ ≤ s.bl; rw [hbl]; omega) (by show 1 + 1 ≤ _; omega)
        rw [can_two 9 ({ s with tk := 9, bu := [24] }) hc.ov rfl] at p6
        refine p6.mono ?_
        rintro e w6 ⟨A6, c6, O6, rfl, hs6, _⟩
        refine ⟨A6, c6, rfl, (done_at hs6).mono ?_⟩
        rintro e w7 ⟨rfl, rfl⟩
        refine ⟨rfl, (number_e 9 w6.drew (RAt.errT hs6.drew HET.out)).mono ?_⟩
        rintro e w8 ⟨rfl, hb8⟩
        have hs8 := hs6.drew.below hb8
        refine ⟨rfl, (data_at hs8 (by show s.da.length ≤ _; omega)).mono ?_⟩
        rintro e w9 ⟨A9, c9, rfl, hs9, _⟩
        refine ⟨A9, c9, by show _ = Ending.returned (.slice A9 L c9); rw [← hL, ← hda]; rfl, ?_⟩
        have p10 := put_at (hs9.alloc (.cells #[.int .u8 4] 5)) _ 1 1 _ (hs9.lit [4] 1 rfl (by omega) #[.int .u8 4] rfl w9.heap.size rfl) (by show s.da.length ≤ _; omega) (by show _ ≤ s.bl; rw [hbl]; omega) (by show 0 + 1 ≤ _; omega)
        rw [over_put true true 9 _ _ rfl] at p10
        refine p10.mono ?_
        rintro e w10 ⟨A10, c10, O10, rfl, hs10, _⟩
        have p11 := tick_at hs10
        rw [over_tick true 9 _ rfl] at p11
        refine ⟨A10, c10, rfl, p11.mono ?_⟩
        rintro e w11 ⟨A11, c11, O11, rfl, hs11, _⟩
        exact ⟨A11, c11, rfl, hs11.bel⟩)
      clear hs hc hL
      go_wp2_with fail
      with_reducible refine HFIN.out.mono ?_
      rintro e w5 ⟨A5, c5, rfl, hq⟩
      have HQ5 := keepHid hq
      clear hq HFIN
      go_wp2_with fail
      with_reducible refine HQ5.out.mono ?_
      rintro e w6 ⟨A6, c6, rfl, hq⟩
      have HQ6 := keepHid hq
      clear hq HQ5
      go_wp2_with fail
      with_reducible refine HQ6.out.mono ?_
      rintro e w7 ⟨rfl, hq⟩
      have HQ7 := keepHid hq
      clear hq HQ6
      go_wp2_with fail
      with_reducible refine HQ7.out.mono ?_
      rintro e w8 ⟨rfl, hq⟩
      have HQ8 := keepHid hq
      clear hq HQ7
      go_wp2_with fail
      with_reducible refine HQ8.out.mono ?_
      rintro e w9 ⟨A9, c9, rfl, hq⟩
      have HQ9 := keepHid hq
      clear hq HQ8
      go_wp2_with fail
      with_reducible refine HQ9.out.mono ?_
      rintro e w10 ⟨A10, c10, rfl, hq⟩
      have HQ10 := keepHid hq
      clear hq HQ9
      go_wp2_with fail
      with_reducible refine HQ10.out.mono ?_
      rintro e w11 ⟨A11, c11, rfl, hb11⟩
      have HB11 := keepHid hb11
      clear hb11 HQ10
      go_wp2
      go_ret
      exact ⟨rfl, HB11.out⟩

set_option maxRecDepth 100000 in
theorem lifted (os : Os) (started : os.Started) (H : Type) (enc : TypeId × Value → H) :
    ReturnsInHanded {} Tryd.checked os 4 .any (fun w args => (Rows.receiverCancelSpec.pre enc Tryd.prog Tryd.f4 [] false w args ∧ laidMetH Tryd.prog laidR w) ∧ sizedMet enc Tryd.prog Tryd.f4 (OpenSpec.ofChange Rows.receiverCancelSpec) false w args) (Rows.receiverCancelSpec.post enc Tryd.prog Tryd.f4 false true false false) := by
  refine returnsInHanded_of_change_and (C := Tryd.checked) (X := fun w _ => laidMetH Tryd.prog laidR w) (fun _ _ _ hh h => h.of_heap hh) own started (by kernel_rfl) Tryd.func4
    (ChangeSpec.witness_shaped (enc := enc) (C := Tryd.checked) (os := os) (X := fun w _ => laidMetH Tryd.prog laidR w) false (World.doorLaid Tryd.prog 400 os) #[.agg #[.int .i64 0, .int .i64 0], .int .u8 0, .slice none 0 0, .int .u8 0] 8 rfl (World.shaped_of_RefB (by kernel_rfl) (by kernel_rfl)) (by kernel_rfl) (by kernel_rfl) (by kernel_rfl) (doorR os _)) ?_
  intro W base args ds gs before hval0 hW hcnd hsz0 hL _
  have hsz : (DataW.weightsEach Tryd.prog (Tryd.f4.params.toList ++ Rows.receiverCancelSpec.plain.varTypes Tryd.prog) (ds ++ gs)).all (· ≤ reachBytes) = true := hsz0
  clear hsz0
  have hval : ∀ (j : Nat) t v, Tryd.f4.params[j]? = some t → args[j]? = some v → Value.okWide Tryd.prog W .any base t v := hval0
  have hW' := hW
  obtain ⟨p, q, hA0, hV, rfl, hfz, hnd⟩ := hW
  have hA : DataW.TrodAll enc Tryd.prog W 0 (fun _ => true) true Tryd.f4.params.toList args.toList ds p := hA0
  rw [Tryd.params4] at hA hval hsz
  obtain ⟨v0, vs0, d0, ds0, p0, q0, hargs, rfl, rfl, h0, r0⟩ := trodAll_cons hA
  obtain ⟨v1, vs1, d1, ds1, p1, q1, rfl, rfl, rfl, h1, r1⟩ := trodAll_cons r0
  obtain ⟨v2, vs2, d2, ds2, p2, q2, rfl, rfl, rfl, h2, r2⟩ := trodAll_cons r1
  obtain ⟨v3, vs3, d3, ds3, p3, q3, rfl, rfl, rfl, h3, r3⟩ := trodAll_cons r2
  obtain ⟨rfl, rfl, rfl⟩ := trodAll_nil r3
  obtain rfl : args = #[v0, v1, v2, v3] := by cases args; simp_all
  obtain ⟨rfl, rfl⟩ := trodVars_none hV
  have k0 := h0
  have lt0 : ∀ x ∈ p0, x.block < W.heap.size := by obtain ⟨m, hm⟩ := k0; exact DataW.trod_lt m _ _ _ hm
  have k1 := h1
  have lt1 : ∀ x ∈ p1, x.block < W.heap.size := by obtain ⟨m, hm⟩ := k1; exact DataW.trod_lt m _ _ _ hm
  have k2 := h2
  have lt2 : ∀ x ∈ p2, x.block < W.heap.size := by obtain ⟨m, hm⟩ := k2; exact DataW.trod_lt m _ _ _ hm
  have k3 := h3
  have lt3 : ∀ x ∈ p3, x.block < W.heap.size := by obtain ⟨m, hm⟩ := k3; exact DataW.trod_lt m _ _ _ hm
  obtain ⟨y0, z0, rfl, w0, u0⟩ := open_two Tryd.underlying23 ⟨rfl, rfl⟩ ⟨rfl, rfl⟩ Tryd.underlying3 (by kernel_rfl) (by kernel_rfl) (hval 0 23 v0 rfl rfl) h0
  obtain ⟨x1, rfl, rfl, rfl, w1⟩ := open_int Tryd.underlying5 (hval 1 5 v1 rfl rfl) h1
  obtain ⟨a2, n2, c2, b2, rfl, w2, l2, s2⟩ := open_bys Tryd.underlying27 Tryd.underlying5 (by kernel_rfl) (by kernel_rfl) (hval 2 27 v2 rfl rfl) (fun _ => rfl) h2 (fun el sp hd => sized_slice hsz (j := 2) (t := 27) (e := 5) rfl (by rw [hd]; rfl) Tryd.underlying27)
  obtain ⟨x3, rfl, rfl, rfl, w3⟩ := open_int Tryd.underlying5 (hval 3 5 v3 rfl rfl) h3
  clear hA0 hval0
  refine (walk y0 z0 x1 a2 n2 c2 b2 x3 W (tabsR hL) w0 u0 (wf_u8 w1) w2 l2 s2 (wf_u8 w3)).mono fun e W' ⟨he, bel⟩ => ?_
  subst he
  exact ⟨_, rfl, _, _, _, [], _, [], hW', trodAll_mk1 (shut_bool Tryd.underlying4 _), (trodAll_cons_mk (Below.trod laidOut (by kernel_rfl) (of_decide_eq_true (by kernel_rfl)) k0 bel lt0) (trodAll_cons_mk (Below.trod laidOut (by kernel_rfl) (of_decide_eq_true (by kernel_rfl)) k1 bel lt1) (trodAll_cons_mk (Below.trod laidOut (by kernel_rfl) (of_decide_eq_true (by kernel_rfl)) k2 bel lt2) (trodAll_cons_mk (Below.trod laidOut (by kernel_rfl) (of_decide_eq_true (by kernel_rfl)) k3 bel lt3) trodAll_mk0)))), rfl, bel.frame _, fun h => by cases h⟩

theorem over : Rows.receiverCancelRow.holds Tryd.pinned (OpenSpec.ofChange Rows.receiverCancelSpec) :=
  OpenClaim.holds_of_wide 4 Tryd.f4 rfl rfl rfl rfl rfl rfl rfl ⟨rfl, rfl, rfl, rfl, rfl⟩ rfl rfl rfl rfl rfl (by kernel_rfl) Tryd.func4 (by kernel_rfl)
    (of_decide_eq_true (by kernel_rfl)) (by unfold Func.isWrapper; first | (rw [if_pos (by decide +kernel)]; kernel_rfl) | (rw [if_neg (by decide +kernel)]; exact ⟨rfl, rfl⟩))
    (fun os started H enc _ => lifted os started H enc)

/-- The card: what the row lists is tied to the program's own text. -/
theorem proved : Rows.ReceiverCancelCardSaid :=
  Claim7.holds_tied_plain_at .later [] [.handle] true Rows.receiverCancelCard.stood.harness true
    over (fun _ h => by cases h) (by kernel_rfl) (fun _ h => by cases h) receiverCancel_row_tie rfl ⟨rfl, rfl⟩ (by kernel_rfl) rfl
    (fun f fn hf hfn => by
      obtain rfl : f = 4 := Option.some.inj ((show Tryd.prog.funcNamed "lifeline/lifelinelaw11.ReceiverCancel" = some 4 by kernel_rfl).symm.trans hf) |>.symm
      obtain rfl : fn = Tryd.f4 := (Option.some.inj (Tryd.func4.symm.trans hfn)).symm
      exact ⟨by kernel_rfl, fun j t ht => by
        rw [Tryd.params4] at ht
        have hm : t ∈ [23, 5, 27, 5] := by simpa using Array.mem_of_getElem? ht
        have hall : ([23, 5, 27, 5].all fun u => !Tryd.prog.wantsStandIn u) = true := by kernel_rfl
        exact (show Tryd.prog.wantsStandIn t = false by simpa using List.all_eq_true.1 hall t hm)⟩)
    (by kernel_rfl)
end Go.Proofs.YtjdjbdedfohfbaaDoor.receiverCancel
