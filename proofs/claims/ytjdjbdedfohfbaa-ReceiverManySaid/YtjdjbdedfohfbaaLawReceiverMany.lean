/-
  'lifelinelaw11.ReceiverMany' answers true for every input, and leaves its arguments as they were.
  Conditions: none but what the row itself says of its arguments (how much memory each may take).
-/
import Derived.Test.YtjdjbdedfohfbaaRows
import Derived.Test.YtjdjbdedfohfbaaReceiverLaw
import Derived.LoopTactic
import Derived.Deep.DeepCutAuto
import Derived.Deep.RegionWith
import Derived.Deep.DrawnRows
import Derived.Test.YtjdjbdedfohfbaaFrame
import Derived.WalkKit
import Derived.ProofKit
import Derived.OpenShut
import Derived.ShutString
import Derived.ChangeOld
import Derived.Below
namespace Go.Proofs.Ytjdjbdedfohfbaa.receiverMany
open Go.ChangeShapes Go.WideShapes Go.ChangeAt Go.RowKit
open Go.ChangeMaps (open_string shut_string)
set_option linter.unusedVariables false

theorem own : ownKnob Try.prog.godebug = none := by kernel_rfl
theorem laidOut : laidOutB Try.prog = true := by kernel_rfl

/-- The receiver behind k blocks of n. -/
structure Mn (n k : Nat) (s : Rd) : Prop where
  bu : s.bu = []
  da : s.da.length = 128 * k
  er : s.er = 0
  on : k < n → s.ex = UInt8.ofNat k ∧ s.bl = (n : Int) - (k : Int) ∧ s.ov = false
  off : k = n → s.ov = true
theorem many_put {crc : Bool} {W n k : Nat} {s : Rd} {d : List UInt8} (h : Mn n k s) (hk : k < n) (hd : d.length = 128) : ∃ s', putR crc false W s (enc (UInt8.ofNat k) d crc) = ([6], s') ∧ Mn n (k + 1) s' := by
  obtain ⟨h1, h2, h3⟩ := h.on hk
  rw [put_block crc false W s (UInt8.ofNat k) d (.inl hd) h3 h.bu]
  unfold takeR
  rw [if_pos (by exact h1.symm)]
  unfold finR
  have hda : (s.da ++ d).length = 128 * (k + 1) := by rw [List.length_append, h.da, hd]; omega
  by_cases hl : s.bl - 1 ≤ 0
  · rw [if_pos ⟨rfl, hl⟩]
    exact ⟨_, rfl, rfl, hda, rfl, fun hh => by omega, fun _ => rfl⟩
  · rw [if_neg (fun e => hl e.2)]
    refine ⟨_, rfl, rfl, hda, h.er, fun hh => ⟨?_, ?_, h3⟩, fun hh => by omega⟩
    · show s.ex + 1 = _
      rw [h1]
      apply UInt8.toNat_inj.1
      simp [UInt8.toNat_add, UInt8.toNat_ofNat']
    · show s.bl - 1 = _
      omega
theorem str6 : strB [6] = ⟨#[6]⟩ := rfl
set_option maxRecDepth 100000 in
set_option maxHeartbeats 4000000 in
theorem walk (x0 : Int) (a1 : Option Addr) (n1 c1 : Nat) (b1 : List UInt8) (x2 : Bool) (w : World) (h0 : 0 ≤ x0 ∧ x0 ≤ 255) (h1 : Bys w w.heap.size a1 n1 b1) (l1 : n1 ≤ c1) (s1 : c1 ≤ 140737488351232) :
    Calls Try.prog 6 #[.int .u8 x0, .slice a1 n1 c1, .bool x2] w fun e w' => e = .returned (.bool true) ∧ Below w.heap.size w w' := by
  obtain ⟨r, hr⟩ : ∃ r : Nat, x0.tmod 6 = (r : Int) ∧ r ≤ 5 := ⟨(x0.tmod 6).toNat, by rw [Int.tmod_eq_emod_of_nonneg (by omega)]; omega⟩
  obtain ⟨hr, hr5⟩ := hr
  obtain ⟨n, hn⟩ : ∃ n : Nat, n = r + 1 := ⟨_, rfl⟩
  have hn1 : 1 + (r : Int) = (n : Int) := by omega
  have HN1 := keepHid hn1
  have hn2 : (n : Int) ≤ 6 := by omega
  have HAW := keepHid (awake11_any w)
  have HY := keepHid h1
  obtain ⟨d, hd⟩ : ∃ d, dat b1 (longN false) = d := ⟨_, rfl⟩
  have hdl : d.length = 128 := by rw [← hd, dat_len]; rfl
  have HDT : Hid (∀ {G W : Nat} {O : Nat → Prop} {cl : Bool} {s : Rd} {w' : World}, RAt w G O x2 cl W s w' → Calls Try.prog 16 #[.slice a1 n1 c1, .bool false] w' fun e w'' => ∃ A c, e = .returned (.slice A 128 c) ∧ RAt w G O x2 cl W s w'' ∧ Lies w'' O A 128 d) := keepHid (fun h => by
    refine (dat_at h a1 n1 c1 b1 false HY.out).mono ?_
    rintro e w'' ⟨A, c, rfl, k1, k2, k3, _⟩
    rw [hd, hdl] at k2 ⊢
    exact ⟨A, c, rfl, k1, k2⟩)
  have HDL := keepHid hdl
  have HOF : Hid (∀ w', Below w.heap.size w w' → Calls Try.prog 8 #[.agg #[.int .i64 3, .int .i64 9], .int .u8 0, .bool x2, .bool false, .int .i64 (1 + (r : Int))] w' fun e w'' => ∃ G, e = .returned (.pointer (some ⟨G, 0, none⟩)) ∧ ∃ O s, RAt w G O x2 false 9 s w'' ∧ Mn n 0 s) := keepHid (fun w' hb => by
    rw [hn1]
    refine (of_at 3 9 0 x2 false (n : Int) w w' (by omega) hb).mono ?_
    rintro e w'' ⟨G, O, rfl, k1, _⟩
    refine ⟨G, rfl, O, _, k1, rfl, rfl, rfl, fun _ => ⟨rfl, ?_, rfl⟩, fun hh => by omega⟩
    show max (n : Int) 1 = (n : Int) - 0
    omega)
  clear h0 h1 l1 s1 hd hdl hn1 hn
  go_enter Try.func6, Try.ntmps6
  go_wp2_with fail
  with_reducible refine HAW.out.mono ?_
  rintro e w1 ⟨rfl, hb1⟩
  have HB1 := keepHid hb1
  clear hb1
  go_wp2_with fail
  with_reducible refine (HOF.out _ HB1.out).mono ?_
  rintro e w2 ⟨G, rfl, O2, s2, hs2, hm2⟩
  have HS2 := keepHid hs2
  have HM2 := keepHid hm2
  clear hs2 hm2 hr
  go_wp2_with fail
  go_loopw [9] (fun kv wr => ∃ (k : Nat) (O : Nat → Prop) (s : Rd), k ≤ n ∧ kv = .int .i64 k ∧ RAt w G O x2 false 9 s wr ∧ Mn n k s) (fun kv _ => n - (intOf kv).toNat)
  case atStart => exact ⟨0, O2, s2, Nat.zero_le _, rfl, HS2.out, HM2.out⟩
  case round =>
    obtain ⟨k, O, s, hk, rfl, hs, hm⟩ := hrel
    have hd := done_at hs
    rw [hm.er] at hd
    rcases Nat.lt_or_ge k n with hlt | hge
    · rw [(hm.on hlt).2.2] at hd
      have HDN : Hid (Calls Try.prog 19 #[.pointer (some ⟨G, 0, none⟩)] wr fun e w' => e = .returned (.tuple #[.bool false, .nilIface]) ∧ w' = wr.drew) := keepHid hd
      have HDT2 := keepHid (HDT.out hs.drew)
      have i1 : (k : Int) < 1 + (r : Int) := by have := HN1.out; omega
      have i2 : IntKind.u8.wrap (k : Int) = (k : Int) := by show (k : Int) % 256 = _; omega
      have i3 : (k : Int) % 256 = (k : Int) := by omega
      have HM := keepHid hm
      clear hs hd hm
      go_wp2_with fail
      with_reducible refine HDN.out.mono ?_
      rintro e w3 ⟨rfl, rfl⟩
      go_wp2_with fail
      with_reducible refine HDT2.out.mono ?_
      rintro e w4 ⟨A4, c4, rfl, hs4, hl4⟩
      have HMK : Hid (Calls Try.prog 17 #[.agg #[.int .u8 (k : Int), .slice A4 128 c4], .bool x2] w4 fun e w5 => ∃ A5 L5 c5, e = .returned (.tuple #[.slice A5 L5 c5, .bool true]) ∧
          Calls Try.prog 14 #[.pointer (some ⟨G, 0, none⟩), .slice A5 L5 c5] w5 fun e w6 => ∃ A6 c6, e = .returned (.slice A6 1 c6) ∧ (convert 31 9 (.slice A6 1 c6)).run Try.prog w6 = .ok (.string ⟨#[6]⟩) w6 ∧ ∃ O6 s6, RAt w G O6 x2 false 9 s6 w6 ∧ Mn n (k + 1) s6) := keepHid (by
        have hnum : ((UInt8.ofNat k).toNat : Int) = (k : Int) := by rw [UInt8.toNat_ofNat']; omega
        have hmk := make_at' hs4 (UInt8.ofNat k) A4 128 c4 d x2 (.inl rfl) hl4
        rw [hnum] at hmk
        refine hmk.mono ?_
        rintro e w5 ⟨A5, c5, rfl, hs5, hl5, _, h51, h52⟩
        have hle := enc_len (UInt8.ofNat k) d x2
        have hszT := szT_pos x2
        have hdl := HDL.out
        have hda := HM.out.da
        refine ⟨A5, _, c5, rfl, (put_at hs5 A5 _ c5 _ hl5 (by omega) (by rw [(HM.out.on hlt).2.1]; omega) (by rw [HM.out.bu]; simp; omega)).mono ?_⟩
        rintro e w6 hp
        obtain ⟨s6, e6, hm6⟩ := many_put (crc := x2) (W := 9) HM.out hlt HDL.out
        rw [e6] at hp
        obtain ⟨A6, c6, O6, rfl, k1, k2, _⟩ := hp
        exact ⟨A6, c6, rfl, k2.str c6, O6, s6, k1, hm6⟩)
      clear hs4 hl4
      go_wp2_with fail
      with_reducible refine HMK.out.mono ?_
      rintro e w5 ⟨A5, L5, c5, rfl, hpt⟩
      have HPT := keepHid hpt
      clear hpt
      go_wp2_with fail
      with_reducible refine HPT.out.mono ?_
      rintro e w6 ⟨A6, c6, rfl, cv6, O6, s6, hs6, hm6⟩
      have HS6 := keepHid hs6
      have HM6 := keepHid hm6
      clear hs6 hm6
      go_wp2
      go_roundw
      case rel => exact ⟨k + 1, O6, s6, by omega, by go_num, HS6.out, HM6.out⟩
      case measure => simp [intOf]; omega
    · obtain rfl : k = n := by omega
      rw [hm.off rfl] at hd
      have HDN : Hid (Calls Try.prog 19 #[.pointer (some ⟨G, 0, none⟩)] wr fun e w' => e = .returned (.tuple #[.bool true, .nilIface]) ∧ w' = wr.drew) := keepHid hd
      have hda := hm.da
      have HDA : Hid (Calls Try.prog 18 #[.pointer (some ⟨G, 0, none⟩)] wr.drew fun e w' => ∃ A c, e = .returned (.slice A (128 * k) c) ∧ Below w.heap.size w w') := keepHid (by
        refine (data_at hs.drew (by omega)).mono ?_
        rintro e w' ⟨A, c, rfl, k1, _⟩
        exact ⟨A, c, by rw [hda], k1.bel⟩)
      obtain ⟨L, hL⟩ : ∃ L, 128 * k = L := ⟨_, rfl⟩
      rw [hL] at HDA
      have i1 : ¬ (k : Int) < 1 + (r : Int) := by have := HN1.out; omega
      have q1 : 128 * (1 + (r : Int)) = (L : Int) := by have := HN1.out; omega
      have q2 : IntKind.i64.wrap (128 * (1 + (r : Int))) = (L : Int) := by rw [q1]; exact IntWalk.i64_in _ (by omega)
      clear hs hd hm hda hL
      go_wp2_with fail
      with_reducible refine HDN.out.mono ?_
      rintro e w3 ⟨rfl, rfl⟩
      go_wp2_with fail
      with_reducible refine HDA.out.mono ?_
      rintro e w4 ⟨A4, c4, rfl, hb4⟩
      have HB4 := keepHid hb4
      clear hb4
      go_wp2
      go_ret
      exact ⟨rfl, HB4.out⟩

set_option maxRecDepth 100000 in
theorem lifted (os : Os) (started : os.Started) (H : Type) (enc : TypeId × Value → H) :
    ReturnsInHanded {} Try.checked os 6 .any (Rows.receiverManySpec.pre6 enc Try.prog Try.f6 Rows.receiverManyRow.domain false) (Rows.receiverManySpec.post enc Try.prog Try.f6 false true false false) := by
  refine returnsInHanded_of_change_sized (C := Try.checked) own started (by kernel_rfl) Try.func6
    (ChangeSpec.witness6 (enc := enc) (C := Try.checked) false ⟨#[], #[.int .u8 0, .slice none 0 0, .bool false], []⟩ 8 (by kernel_rfl) (by kernel_rfl) (by kernel_rfl) (by kernel_rfl)) ?_
  intro W base args ds gs before hval0 hW hcnd hsz0 _
  have hsz : (DataW.weightsEach Try.prog (Try.f6.params.toList ++ Rows.receiverManySpec.plain.varTypes Try.prog) (ds ++ gs)).all (· ≤ reachBytes) = true := hsz0
  clear hsz0
  have hval : ∀ (j : Nat) t v, Try.f6.params[j]? = some t → args[j]? = some v → Value.okWide Try.prog W .any base t v := hval0
  have hW' := hW
  obtain ⟨p, q, hA0, hV, rfl, hfz, hnd⟩ := hW
  have hA : DataW.TrodAll enc Try.prog W 0 (fun _ => true) true Try.f6.params.toList args.toList ds p := hA0
  rw [Try.params6] at hA hval hsz
  obtain ⟨v0, vs0, d0, ds0, p0, q0, hargs, rfl, rfl, h0, r0⟩ := trodAll_cons hA
  obtain ⟨v1, vs1, d1, ds1, p1, q1, rfl, rfl, rfl, h1, r1⟩ := trodAll_cons r0
  obtain ⟨v2, vs2, d2, ds2, p2, q2, rfl, rfl, rfl, h2, r2⟩ := trodAll_cons r1
  obtain ⟨rfl, rfl, rfl⟩ := trodAll_nil r2
  obtain rfl : args = #[v0, v1, v2] := by cases args; simp_all
  obtain ⟨rfl, rfl⟩ := trodVars_none hV
  have k0 := h0
  have lt0 : ∀ x ∈ p0, x.block < W.heap.size := by obtain ⟨m, hm⟩ := k0; exact DataW.trod_lt m _ _ _ hm
  have k1 := h1
  have lt1 : ∀ x ∈ p1, x.block < W.heap.size := by obtain ⟨m, hm⟩ := k1; exact DataW.trod_lt m _ _ _ hm
  have k2 := h2
  have lt2 : ∀ x ∈ p2, x.block < W.heap.size := by obtain ⟨m, hm⟩ := k2; exact DataW.trod_lt m _ _ _ hm
  obtain ⟨x0, rfl, rfl, rfl, w0⟩ := open_int Try.underlying5 (hval 0 5 v0 rfl rfl) h0
  obtain ⟨a1, n1, c1, b1, rfl, w1, l1, s1⟩ := open_bys Try.underlying31 Try.underlying5 (by kernel_rfl) (by kernel_rfl) (hval 1 31 v1 rfl rfl) (fun _ => rfl) h1 (fun el sp hd => sized_slice hsz (j := 1) (t := 31) (e := 5) rfl (by rw [hd]; rfl) Try.underlying31)
  obtain ⟨x2, rfl, rfl, rfl⟩ := open_bool Try.underlying4 (hval 2 4 v2 rfl rfl) h2
  clear hA0 hval0
  refine (walk x0 a1 n1 c1 b1 x2 W (wf_u8 w0) w1 l1 s1).mono fun e W' ⟨he, bel⟩ => ?_
  subst he
  exact ⟨_, rfl, _, _, _, [], _, [], hW', trodAll_mk1 (shut_bool Try.underlying4 _), (trodAll_cons_mk (Below.trod laidOut (by kernel_rfl) (of_decide_eq_true (by kernel_rfl)) k0 bel lt0) (trodAll_cons_mk (Below.trod laidOut (by kernel_rfl) (of_decide_eq_true (by kernel_rfl)) k1 bel lt1) (trodAll_cons_mk (Below.trod laidOut (by kernel_rfl) (of_decide_eq_true (by kernel_rfl)) k2 bel lt2) trodAll_mk0))), rfl, bel.frame _, fun h => by cases h⟩

theorem over : Rows.receiverManyRow.holds Try.pinned (OpenSpec.ofChange Rows.receiverManySpec) :=
  OpenClaim.holds_of_wide 6 Try.f6 rfl rfl rfl rfl rfl rfl rfl ⟨rfl, rfl, rfl, rfl, rfl⟩ rfl rfl rfl rfl rfl (by kernel_rfl) Try.func6 (by kernel_rfl)
    (of_decide_eq_true (by kernel_rfl)) (by unfold Func.isWrapper; first | (rw [if_pos (by decide +kernel)]; kernel_rfl) | (rw [if_neg (by decide +kernel)]; exact ⟨rfl, rfl⟩))
    (fun os started H enc _ => lifted os started H enc)

theorem proved : Rows.ReceiverManySaid := over
end Go.Proofs.Ytjdjbdedfohfbaa.receiverMany
