/-
  'lifelinelaw10.SenderWhole' answers true for every input, and leaves its arguments as they were.
  Conditions: none but what the row itself says of its arguments (how much memory each may take).
-/
import Derived.Test.YtdhipkfiigiicaaRows
import Derived.Test.YtdhipkfiigiicaaSenderLaw
import Derived.Test.YtdhipkfiigiicaaSenderAwake
import Derived.Test.YtdhipkfiigiicaaSenderRun
import Derived.Test.YtdhipkfiigiicaaSenderSent
import Derived.LoopTactic
import Derived.Deep.DeepCutAuto
import Derived.Deep.RegionWith
import Derived.Deep.DrawnRows
import Derived.Test.YtdhipkfiigiicaaFrame
import Derived.WalkKit
import Derived.ProofKit
import Derived.OpenShut
import Derived.ShutString
import Derived.ChangeOld
import Derived.Below
namespace Go.Proofs.Ytdhipkfiigiicaa.senderWhole
open Go.ChangeShapes Go.WideShapes Go.ChangeAt Go.RowKit
open Go.ChangeMaps (open_string shut_string)
set_option linter.unusedVariables false

theorem own : ownKnob Try.prog.godebug = none := by kernel_rfl
theorem laidOut : laidOutB Try.prog = true := by kernel_rfl

theorem str4 : strB [4] = ⟨#[4]⟩ := rfl
/-- The sender in G has sent what the slice in 'ov' holds, and k blocks were taken. -/
def WhAt (w2 : World) (bl : Bks) (crc : Bool) (T W G : Nat) (k : Nat) (ov : Value) (w' : World) : Prop :=
  ∃ A c L, ov = .slice A L c ∧ (whS bl W crc k).1.length = L ∧ L ≤ c ∧ c ≤ 9223372036854775807 ∧ Bys w' w'.heap.size A L (whS bl W crc k).1 ∧ Apart (fun b => b = G) A L ∧ Snd w' G bl T W true (whS bl W crc k).2 ∧ w2.heap.size ≤ G ∧ Below w2.heap.size w2 w'
theorem WhAt.of {w2 w3 w4 : World} {bl : Bks} {crc : Bool} {T W G k : Nat} {r : List UInt8 × Sd} {e : Ending} (h : OutPost G bl T W true r w3 e w4) (hr : r = whS bl W crc k) (hg : w2.heap.size ≤ G) (hl : G < w3.heap.size) (hb : Below w2.heap.size w2 w3) :
    ∃ ov, e = .returned ov ∧ WhAt w2 bl crc T W G k ov w4 := by
  subst hr
  obtain ⟨A4, c4, rfl, ho4, h41, h42, ht4, hs4⟩ := h
  exact ⟨_, rfl, A4, c4, _, rfl, rfl, h41, h42, ho4.bys (by omega), apart_new ho4 hl, hs4, hg, hb.trans (ht4.below (fun i hi => by rw [hi]; exact hg) hb.size)⟩
set_option maxRecDepth 100000 in
set_option maxHeartbeats 4000000 in
theorem walk (a0 : Option Addr) (n0 c0 : Nat) (b0 : List UInt8) (x1 : Int) (x2 : Bool) (x3 : Bool) (w : World) (h0 : Bys w w.heap.size a0 n0 b0) (l0 : n0 ≤ c0) (s0 : c0 ≤ 140737488351232) (h1 : 0 ≤ x1 ∧ x1 ≤ 255) :
    Calls Try.prog 6 #[.slice a0 n0 c0, .int .u8 x1, .bool x2, .bool x3] w fun e w' => e = .returned (.bool true) ∧ Below w.heap.size w w' := by
  obtain ⟨m, hm⟩ : ∃ m : Nat, x1 % 5 = (m : Int) := ⟨(x1 % 5).toNat, by omega⟩
  have hm4 : m ≤ 4 := by omega
  have HAW := keepHid (awake10_any w)
  have HY := keepHid h0
  have HBL : Hid (∀ w', Below w.heap.size w w' → Calls Try.prog 8 #[.slice a0 n0 c0, .int .u8 x1, .bool x2] w' (Blocks10 w' m (blk10 b0 x2 m))) := keepHid (fun w' hb => blocks10_any a0 n0 c0 b0 x1 m x2 h1 hm w' ((HY.out.below hb).more hb.size))
  obtain ⟨bl, hbl⟩ : ∃ bl, blk10 b0 x2 m = bl := ⟨_, rfl⟩
  have hlen : bl.length = m := by rw [← hbl]; exact blk10_len _ _ _
  have hsz : ∀ p ∈ bl, p.2.length ≤ 140737488355328 := fun p hp => by
    have := blk10_sized p (by rw [hbl]; exact hp)
    omega
  have hok : ∀ (j : Nat) (p : UInt8 × List UInt8), bl[j]? = some p → encOk p.2 = true := fun j p hp => blk10_ok (b := b0) (long := x2) (m := m) (j := j) (by rw [hbl]; exact hp)
  rw [hbl] at HBL
  have HLEN := keepHid hlen
  have HSZ := keepHid hsz
  have HOK := keepHid hok
  clear h0 h1 hbl hlen hsz hok l0 s0 hm
  go_enter Try.func6, Try.ntmps6
  go_wp2_with fail
  with_reducible refine HAW.out.mono ?_
  rintro e w1 ⟨rfl, hb1⟩
  have HB1 := keepHid hb1
  clear hb1
  go_wp2_with fail
  with_reducible refine (HBL.out _ HB1.out).mono ?_
  rintro e w2 ⟨g, rfl, hbs2, hb2⟩
  have HBS2 := keepHid hbs2
  have HB2 := keepHid (HB1.out.trans (hb2.mono HB1.out.size))
  clear hbs2 hb2
  have HOF : Hid (∀ (z1 z2 : Int) (T W : Nat), capZ z1 9 = T → capZ z2 99 = W → ∀ (crc : Bool) w', Below w2.heap.size w2 w' → Calls Try.prog 9 #[.agg #[.int .i64 z1, .int .i64 z2], .slice (some ⟨g, 0, none⟩) m m, .bool crc, .bool true] w' (OfSPost w' bl T W true crc)) := keepHid (fun z1 z2 T W hT hW crc w' hb => by
    have := of_snd z1 z2 (some ⟨g, 0, none⟩) m m bl crc true w' (HBS2.out.below hb) (by omega) HSZ.out
    rwa [hT, hW] at this)
  go_wp2_with fail
  with_reducible refine (HOF.out 2 3 2 3 (by decide) (by decide) _ _ (Below.refl _ _)).mono ?_
  rintro e w3 ⟨G, rfl, hg3, hs3, hb3⟩
  have hp := put_snd hs3 21
  rw [whS_nak] at hp
  have HP3 : Hid (Calls Try.prog 14 #[.pointer (some ⟨G, 0, none⟩), .int .u8 21] w3 fun e w4 => ∃ ov, e = .returned ov ∧ WhAt w2 bl false 2 3 G 0 ov w4) := keepHid (hp.mono fun e w4 h => WhAt.of h rfl hg3 hs3.lt hb3)
  clear hp hs3 hb3 hg3
  go_wp2_with fail
  with_reducible refine HP3.out.mono ?_
  rintro e w4 ⟨ov, rfl, hwh⟩
  have HW4 := keepHid hwh
  have HB4 : Hid (Below w2.heap.size w2 w4) := keepHid (by obtain ⟨_, _, _, _, _, _, _, _, _, _, _, h⟩ := hwh; exact h)
  clear hwh
  go_upto_if 31 with fail
  go_cut [10, 11] (fun sv ov wx => ∃ G T W, sv = .pointer (some ⟨G, 0, none⟩) ∧ WhAt w2 bl x3 T W G 0 ov wx)
  case first =>
    cases x3
    · go_wp2_with fail
      go_meet
      case rel => exact ⟨G, 2, 3, rfl, HW4.out⟩
    · go_wp2_with fail
      with_reducible refine (HOF.out 0 0 1 1 (by decide) (by decide) _ _ HB4.out).mono ?_
      rintro e w5 ⟨G5, rfl, hg5, hs5, hb5⟩
      have hp := put_snd hs5 67
      rw [whS_go] at hp
      have hb5' := HB4.out.trans (hb5.mono HB4.out.size)
      have HP5 : Hid (Calls Try.prog 14 #[.pointer (some ⟨G5, 0, none⟩), .int .u8 67] w5 fun e w4 => ∃ ov, e = .returned ov ∧ WhAt w2 bl true 1 1 G5 0 ov w4) := keepHid (hp.mono fun e w4 h => WhAt.of h rfl (Nat.le_trans HB4.out.size hg5) hs5.lt hb5')
      clear hp hs5 hb5 hg5 hb5'
      go_wp2_with fail
      with_reducible refine HP5.out.mono ?_
      rintro e w6 ⟨ov6, rfl, hwh⟩
      obtain ⟨A6, c6, L6, rfl, hL6, h61, h62, hy6, ha6, hs6, hg6, hb6⟩ := hwh
      have HY6 := keepHid hy6
      have HB6 := keepHid hb6
      have HL6 := keepHid hL6
      clear hL6 hy6 ha6 hs6 hg6 hb6
      go_wp2_with fail
      with_reducible refine (HOF.out 0 0 1 1 (by decide) (by decide) _ _ HB6.out).mono ?_
      rintro e w7 ⟨G7, rfl, hg7, hs7, hb7⟩
      have hy7 := HY6.out.below hb7
      have hp := put_snd hs7.drew 67
      rw [whS_go] at hp
      have hb7' := HB6.out.trans (hb7.mono HB6.out.size)
      have HP7 : Hid (Calls Try.prog 14 #[.pointer (some ⟨G7, 0, none⟩), .int .u8 67] w7.drew fun e w8 => ∃ A8 c8 L8, e = .returned (.slice A8 L8 c8) ∧ WhAt w2 bl true 1 1 G7 0 (.slice A6 L6 c6) w8 ∧
          (convert 24 9 (.slice A8 L8 c8)).run Try.prog w8 = .ok (.string (strB (whS bl 1 true 0).1)) w8 ∧ (convert 24 9 (.slice A6 L6 c6)).run Try.prog w8 = .ok (.string (strB (whS bl 1 true 0).1)) w8) := keepHid (hp.mono fun e w8 h => by
        have h' := h
        obtain ⟨_, _, _, _, _, _, ht8, _⟩ := h'
        have hy8 : Bys w8 w6.heap.size A6 L6 (whS bl 1 true 0).1 := hy7.drew.turn ht8 hb7.size (hy7.apart (fun i hi => by rw [hi]; exact hg7))
        obtain ⟨ov8, rfl, hwh⟩ := WhAt.of (w2 := w2) (k := 0) h rfl (Nat.le_trans HB6.out.size hg7) hs7.drew.lt (Below.drew hb7')
        obtain ⟨A8, c8, L8, rfl, hL8, h81, h82, hby8, _, hs8, hg8, hb8⟩ := hwh
        have hwh' : WhAt w2 bl true 1 1 G7 0 (.slice A6 L6 c6) w8 := ⟨A6, c6, L6, rfl, HL6.out, h61, h62, hy8.more (Nat.le_trans hb7.size ht8.size), hy7.apart (fun i hi => by rw [hi]; exact hg7), hs8, hg8, hb8⟩
        exact ⟨A8, c8, L8, rfl, hwh', run_str _ 5 _ Try.underlying24 Try.underlying5 Try.underlying9 hby8, run_str _ 5 _ Try.underlying24 Try.underlying5 Try.underlying9 hy8⟩)
      have cv0 : (convert 24 9 (.slice A6 L6 c6)).run Try.prog w7.drew = .ok (.string (strB (whS bl 1 true 0).1)) w7.drew := run_str _ 5 _ Try.underlying24 Try.underlying5 Try.underlying9 hy7.drew
      clear hp hs7 hb7 hg7 hy7 hb7'
      go_upto_region 9 with fail
      go_region_with (go_at_call 14; (with_reducible refine HP7.out.mono ?_); rintro e w8 ⟨A8, c8, L8, rfl, hwh8, cv1, cv2⟩; have HW8 := keepHid hwh8; clear hwh8)
      all_goals
        go_wp2_with fail
        go_meet
        case rel => exact ⟨G7, 1, 1, rfl, HW8.out⟩
  case rest =>
    clear HW4 HB4 HP3
    obtain ⟨G, T, W, rfl, hwh⟩ := hcut
    have HW6 := keepHid hwh
    clear hwh
    go_wp2_with fail
    go_loopw [11, 47] (fun ov iv wr => ∃ k : Nat, k ≤ m ∧ iv = .int .i64 k ∧ WhAt w2 bl x3 T W G k ov wr) (fun _ iv _ => m - (intOf iv).toNat)
    case atStart => exact ⟨0, Nat.zero_le _, rfl, HW6.out⟩
    case round =>
      obtain ⟨k, hk, rfl, hwh⟩ := hrel
      obtain ⟨A6, c6, L6, rfl, hL6, h61, h62, hy6, ha6, hs6, hg6, hb6⟩ := hwh
      rcases Nat.lt_or_ge k m with hlt | hge
      · obtain ⟨p, hp⟩ : ∃ p, bl[k]? = some p := ⟨_, List.getElem?_eq_getElem (by rw [HLEN.out]; exact hlt)⟩
        obtain ⟨num, d⟩ := p
        have ho := HOK.out k _ hp
        have hbs := HBS2.out.below hb6
        obtain ⟨ad, Ak, ck, ea, hadl, hc0, hc1, hby⟩ := hbs.2 k _ hp
        obtain rfl := Option.some.inj ea
        have ea : ∀ i, (⟨g, 0, none⟩ : Addr).add i = ⟨g, i, none⟩ := fun i => by unfold Addr.add; split <;> simp_all
        rw [ea] at hc0 hc1
        simp only at hc0 hc1 hby hadl
        have hat := whS_at (W := W) (crc := x3) hp ho
        have hack := whS_ack (T := T) (W := W) (crc := x3) hp ho
        have i1 : (k : Int) < (m : Int) := by omega
        obtain ⟨nd, hnd⟩ : ∃ nd, d.length = nd := ⟨_, rfl⟩
        have hnn : nd = 128 ∨ nd = 1024 := by rw [← hnd]; simpa [encOk] using ho
        rw [hnd] at hc1 hby
        obtain ⟨wt, hwt⟩ : ∃ wt, wr.alloc (.cells #[.int .u8 (num.toNat : Int), .slice Ak nd ck] 41) = wt := ⟨_, rfl⟩
        have hbt : Below wr.heap.size wr wt := by rw [← hwt]; exact (Below.refl _ _).alloc (Nat.le_refl _) _
        have hkt : Blk wt wr.heap.size 41 #[.int .u8 (num.toNat : Int), .slice Ak nd ck] := by rw [← hwt]; exact Blk.new wr _ _
        have t0 : wt.cell? ⟨wr.heap.size, 0, none⟩ = some (.int .u8 (num.toNat : Int)) := hkt.cell 0
        have t1 : wt.cell? ⟨wr.heap.size, 1, none⟩ = some (.slice Ak nd ck) := hkt.cell 1
        have HMK : Hid (Calls Try.prog 19 #[.agg #[.int .u8 (num.toNat : Int), .slice Ak nd ck], .bool x3] wt fun e w9 => ∃ A9 L9 c9, e = .returned (.tuple #[.slice A9 L9 c9, .bool true]) ∧
            (convert 24 9 (.slice A9 L9 c9)).run Try.prog w9 = .ok (.string (strB (enc num d x3))) w9 ∧ (convert 24 9 (.slice A6 L6 c6)).run Try.prog w9 = .ok (.string (strB (enc num d x3))) w9 ∧
            Calls Try.prog 17 #[.pointer (some ⟨G, 0, none⟩)] w9 (fun e w' => e = .returned (.int .i64 (k : Int)) ∧ w9 = w') ∧
            Calls Try.prog 14 #[.pointer (some ⟨G, 0, none⟩), .int .u8 6] w9 (fun e w' => ∃ ov, e = .returned ov ∧ WhAt w2 bl x3 T W G (k + 1) ov w')) := keepHid (by
          refine (make_any num Ak nd ck wt.heap.size d x3 hnn wt ((hby.below hbt).more hbt.size) (Nat.le_refl _)).mono ?_
          rintro e w9 ⟨A9, c9, rfl, ho9, h91, h92, hb9⟩
          have b9 : Below wr.heap.size wr w9 := hbt.trans (hb9.mono hbt.size)
          have hs9 := hs6.below b9
          have hy9 := (hy6.below b9).more b9.size
          rw [hat] at hy9
          have hp9 := put_snd hs9 6
          have hsn := sent_snd hs9
          rw [hack] at hp9
          rw [show (whS bl W x3 k).2.k = k by rw [hat]] at hsn
          exact ⟨A9, _, c9, rfl, run_str _ 5 _ Try.underlying24 Try.underlying5 Try.underlying9 (ho9.bys (by omega)), run_str _ 5 _ Try.underlying24 Try.underlying5 Try.underlying9 hy9, hsn,
            hp9.mono fun e w' h => WhAt.of h rfl hg6 hs9.lt (hb6.trans (b9.mono hb6.size))⟩)
        clear hat hack hbs hp ho hby hy6 ha6 hs6 hg6 hb6 hbt hkt hL6 hadl ea hnd hnn HW6
        go_wp2_with fail
        with_reducible refine HMK.out.mono ?_
        rintro e w9 ⟨A9, L9, c9, rfl, cv1, cv2, hsn, hpt⟩
        have HSN := keepHid hsn
        have HPT := keepHid hpt
        clear hsn hpt t0 t1 hc0 hc1 hwt HMK
        go_wp2_with fail
        with_reducible refine HSN.out.mono ?_
        rintro e w10 ⟨rfl, rfl⟩
        go_wp2_with fail
        with_reducible refine HPT.out.mono ?_
        rintro e w11 ⟨ov, rfl, hwh⟩
        have HW11 := keepHid hwh
        clear hwh cv1 cv2
        go_wp2
        go_roundw
        case rel => exact ⟨k + 1, by omega, by go_num, HW11.out⟩
        case measure => simp [intOf]; omega
      · obtain rfl : k = m := by omega
        have hlast := whS_last bl T W x3
        have hend := whS_end bl W x3
        rw [HLEN.out] at hlast hend
        have cv : (convert 24 9 (.slice A6 L6 c6)).run Try.prog wr = .ok (.string ⟨#[4]⟩) wr := by
          have := run_str (P := Try.prog) (c := c6) 24 5 9 Try.underlying24 Try.underlying5 Try.underlying9 hy6
          rwa [hend] at this
        have hp := put_snd hs6 6
        rw [hlast] at hp
        have HPT : Hid (Calls Try.prog 14 #[.pointer (some ⟨G, 0, none⟩), .int .u8 6] wr fun e w8 => ∃ A c, e = .returned (.slice A 0 c) ∧ Below w2.heap.size w2 w8 ∧
            Calls Try.prog 20 #[.pointer (some ⟨G, 0, none⟩)] w8 (fun e w' => e = .returned (.tuple #[.bool true, .nilIface]) ∧ w' = w8.drew) ∧
            Calls Try.prog 17 #[.pointer (some ⟨G, 0, none⟩)] w8.drew (fun e w' => e = .returned (.int .i64 (k : Int)) ∧ w8.drew = w')) := keepHid (hp.mono fun e w8 h => by
          obtain ⟨A8, c8, rfl, ho8, h81, h82, ht8, hs8⟩ := h
          have hd := done_snd hs8
          have hn := sent_snd hs8.drew
          refine ⟨A8, c8, rfl, hb6.trans (ht8.below (fun i hi => by rw [hi]; exact hg6) hb6.size), hd, ?_⟩
          exact hn)
        clear hlast hend hp hy6 ha6 hs6 hg6 hb6 hL6 HW6
        go_wp2_with fail
        with_reducible refine HPT.out.mono ?_
        rintro e w8 ⟨A8, c8, rfl, hb8, hdn, hsn⟩
        have HB8 := keepHid (HB2.out.trans (hb8.mono HB2.out.size))
        have HDN := keepHid hdn
        have HSN := keepHid hsn
        clear hb8 hdn hsn cv HPT
        go_wp2_with fail
        with_reducible refine HDN.out.mono ?_
        rintro e w9 ⟨rfl, rfl⟩
        go_wp2_with fail
        with_reducible refine HSN.out.mono ?_
        rintro e w10 ⟨rfl, rfl⟩
        go_wp2
        go_ret
        exact ⟨rfl, Below.drew HB8.out⟩

set_option maxRecDepth 100000 in
theorem lifted (os : Os) (started : os.Started) (H : Type) (enc : TypeId × Value → H) :
    ReturnsInHanded {} Try.checked os 6 .any (Rows.senderWholeSpec.pre6 enc Try.prog Try.f6 Rows.senderWholeRow.domain false) (Rows.senderWholeSpec.post enc Try.prog Try.f6 false true false false) := by
  refine returnsInHanded_of_change_sized (C := Try.checked) own started (by kernel_rfl) Try.func6
    (ChangeSpec.witness6 (enc := enc) (C := Try.checked) false ⟨#[], #[.slice none 0 0, .int .u8 0, .bool false, .bool false], []⟩ 8 (by kernel_rfl) (by kernel_rfl) (by kernel_rfl) (by kernel_rfl)) ?_
  intro W base args ds gs before hval0 hW hcnd hsz0 _
  have hsz : (DataW.weightsEach Try.prog (Try.f6.params.toList ++ Rows.senderWholeSpec.plain.varTypes Try.prog) (ds ++ gs)).all (· ≤ reachBytes) = true := hsz0
  clear hsz0
  have hval : ∀ (j : Nat) t v, Try.f6.params[j]? = some t → args[j]? = some v → Value.okWide Try.prog W .any base t v := hval0
  have hW' := hW
  obtain ⟨p, q, hA0, hV, rfl, hfz, hnd⟩ := hW
  have hA : DataW.TrodAll enc Try.prog W 0 (fun _ => true) true Try.f6.params.toList args.toList ds p := hA0
  rw [Try.params6] at hA hval hsz
  obtain ⟨v0, vs0, d0, ds0, p0, q0, hargs, rfl, rfl, h0, r0⟩ := trodAll_cons hA
  obtain ⟨v1, vs1, d1, ds1, p1, q1, rfl, rfl, rfl, h1, r1⟩ := trodAll_cons r0
  obtain ⟨v2, vs2, d2, ds2, p2, q2, rfl, rfl, rfl, h2, r2⟩ := trodAll_cons r1
  obtain ⟨v3, vs3, d3, ds3, p3, q3, rfl, rfl, rfl, h3, r3⟩ := trodAll_cons r2
  obtain ⟨rfl, rfl, rfl⟩ := trodAll_nil r3
  obtain rfl : args = #[v0, v1, v2, v3] := by cases args; simp_all
  obtain ⟨rfl, rfl⟩ := trodVars_none hV
  have k0 := h0
  have lt0 : ∀ x ∈ p0, x.block < W.heap.size := by obtain ⟨m, hm⟩ := k0; exact DataW.trod_lt m _ _ _ hm
  have k1 := h1
  have lt1 : ∀ x ∈ p1, x.block < W.heap.size := by obtain ⟨m, hm⟩ := k1; exact DataW.trod_lt m _ _ _ hm
  have k2 := h2
  have lt2 : ∀ x ∈ p2, x.block < W.heap.size := by obtain ⟨m, hm⟩ := k2; exact DataW.trod_lt m _ _ _ hm
  have k3 := h3
  have lt3 : ∀ x ∈ p3, x.block < W.heap.size := by obtain ⟨m, hm⟩ := k3; exact DataW.trod_lt m _ _ _ hm
  obtain ⟨a0, n0, c0, b0, rfl, w0, l0, s0⟩ := open_bys Try.underlying24 Try.underlying5 (by kernel_rfl) (by kernel_rfl) (hval 0 24 v0 rfl rfl) (fun _ => rfl) h0 (fun el sp hd => sized_slice hsz (j := 0) (t := 24) (e := 5) rfl (by rw [hd]; rfl) Try.underlying24)
  obtain ⟨x1, rfl, rfl, rfl, w1⟩ := open_int Try.underlying5 (hval 1 5 v1 rfl rfl) h1
  obtain ⟨x2, rfl, rfl, rfl⟩ := open_bool Try.underlying4 (hval 2 4 v2 rfl rfl) h2
  obtain ⟨x3, rfl, rfl, rfl⟩ := open_bool Try.underlying4 (hval 3 4 v3 rfl rfl) h3
  clear hA0 hval0
  refine (walk a0 n0 c0 b0 x1 x2 x3 W w0 l0 s0 (wf_u8 w1)).mono fun e W' ⟨he, bel⟩ => ?_
  subst he
  exact ⟨_, rfl, _, _, _, [], _, [], hW', trodAll_mk1 (shut_bool Try.underlying4 _), (trodAll_cons_mk (Below.trod laidOut (by kernel_rfl) (of_decide_eq_true (by kernel_rfl)) k0 bel lt0) (trodAll_cons_mk (Below.trod laidOut (by kernel_rfl) (of_decide_eq_true (by kernel_rfl)) k1 bel lt1) (trodAll_cons_mk (Below.trod laidOut (by kernel_rfl) (of_decide_eq_true (by kernel_rfl)) k2 bel lt2) (trodAll_cons_mk (Below.trod laidOut (by kernel_rfl) (of_decide_eq_true (by kernel_rfl)) k3 bel lt3) trodAll_mk0)))), rfl, bel.frame _, fun h => by cases h⟩

theorem over : Rows.senderWholeRow.holds Try.pinned (OpenSpec.ofChange Rows.senderWholeSpec) :=
  OpenClaim.holds_of_wide 6 Try.f6 rfl rfl rfl rfl rfl rfl rfl ⟨rfl, rfl, rfl, rfl, rfl⟩ rfl rfl rfl rfl rfl (by kernel_rfl) Try.func6 (by kernel_rfl)
    (of_decide_eq_true (by kernel_rfl)) (by unfold Func.isWrapper; first | (rw [if_pos (by decide +kernel)]; kernel_rfl) | (rw [if_neg (by decide +kernel)]; exact ⟨rfl, rfl⟩))
    (fun os started H enc _ => lifted os started H enc)

theorem proved : Rows.SenderWholeSaid := over
end Go.Proofs.Ytdhipkfiigiicaa.senderWhole
