/-
  'lifelinelaw07.NfaStar' answers true for every input, and leaves its arguments as they were.
  Conditions: none but what the row itself says of its arguments (how much memory each may take).
-/
import Derived.Test.YtlmjijejgfhmmaaRows
import Derived.Test.YtlmjijejgfhmmaaNfaKit
import Derived.Test.YtlmjijejgfhmmaaRegexMake3
import Derived.Test.YtlmjijejgfhmmaaRegexMakesAll
import Derived.Lib.QuietBelow
import Derived.Deep.RegionHeld3
import Derived.Test.YtlmjijejgfhmmaaFrame
import Derived.WalkKit
import Derived.ProofKit
import Derived.OpenShut
import Derived.ShutString
import Derived.ChangeOld
import Derived.Below
namespace Go.Proofs.Ytlmjijejgfhmmaa.nfaStar
open Go.ChangeShapes Go.WideShapes Go.ChangeAt Go.RowKit
open Go.ChangeMaps (open_string shut_string)
set_option linter.unusedVariables false

theorem own : ownKnob Try.prog.godebug = none := by kernel_rfl
theorem laidOut : laidOutB Try.prog = true := by kernel_rfl

theorem star_many {r : Re} {bs : List UInt8} (h : fitsB (auOf r) bs = true) (k : Nat) : fitsB (auOf (.star r)) (List.replicate k bs).flatten = true :=
  (fits_iff (auOf_ok _) _).2 ⟨List.replicate k bs, rfl, fun u hu => by rw [List.eq_of_mem_replicate hu]; exact (fits_iff (auOf_ok _) _).1 h⟩
theorem rep_len (k : Nat) (bs : List UInt8) : (List.replicate k bs).flatten.length = k * bs.length := by simp
theorem rep_more (k : Nat) (bs : List UInt8) : (List.replicate k bs).flatten ++ bs = (List.replicate (k + 1) bs).flatten := by
  rw [List.replicate_succ', List.flatten_append]; simp
set_option maxHeartbeats 1000000 in
theorem walk (a0 : Option Addr) (n0 c0 : Nat) (b0 : List UInt8) (x1 : Int) (a2 : Option Addr) (n2 c2 : Nat) (b2 : List UInt8) (w : World) (h0 : Bys w w.heap.size a0 n0 b0) (l0 : n0 ≤ c0) (s0 : c0 ≤ 140737488351232) (h1 : 0 ≤ x1 ∧ x1 ≤ 255) (h2 : Bys w w.heap.size a2 n2 b2) (l2 : n2 ≤ c2) (s2 : c2 ≤ 140737488351232) :
    Calls Try.prog 7 #[.slice a0 n0 c0, .int .u8 x1, .slice a2 n2 c2] w fun e w' => e = .returned (.bool true) ∧ Below w.heap.size w w' := by
  have HY0 := keepHid h0
  have HY2 := keepHid h2
  have HAW := keepHid (awake7_any w)
  clear h0 h2
  go_enter Try.func7, Try.ntmps7
  go_wp2_with fail
  with_reducible refine HAW.out.mono ?_
  rintro e w1 ⟨rfl, hb1⟩
  have HB1 := keepHid hb1
  have HMK : Hid (Calls Try.prog 9 #[.slice a0 n0 c0, .int .i64 2] w1 (MakePostD 2 b0 w1)) := keepHid (makes_d (d := 2) (build_all 2 (by decide)) a0 n0 c0 b0 w1 ((HY0.out.below hb1).more hb1.size) (by omega) (by omega))
  clear hb1
  go_wp2_with fail
  with_reducible refine HMK.out.mono ?_
  rintro e w2 ⟨h, rfl, hi2, hb2⟩
  obtain ⟨w3, hw3⟩ : ∃ w3, w2.alloc (.cells (hdC h) 30) = w3 := ⟨_, rfl⟩
  obtain ⟨hi3, hb3, hk3⟩ := node_var hi2 hw3
  have HB3 := keepHid (HB1.out.trans ((hb2.trans (hb3.mono hb2.size)).mono HB1.out.size))
  have HT := keepHid (text_any (k := c2) b2 (HY2.out.below HB3.out))
  have HS3 := keepHid (sm_bld (d := 2) (by decide) b0)
  have HS4 := keepHid (sm_small (r := .star (bldL 2 b0).2.1) (by have := bld_nds 2 b0; simp only [nds]; simp only [bldS] at this; omega))
  have HW3 := keepHid hw3
  unfold hdC at hk3 HW3
  have HK3 := keepHid hk3
  have HI3 := keepHid hi3
  obtain ⟨m0, m1, m2, m3, m4, m5, mf⟩ := blk6 hk3
  clear hi2 hb2 hw3 hi3 hb3 hk3
  unfold hdV at *
  go_upto_region 4 with fail
  rw [HW3.out]
  go_wp2_with fail
  with_reducible refine HT.out.mono ?_
  rintro e w' ⟨rfl, rfl⟩
  generalize hR : (bldL 2 b0).2.1 = r at *
  have hd3 : Below w3.heap.size w3 w3.drew := (Below.refl _ _).drew
  obtain ⟨wa, hwa⟩ : ∃ wa, w3.drew.alloc (.cells #[.int .i64 h.k, .int .u64 (h.s.a.toNat : Int), .int .u64 (h.s.b.toNat : Int), .int .u64 (h.s.c.toNat : Int), .int .u64 (h.s.d.toNat : Int), .slice h.A h.n h.c] 30) = wa := ⟨_, rfl⟩
  have ha3 : Below w3.heap.size w3 wa := by rw [← hwa]; exact hd3.alloc (Nat.le_refl _) _
  have hat3 : AtHd wa w3.heap.size 0 h := by rw [← hwa]; exact blk_at (Blk.new_at _ _ _ _ rfl)
  have HD3 := keepHid hd3
  have HA3 := keepHid ha3
  have HAT3 := keepHid hat3
  have HO1 : Hid (∀ w', Below w3.heap.size w3 w' → Calls Try.prog 11 #[.agg #[.int .i64 h.k, .int .u64 (h.s.a.toNat : Int), .int .u64 (h.s.b.toNat : Int), .int .u64 (h.s.c.toNat : Int), .int .u64 (h.s.d.toNat : Int), .slice h.A h.n h.c]] w' (OfPost r w')) := keepHid (fun w' hb => of_any (re_all (HI3.out.below hb)) HS3.out)
  have HO2 : Hid (∀ w' G, Below w3.heap.size w3 w' → AtHd w' G 0 h → Calls Try.prog 11 #[.agg #[.int .i64 4, .int .u64 0, .int .u64 0, .int .u64 0, .int .u64 0, .slice (some ⟨G, 0, none⟩) 1 1]] w' (OfPost (.star r) w')) := keepHid (fun w' G hb ha => of_any (h := ⟨4, st0, some ⟨G, 0, none⟩, 1, 1⟩) ⟨G, 1, h, rfl, Nat.le_refl _, by unfold maxLen; omega, ha.lt, ha, re_all (HI3.out.below hb)⟩ HS4.out)
  have HCELL : Hid (∀ w', Below w3.heap.size w3 w' → w'.cell? ⟨w2.heap.size, 0, none⟩ = some (.int .i64 h.k) ∧ w'.cell? ⟨w2.heap.size, 1, none⟩ = some (.int .u64 (h.s.a.toNat : Int)) ∧ w'.cell? ⟨w2.heap.size, 2, none⟩ = some (.int .u64 (h.s.b.toNat : Int)) ∧ w'.cell? ⟨w2.heap.size, 3, none⟩ = some (.int .u64 (h.s.c.toNat : Int)) ∧ w'.cell? ⟨w2.heap.size, 4, none⟩ = some (.int .u64 (h.s.d.toNat : Int)) ∧ w'.cell? ⟨w2.heap.size, 5, none⟩ = some (.slice h.A h.n h.c)) := keepHid (fun w' hb => by
    obtain ⟨a0, a1, a2, a3, a4, a5, _⟩ := blk6 (HK3.out.below hb HK3.out.lt)
    exact ⟨a0, a1, a2, a3, a4, a5⟩)
  clear hd3 ha3 hat3 HMK HT HW3 HAW
  go_wp2
  go_region_held3 (fun w' => w'.cell? ⟨w2.heap.size, 0, none⟩ = some (.int .i64 h.k) ∧ w'.cell? ⟨w2.heap.size, 1, none⟩ = some (.int .u64 (h.s.a.toNat : Int)) ∧ w'.cell? ⟨w2.heap.size, 2, none⟩ = some (.int .u64 (h.s.b.toNat : Int)) ∧ w'.cell? ⟨w2.heap.size, 3, none⟩ = some (.int .u64 (h.s.c.toNat : Int)) ∧ w'.cell? ⟨w2.heap.size, 4, none⟩ = some (.int .u64 (h.s.d.toNat : Int)) ∧ w'.cell? ⟨w2.heap.size, 5, none⟩ = some (.slice h.A h.n h.c)) (first | exact HCELL.out _ HD3.out | exact HCELL.out _ HA3.out | exact HCELL.out _ HB4.out | exact HCELL.out _ HBB.out | exact HCELL.out _ HB5.out)
   (first
     | (go_at_call 11
        (with_reducible refine (HO1.out _ HD3.out).mono ?_)
        rintro e w4 ⟨g, rfl, ht4, hb4⟩
        have HB4 := keepHid (HD3.out.trans (hb4.mono HD3.out.size))
        have HT4 := keepHid ht4
        obtain ⟨wb, hwb⟩ : ∃ wb, w4.alloc (.cells #[.int .i64 h.k, .int .u64 (h.s.a.toNat : Int), .int .u64 (h.s.b.toNat : Int), .int .u64 (h.s.c.toNat : Int), .int .u64 (h.s.d.toNat : Int), .slice h.A h.n h.c] 30) = wb := ⟨_, rfl⟩
        have hbb : Below w4.heap.size w4 wb := by rw [← hwb]; exact (Below.refl _ _).alloc (Nat.le_refl _) _
        have HAT : Hid (AtHd wb w4.heap.size 0 h) := keepHid (by rw [← hwb]; exact blk_at (Blk.new_at _ _ _ _ rfl))
        have HBB := keepHid (HB4.out.trans (hbb.mono HB4.out.size))
        have HTB := keepHid (ht4.keep hbb)
        clear ht4 hb4 hbb)
     | (go_at_call 11
        (with_reducible refine (HO1.out _ HA3.out).mono ?_)
        rintro e wb ⟨g, rfl, htb, hbb⟩
        have HBB := keepHid (HA3.out.trans (hbb.mono HA3.out.size))
        have HTB := keepHid htb
        have HAT := keepHid (HAT3.out.keep (hbb.block _ HAT3.out.lt))
        clear htb hbb)
     | (go_at_call 11
        (with_reducible refine (HO2.out _ _ HBB.out HAT.out).mono ?_)
        rintro e w5 ⟨g2, rfl, ht5, hb5⟩
        have HB5 := keepHid (HBB.out.trans (hb5.mono HBB.out.size))
        have HT5 := keepHid (HTB.out.keep hb5)
        have HU5 := keepHid ht5
        clear ht5 hb5))
  all_goals
    have WF1 := keepHid (auOf_wf HS3.out)
    have WF2 := keepHid (auOf_wf HS4.out)
    have HE := keepHid (tabA_empty HU5.out)
    have HL1 := keepHid (tabA_len HT5.out)
    have HL2 := keepHid (tabA_len HU5.out)
    rw [(auOf_ok (.star r)).e, show emp (.star r) = true from rfl] at HE
    rw [au_len] at HL1 HL2
    rw [show sz (.star r) = sz r from rfl] at HL2
    unfold natV at HL1 HL2
    have hl14 := txt_len b2
    generalize hbs : txt b2 = bs at *
    have HF := keepHid (fits_any bs HT5.out WF1.out (by omega))
    have HM := keepHid (fun h k => star_many (r := r) (bs := bs) h k)
    have HFU := keepHid (fun k (hk : k ≤ 4) w6 (hb : Below w5.heap.size w5 w6) => fits_any (List.replicate k bs).flatten (HU5.out.keep hb) WF2.out (by rw [rep_len]; have := Nat.mul_le_mul hk hl14; omega))
    obtain ⟨m, hm⟩ : ∃ m : Nat, x1 % 5 = (m : Int) := ⟨(x1 % 5).toNat, by omega⟩
    have hm2 : x1.tmod 5 = (m : Int) := by rw [← hm, Int.tmod_eq_emod_of_nonneg h1.1]
    have hm4 : m ≤ 4 := by omega
    have hadd : ∀ k, k ≤ 4 → ∀ W, (Op.stringOp .add (strB (List.replicate k bs).flatten) (strB bs)).run Try.prog W = .ok (.string (strB (List.replicate (k + 1) bs).flatten)) W := fun k hk W => by
      have := run_strAdd (P := Try.prog) (List.replicate k bs).flatten bs (by rw [rep_len]; have := Nat.mul_le_mul hk hl14; omega) W
      rw [rep_more] at this; exact this
    have e0 : (⟨#[]⟩ : ByteArray) = strB (List.replicate 0 bs).flatten := rfl
    have HAD := keepHid hadd
    clear hadd hl14 hbs HU5 HT5 WF1 WF2 HS3 HS4 HO1 HO2 HCELL HI3 HK3 hR
    generalize fitsB (auOf r) bs = R at *
    generalize auOf (.star r) = A2 at *
    generalize auOf r = A1 at *
    generalize sz r = N at *
    go_wp2_with fail
    with_reducible refine HE.out.mono ?_
    rintro e w' ⟨rfl, rfl⟩
    go_wp2_with fail
    with_reducible refine HL1.out.mono ?_
    rintro e w' ⟨rfl, rfl⟩
    go_wp2_with fail
    with_reducible refine HL2.out.mono ?_
    rintro e w' ⟨rfl, rfl⟩
    go_wp2_with fail
    with_reducible refine HF.out.mono ?_
    rintro e w6 ⟨rfl, hb6⟩
    have HB6 := keepHid (HB3.out.trans ((HB5.out.trans (hb6.mono HB5.out.size)).mono HB3.out.size))
    have HFV := keepHid (fun k hk => HFU.out k hk w6 hb6)
    clear hb6 HE HL1 HL2 HF HFU
    cases R
    · go_wp2
      go_ret
      exact ⟨rfl, HB6.out⟩
    · have HM' := keepHid (fun k => HM.out rfl k)
      clear HM
      clear HTB HAT hwa
      go_wp2
      go_loop [12, 13] (fun s i => ∃ j : Nat, j ≤ m ∧ s = .string (strB (List.replicate j bs).flatten) ∧ i = .int .i64 j) (fun _ i => m - (intOf i).toNat)
      case atStart => exact ⟨0, Nat.zero_le _, by rw [← e0], rfl⟩
      case round =>
        obtain ⟨j, hj, rfl, rfl⟩ := hrel
        clear e0
        rcases Nat.lt_or_ge j m with hlt | hge
        · have hji : (j : Int) < (m : Int) := by omega
          have hadd := HAD.out j (by omega)
          go_wp2
          go_round
          case rel => exact ⟨j + 1, by omega, rfl, by go_num⟩
          case measure => simp [intOf]; omega
        · have hji : ¬ (j : Int) < (m : Int) := by omega
          have HZ := keepHid (HFV.out j (by omega))
          rw [HM'.out j] at HZ
          clear HFV HM' HAD
          generalize strB (List.replicate j bs).flatten = X at *
          go_wp2_with fail
          with_reducible refine HZ.out.mono ?_
          rintro e w7 ⟨rfl, hb7⟩
          go_wp2
          go_ret
          exact ⟨rfl, HB6.out.trans (hb7.mono HB6.out.size)⟩

set_option maxRecDepth 100000 in
theorem lifted (os : Os) (started : os.Started) (H : Type) (enc : TypeId × Value → H) :
    ReturnsInHanded {} Try.checked os 7 .any (Rows.nfaStarSpec.pre6 enc Try.prog Try.f7 Rows.nfaStarRow.domain false) (Rows.nfaStarSpec.post enc Try.prog Try.f7 false true false false) := by
  refine returnsInHanded_of_change_sized (C := Try.checked) own started (by kernel_rfl) Try.func7
    (ChangeSpec.witness6 (enc := enc) (C := Try.checked) false ⟨#[], #[.slice none 0 0, .int .u8 0, .slice none 0 0], []⟩ 8 (by kernel_rfl) (by kernel_rfl) (by kernel_rfl) (by kernel_rfl)) ?_
  intro W base args ds gs before hval0 hW hcnd hsz0 _
  have hsz : (DataW.weightsEach Try.prog (Try.f7.params.toList ++ Rows.nfaStarSpec.plain.varTypes Try.prog) (ds ++ gs)).all (· ≤ reachBytes) = true := hsz0
  clear hsz0
  have hval : ∀ (j : Nat) t v, Try.f7.params[j]? = some t → args[j]? = some v → Value.okWide Try.prog W .any base t v := hval0
  have hW' := hW
  obtain ⟨p, q, hA0, hV, rfl, hfz, hnd⟩ := hW
  have hA : DataW.TrodAll enc Try.prog W 0 (fun _ => true) true Try.f7.params.toList args.toList ds p := hA0
  rw [Try.params7] at hA hval hsz
  obtain ⟨v0, vs0, d0, ds0, p0, q0, hargs, rfl, rfl, h0, r0⟩ := trodAll_cons hA
  obtain ⟨v1, vs1, d1, ds1, p1, q1, rfl, rfl, rfl, h1, r1⟩ := trodAll_cons r0
  obtain ⟨v2, vs2, d2, ds2, p2, q2, rfl, rfl, rfl, h2, r2⟩ := trodAll_cons r1
  obtain ⟨rfl, rfl, rfl⟩ := trodAll_nil r2
  obtain rfl : args = #[v0, v1, v2] := by cases args; simp_all
  obtain ⟨rfl, rfl⟩ := trodVars_none hV
  have k0 := h0
  have lt0 : ∀ x ∈ p0, x.block < W.heap.size := by obtain ⟨m, hm⟩ := k0; exact DataW.trod_lt m _ _ _ hm
  have k1 := h1
  have lt1 : ∀ x ∈ p1, x.block < W.heap.size := by obtain ⟨m, hm⟩ := k1; exact DataW.trod_lt m _ _ _ hm
  have k2 := h2
  have lt2 : ∀ x ∈ p2, x.block < W.heap.size := by obtain ⟨m, hm⟩ := k2; exact DataW.trod_lt m _ _ _ hm
  obtain ⟨a0, n0, c0, b0, rfl, w0, l0, s0⟩ := open_bys Try.underlying22 Try.underlying5 (by kernel_rfl) (by kernel_rfl) (hval 0 22 v0 rfl rfl) (fun _ => rfl) h0 (fun el sp hd => sized_slice hsz (j := 0) (t := 22) (e := 5) rfl (by rw [hd]; rfl) Try.underlying22)
  obtain ⟨x1, rfl, rfl, rfl, w1⟩ := open_int Try.underlying5 (hval 1 5 v1 rfl rfl) h1
  obtain ⟨a2, n2, c2, b2, rfl, w2, l2, s2⟩ := open_bys Try.underlying22 Try.underlying5 (by kernel_rfl) (by kernel_rfl) (hval 2 22 v2 rfl rfl) (fun _ => rfl) h2 (fun el sp hd => sized_slice hsz (j := 2) (t := 22) (e := 5) rfl (by rw [hd]; rfl) Try.underlying22)
  clear hA0 hval0
  refine (walk a0 n0 c0 b0 x1 a2 n2 c2 b2 W w0 l0 s0 (wf_u8 w1) w2 l2 s2).mono fun e W' ⟨he, bel⟩ => ?_
  subst he
  exact ⟨_, rfl, _, _, _, [], _, [], hW', trodAll_mk1 (shut_bool Try.underlying4 _), (trodAll_cons_mk (Below.trod laidOut (by kernel_rfl) (of_decide_eq_true (by kernel_rfl)) k0 bel lt0) (trodAll_cons_mk (Below.trod laidOut (by kernel_rfl) (of_decide_eq_true (by kernel_rfl)) k1 bel lt1) (trodAll_cons_mk (Below.trod laidOut (by kernel_rfl) (of_decide_eq_true (by kernel_rfl)) k2 bel lt2) trodAll_mk0))), rfl, bel.frame _, fun h => by cases h⟩

theorem over : Rows.nfaStarRow.holds Try.pinned (OpenSpec.ofChange Rows.nfaStarSpec) :=
  OpenClaim.holds_of_wide 7 Try.f7 rfl rfl rfl rfl rfl rfl rfl ⟨rfl, rfl, rfl, rfl, rfl⟩ rfl rfl rfl rfl rfl (by kernel_rfl) Try.func7 (by kernel_rfl)
    (of_decide_eq_true (by kernel_rfl)) (by unfold Func.isWrapper; first | (rw [if_pos (by decide +kernel)]; kernel_rfl) | (rw [if_neg (by decide +kernel)]; exact ⟨rfl, rfl⟩))
    (fun os started H enc _ => lifted os started H enc)

theorem proved : Rows.NfaStarSaid := over
end Go.Proofs.Ytlmjijejgfhmmaa.nfaStar
