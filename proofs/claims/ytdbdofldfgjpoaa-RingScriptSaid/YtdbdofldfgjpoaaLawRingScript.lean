/-
  'lifelinelaw02.RingScript' answers true for every input, and leaves its arguments as they were.
  Conditions: none but what the row itself says of its arguments (how much memory each may take).
-/
import Derived.Test.YtdbdofldfgjpoaaRows
import Derived.Test.YtdbdofldfgjpoaaRingUse
import Derived.Test.YtdbdofldfgjpoaaFrame
import Derived.Test.YtdbdofldfgjpoaaFrameRows
import Derived.WalkKit
import Derived.Deep.RegionHeld3
import Derived.Deep.RegionWith
import Derived.Deep.DrawnRows
import Derived.Deep.DeepCutAuto
import Derived.ProofKit
import Derived.OpenShut
import Derived.ShutString
import Derived.ChangeOld
import Derived.Below
namespace Go.Proofs.Ytdbdofldfgjpoaa.ringScript
open Go.ChangeShapes Go.WideShapes Go.ChangeAt Go.RowKit
open Go.ChangeMaps (open_string shut_string)
set_option linter.unusedVariables false

theorem own : ownKnob Try.prog.godebug = none := by kernel_rfl
theorem laidOut : laidOutB Try.prog = true := by kernel_rfl

set_option maxRecDepth 100000 in
set_option maxHeartbeats 8000000 in
theorem walk (x0 : Int) (a1 : Option Addr) (n1 c1 : Nat) (y1 : List (List UInt8 × Int)) (w : World) (h0 : -32768 ≤ x0 ∧ x0 ≤ 32767) (h1 : ActsB .i8 w a1 n1 y1) (l1 : n1 ≤ c1) (s1 : c1 ≤ 9223372036854775807) :
    Calls Try.prog 3 #[.int .i16 x0, .slice a1 n1 c1] w fun e w' => e = .returned (.bool true) ∧ Below w.heap.size w w' := by
  have H1 := keepHid h1
  clear h1
  obtain ⟨N, hN⟩ : ∃ N, OfN x0 N := by
    by_cases h1 : x0 < 1
    · exact ⟨1, .inl ⟨h1, rfl⟩⟩
    · by_cases h2 : x0 ≤ 4096
      · exact ⟨x0.toNat, .inr (.inl ⟨by omega, h2, by omega⟩)⟩
      · exact ⟨4096, .inr (.inr ⟨by omega, rfl⟩)⟩
  have HN := keepHid hN
  have hN1 : N ≤ 4096 := by unfold OfN at hN; omega
  clear hN
  have hnil : (⟨#[]⟩ : ByteArray) = strB [] := rfl
  have HNIL := keepHid hnil
  clear hnil
  go_enter Try.func3, Try.ntmps3
  go_wp2_with fail
  refine (awake_any _).mono ?_
  rintro e w1 ⟨rfl, hb⟩
  have HB1 := keepHid hb
  clear hb
  go_wp2_with fail
  refine (of_ring x0 N HN.out _).mono ?_
  rintro e w2 ⟨g, c, rfl, hr, hg, hc, hb⟩
  have HR2 := keepHid hr
  have hg' : w.heap.size ≤ g := Nat.le_trans HB1.out.size hg
  have hc' : w.heap.size ≤ c := Nat.le_trans HB1.out.size hc
  have HB2 := keepHid (HB1.out.trans (hb.mono HB1.out.size))
  clear hr hb hg hc
  go_upto_region 4 with fail
  go_cut [6] (fun s6 wx => s6 = .int .i64 (N : Int) ∧ wx = w2)
  case first =>
    have hN' : (x0 < 1 ∧ 1 = N) ∨ (x0 = 1 ∧ 1 = N) ∨ (1 < x0 ∧ x0 ≤ 4096 ∧ x0 = (N : Int)) ∨ (4096 < x0 ∧ 4096 = N) := by have := HN.out; unfold OfN at this; omega
    rcases hN' with ⟨h1, h2⟩ | ⟨rfl, h2⟩ | ⟨h1, h2, h3⟩ | ⟨h1, h2⟩
    all_goals
      have HE := keepHid h2
      clear h2
      go_wp2_with fail
      go_meet
      case rel => exact ⟨by first | rfl | (rw [← HE.out]; rfl), rfl⟩
  case rest =>
    obtain ⟨rfl, rfl⟩ := hcut
    go_wp2
    go_loopw [7, 8, 24] (fun s lo i wr => ∃ (k : Nat) (q : List UInt8) (l : Int), k ≤ n1 ∧ i = .int .i64 k ∧ s = .string (strB q) ∧ lo = .int .i64 l ∧ Ring wr g c N q l ∧ Below w.heap.size w wr) (fun _ _ i _ => n1 - (intOf i).toNat)
    case atStart => exact ⟨0, [], 0, Nat.zero_le _, rfl, by rw [HNIL.out], rfl, HR2.out, HB2.out⟩
    case round =>
      obtain ⟨k, q, l, hk, rfl, rfl, rfl, hr, hbw⟩ := hrel
      have HR := keepHid hr
      have HBW := keepHid hbw
      have hqN := hr.len
      clear hr hbw
      by_cases hlt : k < n1
      · obtain ⟨⟨bs, z⟩, hrow⟩ : ∃ r, y1[k]? = some r := ⟨_, List.getElem?_eq_getElem (by rw [H1.out.1]; exact hlt)⟩
        obtain ⟨ad, Ak, ck, rfl, had, hc0, hc1, hwz, hlc, hcm, hby⟩ := H1.out.2 k (bs, z) hrow
        simp only at hc0 hc1 hwz hlc hby
        obtain ⟨hz1, hz2⟩ := wf_i8 hwz
        have hc0' : wr.cell? (ad.add (k * 2)) = some (.slice Ak bs.length ck) := (HBW.out.cell (by rw [ad_block]; exact had)).trans hc0
        have e1 : (⟨(ad.add (k * 2)).block, (ad.add (k * 2)).off + 1, none⟩ : Addr) = ad.add (k * 2 + 1) := by rw [← ad_add, Addr.add_succ' (ad.add (k * 2)) 0]
        have hc1' : wr.cell? ⟨(ad.add (k * 2)).block, (ad.add (k * 2)).off + 1, none⟩ = some (.int .i8 z) := by rw [e1]; exact (HBW.out.cell (by rw [ad_block]; exact had)).trans hc1
        clear e1
        have HBY := keepHid (hby.below HBW.out)
        have hap : Apart (Own g c) Ak bs.length := hby.apart (by intro i hi; rcases hi with rfl | rfl <;> assumption)
        have HAP := keepHid hap
        generalize hnb : bs.length = nb at *
        have HNB := keepHid hnb
        clear hrow hc0 hc1 hby hap hwz hnb
        have hsz := strB_size q
        obtain ⟨r, hr⟩ : ∃ r, q.length + r = N := ⟨N - q.length, by omega⟩
        have hrz : (N : Int) - (q.length : Int) = (r : Int) := by omega
        obtain ⟨m, hm⟩ : ∃ m, (nb ≤ r ∧ m = nb) ∨ (r < nb ∧ m = r) := by
          by_cases h : nb ≤ r
          · exact ⟨nb, .inl ⟨h, rfl⟩⟩
          · exact ⟨r, .inr ⟨by omega, rfl⟩⟩
        have hm' : (nb ≤ N - q.length ∧ m = nb) ∨ (N - q.length < nb ∧ m = N - q.length) := by omega
        have HM := keepHid hm
        have HM' := keepHid hm'
        have hmn : m ≤ nb := by omega
        have hmc : (m : Int) ≤ (ck : Int) := by omega
        have hqm : q.length + m ≤ N := by omega
        clear hm hm' hr
        go_upto_region 9 with fail
        have hva : Blk (wr.alloc (.cells #[.slice Ak nb ck, .int .i8 z] 30)) wr.heap.size 30 #[.slice Ak nb ck, .int .i8 z] := Blk.new _ _ _
        have hra := HR.out.alloc (.cells #[.slice Ak nb ck, .int .i8 z] 30)
        have hbya := HBY.out.alloc HBW.out.size (.cells #[.slice Ak nb ck, .int .i8 z] 30)
        have hbwa := HBW.out.alloc HBW.out.size (.cells #[.slice Ak nb ck, .int .i8 z] 30)
        have hgv := HR.out.ltg
        have hcv := HR.out.lth
        have hwv := HBW.out.size
        have nV : ¬ Own g c wr.heap.size := by unfold Own; omega
        have HNV := keepHid nV
        generalize wr.alloc (.cells #[.slice Ak nb ck, .int .i8 z] 30) = wa at *
        have HVA := keepHid hva
        have HRA := keepHid hra
        have HBYA := keepHid hbya
        have HBWA := keepHid hbwa
        have hv0 : wa.cell? ⟨wr.heap.size, 0, none⟩ = some (.slice Ak nb ck) := hva.cell 0
        clear hva hra hbya hbwa nV hc0' hc1' HR HBY HBW
        generalize wr.heap.size = v at *
        go_cut [11] (fun s wx => s = .int .i64 (m : Int) ∧ wx = wa)
        case first =>
          rcases HM.out with ⟨h1, rfl⟩ | ⟨h1, rfl⟩
          all_goals
            go_wp2_with fail
            go_meet
            case rel => exact ⟨rfl, rfl⟩
        case rest =>
        obtain ⟨rfl, rfl⟩ := hcut
        go_wp2_with fail
        refine (put_ring g c N q l _ nb ck _ m bs _ HRA.out HBYA.out HBWA.out.size hlc hcm HAP.out HM'.out).mono ?_
        rintro e w3 ⟨rfl, hr3, ht3⟩
        unfold lostBy at hr3
        have hb3 := HBWA.out.trans (ht3.below (B := w.heap.size) (by intro i hi; rcases hi with rfl | rfl <;> assumption) HBWA.out.size)
        have hva3 := ht3.blk HVA.out HNV.out
        have hv0' : w3.cell? ⟨v, 0, none⟩ = some (.slice Ak nb ck) := hva3.cell 0
        have hv1' : w3.cell? ⟨v, 1, none⟩ = some (.int .i8 z) := hva3.cell 1
        have hcvs := run_str (P := Try.prog) (c := ck) 27 5 9 Try.underlying27 Try.underlying5 Try.underlying9 ((HBYA.out.turn ht3 HBWA.out.size HAP.out).head hmn)
        have hltk : (bs.take m).length = m := by rw [List.length_take, HNB.out]; omega
        have hadd := run_strAdd (P := Try.prog) q (bs.take m) (by rw [hltk]; omega)
        obtain ⟨q1, hq1⟩ : ∃ q1, q ++ bs.take m = q1 := ⟨_, rfl⟩
        rw [hq1] at hr3 hadd
        have hq1N := hr3.len
        have HR3 := keepHid hr3
        have HB3 := keepHid hb3
        clear hr3 ht3 hb3 hva3 hv0 hq1 hltk
        go_upto_region 14 with fail
        clear hadd hcvs hrz hmc hv0'
        have hsz := strB_size q1
        have hL : q1.length ≤ 4096 := by omega
        obtain ⟨L, hLe⟩ : ∃ L, q1.length = L := ⟨_, rfl⟩
        rw [hLe] at hsz hL hq1N
        obtain ⟨m2, hm2⟩ : ∃ m2 : Nat, (z < 0 ∧ 0 = m2) ∨ (z = 0 ∧ 0 = m2) ∨ (1 ≤ z ∧ z ≤ (L : Int) ∧ z = (m2 : Int)) ∨ ((L : Int) < z ∧ L = m2) := by
          by_cases g1 : z < 1
          · exact ⟨0, by omega⟩
          · by_cases g2 : z ≤ (L : Int)
            · exact ⟨z.toNat, by omega⟩
            · exact ⟨L, by omega⟩
        have HM2 := keepHid hm2
        have hm2L : m2 ≤ L := by omega
        have HLE := keepHid hLe
        clear hm2 hLe
        go_cut [12] (fun s wx => s = .int .i64 (m2 : Int) ∧ wx = w3)
        case first =>
          rcases HM2.out with ⟨h1, h2⟩ | ⟨rfl, h2⟩ | ⟨h1, h2, rfl⟩ | ⟨h1, rfl⟩
          have h3 : z ≤ (L : Int) := by omega
          have h4 : ¬ 0 < z := by omega
          all_goals
            try (have HE := keepHid h2)
            try clear h2
            go_wp2_with fail
            all_goals
              go_meet
              case rel => exact ⟨by first | rfl | exact congrArg (Value.int .i64) (by omega) | (rw [← HE.out]; rfl), rfl⟩
        case rest =>
        obtain ⟨rfl, rfl⟩ := hcut
        have hb1 : (0 : Int) ≤ (m2 : Int) := by omega
        have hb2 : (m2 : Int) ≤ (L : Int) := by omega
        have hx1 : (strB q1).extract 0 m2 = strB (q1.take m2) := strB_take q1 m2
        have hx2 : (strB q1).extract m2 L = strB (q1.drop m2) := by rw [← HLE.out]; exact strB_drop q1 m2
        go_upto_region 15 with fail
        have hzw : IntKind.i64.wrap z = z := IntWalk.i64_in _ (by omega)
        go_region_with
          (first
            | (go_at_call 12
               with_reducible (refine (take_ring g c N q1 _ z m2 _ HR3.out.drew ?_).mono ?_)
               · have := HM2.out; rw [HLE.out]; omega
               rintro e w4 ⟨t, rfl, hr4, hk4, ht, ht4⟩
               have hcv4 := run_str (P := Try.prog) (c := m2) 27 5 9 Try.underlying27 Try.underlying5 Try.underlying9 (bys_of_blk hk4 (n := m2) (by rw [List.length_take, HLE.out]; omega) (by omega))
               have HR4 := keepHid hr4
               have HB4 := keepHid (HB3.out.drew.trans (ht4.below (B := w.heap.size) (by intro i hi; rcases hi with rfl | rfl <;> assumption) HB3.out.size))
               clear hr4 hk4 ht4))
        all_goals
          obtain ⟨q2, hq2⟩ : ∃ q2, q1.drop m2 = q2 := ⟨_, rfl⟩
          have hr4 := HR4.out
          rw [hq2] at hr4 hx2
          have HR5 := keepHid hr4
          have hq2N := hr4.len
          obtain ⟨r2, hr2⟩ : ∃ r2, q2.length + r2 = N := ⟨N - q2.length, by omega⟩
          have HRR := keepHid hr2
          have hrz2 : (N : Int) - (q2.length : Int) = (r2 : Int) := by omega
          have hsz2 := strB_size q2
          clear hq2 hr4 hr2 hzw
          go_wp2_with fail
          refine (len_ring g c _ _ _ _ HR5.out).mono ?_
          rintro e w' ⟨rfl, rfl⟩
          go_wp2_with fail
          refine (room_ring g c _ _ _ r2 HRR.out _ HR5.out).mono ?_
          rintro e w' ⟨rfl, d, rfl⟩
          go_wp2_with fail
          refine (lost_ring g c _ _ _ _ (HR5.out.drewN _)).mono ?_
          rintro e w' ⟨rfl, rfl⟩
          go_wp2
          go_roundw
          case rel => exact ⟨k + 1, q2, _, by omega, by go_num, rfl, rfl, HR5.out.drewN _, below_drewN HB4.out _⟩
          case measure => simp [intOf]; omega
      · obtain rfl : k = n1 := by omega
        go_wp2
        go_ret
        exact ⟨rfl, HBW.out⟩

set_option maxRecDepth 100000 in
theorem lifted (os : Os) (started : os.Started) (H : Type) (enc : TypeId × Value → H) :
    ReturnsInHanded {} Try.checked os 3 .any (Rows.ringScriptSpec.pre6 enc Try.prog Try.f3 Rows.ringScriptRow.domain false) (Rows.ringScriptSpec.post enc Try.prog Try.f3 false true false false) := by
  refine returnsInHanded_of_change_sized (C := Try.checked) own started (by kernel_rfl) Try.func3
    (ChangeSpec.witness6 (enc := enc) (C := Try.checked) false ⟨#[], #[.int .i16 0, .slice none 0 0], []⟩ 8 (by kernel_rfl) (by kernel_rfl) (by kernel_rfl) (by kernel_rfl)) ?_
  intro W base args ds gs before hval0 hW hcnd hsz0 _
  have hsz : (DataW.weightsEach Try.prog (Try.f3.params.toList ++ Rows.ringScriptSpec.plain.varTypes Try.prog) (ds ++ gs)).all (· ≤ reachBytes) = true := hsz0
  clear hsz0
  have hval : ∀ (j : Nat) t v, Try.f3.params[j]? = some t → args[j]? = some v → Value.okWide Try.prog W .any base t v := hval0
  have hW' := hW
  obtain ⟨p, q, hA0, hV, rfl, hfz, hnd⟩ := hW
  have hA : DataW.TrodAll enc Try.prog W 0 (fun _ => true) true Try.f3.params.toList args.toList ds p := hA0
  rw [Try.params3] at hA hval hsz
  obtain ⟨v0, vs0, d0, ds0, p0, q0, hargs, rfl, rfl, h0, r0⟩ := trodAll_cons hA
  obtain ⟨v1, vs1, d1, ds1, p1, q1, rfl, rfl, rfl, h1, r1⟩ := trodAll_cons r0
  obtain ⟨rfl, rfl, rfl⟩ := trodAll_nil r1
  obtain rfl : args = #[v0, v1] := by cases args; simp_all
  obtain ⟨rfl, rfl⟩ := trodVars_none hV
  have k0 := h0
  have lt0 : ∀ x ∈ p0, x.block < W.heap.size := by obtain ⟨m, hm⟩ := k0; exact DataW.trod_lt m _ _ _ hm
  have k1 := h1
  have lt1 : ∀ x ∈ p1, x.block < W.heap.size := by obtain ⟨m, hm⟩ := k1; exact DataW.trod_lt m _ _ _ hm
  obtain ⟨x0, rfl, rfl, rfl, w0⟩ := open_int Try.underlying22 (hval 0 22 v0 rfl rfl) h0
  obtain ⟨a1, n1, c1, y1, rfl, w1, l1, s1⟩ := open_acts Try.underlying23 Try.underlying30 ⟨rfl, rfl⟩ ⟨rfl, rfl⟩ Try.underlying27 Try.underlying5 Try.underlying28 (by kernel_rfl) (by kernel_rfl) (by kernel_rfl) (by kernel_rfl) (hval 1 23 v1 rfl rfl) h1
  clear hA0 hval0
  refine (walk x0 a1 n1 c1 y1 W (wf_i16 w0) w1 l1 s1).mono fun e W' ⟨he, bel⟩ => ?_
  subst he
  exact ⟨_, rfl, _, _, _, [], _, [], hW', trodAll_mk1 (shut_bool Try.underlying4 _), (trodAll_cons_mk (Below.trod laidOut (by kernel_rfl) (of_decide_eq_true (by kernel_rfl)) k0 bel lt0) (trodAll_cons_mk (Below.trod laidOut (by kernel_rfl) (of_decide_eq_true (by kernel_rfl)) k1 bel lt1) trodAll_mk0)), rfl, bel.frame _, fun h => by cases h⟩

theorem over : Rows.ringScriptRow.holds Try.pinned (OpenSpec.ofChange Rows.ringScriptSpec) :=
  OpenClaim.holds_of_wide 3 Try.f3 rfl rfl rfl rfl rfl rfl rfl ⟨rfl, rfl, rfl, rfl, rfl⟩ rfl rfl rfl rfl rfl (by kernel_rfl) Try.func3 (by kernel_rfl)
    (of_decide_eq_true (by kernel_rfl)) (by unfold Func.isWrapper; first | (rw [if_pos (by decide +kernel)]; kernel_rfl) | (rw [if_neg (by decide +kernel)]; exact ⟨rfl, rfl⟩))
    (fun os started H enc _ => lifted os started H enc)

theorem proved : Rows.RingScriptSaid := over
end Go.Proofs.Ytdbdofldfgjpoaa.ringScript
