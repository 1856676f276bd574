/-
  A number that begins a text, by the law's own reading.
-/
import Derived.Test.YtgokejoieafgiaaDoorTokenOne
import Derived.Lib.QuietBelow
namespace Go.Proofs.YtgokejoieafgiaaDoor
open Go.RowKit
set_option linter.unusedVariables false

/-- What the law makes of a number, as far as it counts. -/
def Cap (u v : Nat) : Prop := v < 35184372088832 ∧ (v = u ∨ (1099511627776 ≤ v ∧ 1099511627776 ≤ u))
theorem cap_0 : Cap 0 0 := ⟨by decide, .inl rfl⟩
theorem cap_go {b u v d : Nat} (h : Cap u v) (hv : v < 1099511627776) (hb : 1 ≤ b ∧ b ≤ 16) (hd : d < 16) : Cap (u * b + d) (v * b + d) := by
  obtain ⟨h1, h2⟩ := h
  have h3 := Nat.mul_le_mul_left v hb.2
  rcases h2 with rfl | h2
  · exact ⟨by omega, .inl rfl⟩
  · omega
theorem cap_stay {b u v d : Nat} (h : Cap u v) (hv : 1099511627776 ≤ v) (hb : 1 ≤ b) : Cap (u * b + d) v := by
  obtain ⟨h1, h2⟩ := h
  have h3 : u * 1 ≤ u * b := Nat.mul_le_mul_left u hb
  refine ⟨h1, .inr ⟨hv, ?_⟩⟩
  rcases h2 with rfl | h2 <;> omega
theorem cap_big {u v : Nat} (h : Cap u v) : (4294967296 ≤ v ↔ 4294967296 ≤ u) ∧ (v < 4294967296 → v = u) := by
  obtain ⟨h1, h2⟩ := h
  rcases h2 with rfl | h2
  · exact ⟨Iff.rfl, fun _ => rfl⟩
  · exact ⟨⟨fun _ => by omega, fun _ => by omega⟩, fun h => by omega⟩
/-- The number's signs, as far as they are read. -/
def valK (b : Nat) (l : List UInt8) (i k : Nat) : Nat := valB b ((l.drop i).take (k - i)) 0
theorem valK_step {b : Nat} {l : List UInt8} {i k : Nat} {c : UInt8} (hk : l[k]? = some c) (hi : i ≤ k) : valK b l i (k + 1) = valK b l i k * b + dgt c := by
  unfold valK
  have e : (l.drop i)[k - i]? = some c := by rw [List.getElem?_drop, show i + (k - i) = k by omega]; exact hk
  rw [show k + 1 - i = (k - i) + 1 by omega, val_step e]
theorem valK_0 (b : Nat) (l : List UInt8) (i : Nat) : valK b l i i = 0 := by unfold valK; rw [Nat.sub_self]; rfl
theorem num_fin {l : List UInt8} {i k : Nat} {set : List UInt8} (hi : leadN l = i) (hs : digN l = set) (hk : i ≤ k) (h : (runOf set (l.drop i)).length = k - i) : bodyN l = (l.drop i).take (k - i) ∧ sizeN l = k := by
  have e : bodyN l = (l.drop i).take (k - i) := by
    unfold bodyN
    rw [hi, hs, ← h, runOf_take]
  refine ⟨e, ?_⟩
  unfold sizeN
  have : (bodyN l).length = k - i := by unfold bodyN; rw [hi, hs, h]
  rw [this, hi]; omega
theorem regrown_bel {w wz : World} {dq : Nat} {osq : Array Obj} (h : wz = Sort.grow (redrawn w dq) osq) : Below w.heap.size w wz := h ▸ below_regrown w dq osq

set_option maxRecDepth 100000 in
set_option maxHeartbeats 16000000 in
theorem one_hex (c : UInt8) (r : List UInt8) (hl : (c :: r).length ≤ 4096) (hs : signL.contains c = false) (hlet : letL.contains c = false) (hdec : decL.contains c = true) (hx : isHex (c :: r) = true) (h1 : 1 < (c :: r).length) (w : World) :
    Calls Tryd.prog 23 #[.string (strB (c :: r))] w fun e w' => e = .returned (resV (firstT (c :: r))) ∧ Below w.heap.size w w' := by
  obtain ⟨w1, hw1⟩ : ∃ w1, w.alloc (.cells #[.int .i64 0, .string ⟨#[]⟩, .int .i64 0, .int .i64 0] 36) = w1 := ⟨_, rfl⟩
  have HR := keepHid (tok_new w w1 hw1)
  obtain ⟨c0, c1, c2, c3, cf⟩ := blk4 HR.out.1
  have hidx := fun w => run_idx (l := c :: r) (k := 0) (c := c) rfl 0 rfl w
  have HI : Hid (∀ w, Calls Tryd.prog 22 #[.int .u8 (c.toNat : Int), .string ⟨#[58, 59, 44, 123, 125]⟩] w fun e w' => e = .returned (.bool false) ∧ w' = w) := keepHid fun w => by
    have := in_any signL c (by decide) w
    rw [hs] at this
    exact this
  have hcd : (48 : Int) ≤ (c.toNat : Int) ∧ (c.toNat : Int) ≤ 57 := by
    rw [dec_is] at hdec
    simp only [Bool.and_eq_true, decide_eq_true_eq] at hdec
    omega
  obtain ⟨hcd1, hcd2⟩ := hcd
  have hc97 : ¬ (97 : Int) ≤ (c.toNat : Int) := by omega
  have HFT := keepHid (first_dec (r := r) hlet hdec)
  have HISH := keepHid hx
  have HLEAD : Hid (leadN (c :: r) = 2) := keepHid (by unfold leadN; rw [hx]; rfl)
  have HBASE : Hid (baseN (c :: r) = 16) := keepHid (by unfold baseN; rw [hx]; rfl)
  have HSET : Hid (digN (c :: r) = hexL) := keepHid (by unfold digN; rw [hx]; rfl)
  generalize (c.toNat : Int) = cn at *
  clear hs hlet hdec hx
  obtain ⟨l, hL⟩ : ∃ l, c :: r = l := ⟨_, rfl⟩
  rw [hL] at hl h1 HFT HISH HLEAD HBASE HSET hidx ⊢
  have hlen : (strB l).size = l.length := strB_size l
  obtain ⟨N, hN⟩ : ∃ N, l.length = N := ⟨_, rfl⟩
  have HN := keepHid hN
  have hle : 2 ≤ N := by have := lead_le l; rw [HLEAD.out] at this; omega
  rw [hN] at hlen hl h1
  have HIN : Hid (∀ (d : UInt8) w, Calls Tryd.prog 22 #[.int .u8 (d.toNat : Int), .string ⟨#[48, 49, 50, 51, 52, 53, 54, 55, 56, 57, 97, 98, 99, 100, 101, 102]⟩] w fun e w' => e = .returned (.bool (hexL.contains d)) ∧ w' = w) := keepHid fun d w => in_any hexL d (by decide) w
  have hlen1 : (1 : Int) < (N : Int) := by omega
  have hcut2 : ∀ w, (Instr.slice 9 (.string (strB l)) none (some (.int .i64 2)) none).run Tryd.prog w = .ok (.string (strB (l.take 2))) w := fun w => run_upto (k := 2) (by rw [HN.out]; omega) 2 rfl w
  have hcmp : ((strB (l.take 2)).toList == [48, 120]) = true := by
    have h := strB_beq (l.take 2) [48, 120]
    rw [strB_toList [48, 120]] at h
    refine h.trans ?_
    rw [← HISH.out]
    unfold isHex
    rw [Bool.eq_iff_iff, decide_eq_true_eq]
    constructor
    · intro e
      rw [List.isPrefixOf_iff_prefix]
      exact ⟨l.drop 2, by rw [← e, List.take_append_drop]⟩
    · intro e
      rw [List.isPrefixOf_iff_prefix] at e
      exact (List.prefix_iff_eq_take.1 e).symm
  clear hN hL
  go_enter Tryd.func23, Tryd.ntmps23
  go_wp2_with ((with_reducible refine (HI.out _).mono ?_); rintro e w' ⟨rfl, rfl⟩)
  clear hidx HI hw1 hcd1 hcd2 hc97 hlen1 hcut2 hcmp h1
  go_loop [9, 10] (fun nv vv => ∃ k v : Nat, nv = .int .i64 (k : Int) ∧ vv = .int .u64 (v : Int) ∧ 2 ≤ k ∧ k ≤ N ∧ v < 35184372088832 ∧ Hid (RunAt hexL l 2 k) ∧ Hid (Cap (valK 16 l 2 k) v)) (fun nv _ => N - (intOf nv).toNat)
  case atStart => exact ⟨2, 0, rfl, rfl, Nat.le_refl _, hle, by decide, keepHid (runAt_0 _ _ _), keepHid (by rw [valK_0]; exact cap_0)⟩
  case round =>
    obtain ⟨k, v, rfl, rfl, hk1, hk, hvb, HA, HC⟩ := hrel
    by_cases hkN : k < N
    · obtain ⟨d, hd⟩ : ∃ d, l[k]? = some d := ⟨_, List.getElem?_eq_getElem (by rw [HN.out]; exact hkN)⟩
      have hix := fun w => run_idx hd (k : Int) rfl w
      have HWD := keepHid (HIN.out d)
      have hkI : (k : Int) < (N : Int) := by omega
      cases hwd : hexL.contains d with
      | true =>
        have HA1 := keepHid (runAt_step HA.out hd hk1 hwd)
        have hrg := rng16 d (List.contains_iff_mem.1 hwd)
        have hdg : dgt d < 16 := by rcases hrg with h | h <;> omega
        have HVAL := keepHid (value_any d (by omega))
        rw [hwd] at HWD
        by_cases hv : v < 1099511627776
        · have HC1 : Hid (Cap (valK 16 l 2 (k + 1)) (v * 16 + dgt d)) := keepHid (by rw [valK_step hd hk1]; exact cap_go HC.out hv (by decide) hdg)
          have hvb1 := HC1.out.1
          have HDI : Hid (((v * 16 + dgt d : Nat) : Int) = (v : Int) * 16 + (dgt d : Int)) := keepHid (by omega)
          have hdI : (dgt d : Int) < 16 := by omega
          have hdI0 : (0 : Int) ≤ (dgt d : Int) := by omega
          generalize v * 16 + dgt d = v1 at *
          generalize (dgt d : Int) = dI at *
          generalize (d.toNat : Int) = dn at *
          clear hd hwd HA HC hrg hdg
          go_upto_if 73 with ((with_reducible refine (HWD.out _).mono ?_); rintro e w' ⟨rfl, rfl⟩)
          refine wp_cond_split rfl (fun h => ?_) (fun h => ?_)
          case refine_2 => exfalso; have := of_decide_eq_false h; omega
          clear h
          go_wp2_with (first | ((with_reducible refine (HWD.out _).mono ?_); rintro e w' ⟨rfl, rfl⟩) | ((with_reducible refine (HVAL.out _).mono ?_); rintro e w' ⟨rfl, rfl⟩))
          go_round
          case rel => exact ⟨k + 1, v1, by go_num, by rw [HDI.out], by omega, by omega, hvb1, HA1, HC1⟩
          case measure => simp [intOf]; omega
        · have HC1 : Hid (Cap (valK 16 l 2 (k + 1)) v) := keepHid (by rw [valK_step hd hk1]; exact cap_stay HC.out (by omega) (by decide))
          generalize (d.toNat : Int) = dn at *
          clear hd hwd HA HC hrg hdg HVAL
          go_upto_if 73 with ((with_reducible refine (HWD.out _).mono ?_); rintro e w' ⟨rfl, rfl⟩)
          refine wp_cond_split rfl (fun h => ?_) (fun h => ?_)
          case refine_1 => exfalso; have := of_decide_eq_true h; omega
          clear h
          go_wp2
          go_round
          case rel => exact ⟨k + 1, v, by go_num, rfl, by omega, by omega, hvb, HA1, HC1⟩
          case measure => simp [intOf]; omega
      | false =>
        have hrun := runAt_stop HA.out hd hwd
        obtain ⟨hbody, hsize⟩ := num_fin HLEAD.out HSET.out hk1 hrun
        have HNB : Hid (numBad l = (!okN ((l.drop 2).take (k - 2)) || decide (4294967296 ≤ valK 16 l 2 k) || letAt l k)) := keepHid (by rw [numBad_is, hbody, HBASE.out, hsize]; rfl)
        have HGD : Hid (numBad l = false → resV (firstT l) = .tuple #[.agg (tkA 2 (strB (l.take k)) (valK 16 l 2 k : Int) 0), .int .i64 (k : Int)]) := keepHid fun hb => by rw [HFT.out, num_good hb, hbody, HBASE.out, hsize]; rfl
        have hall : ∀ c ∈ (l.drop 2).take (k - 2), (setB 16).contains c = true := fun c hc => by have := body_all l c (by rw [hbody]; exact hc); rw [HBASE.out] at this; exact this
        have HTEST := keepHid (dig_test (b := 16) (by simp [Base]) _ hall)
        have hmid : ∀ w, (Instr.slice 9 (.string (strB l)) (some (.int .i64 2)) (some (.int .i64 (k : Int))) none).run Tryd.prog w = .ok (.string (strB ((l.drop 2).take (k - 2)))) w := fun w => run_mid hk1 (by rw [HN.out]; omega) .i64 .i64 2 (k : Int) rfl rfl w
        have hcutk : ∀ w, (Instr.slice 9 (.string (strB l)) none (some (.int .i64 (k : Int))) none).run Tryd.prog w = .ok (.string (strB (l.take k))) w := fun w => run_upto (by rw [HN.out]; omega) _ rfl w
        have HLA : Hid (letAt l k = (decide (97 ≤ d.toNat) && decide (d.toNat ≤ 122))) := keepHid (by rw [let_at_lt hd, let_is])
        rw [hwd] at HWD
        obtain ⟨dn, hdn⟩ : ∃ dn, d.toNat = dn := ⟨_, rfl⟩
        rw [hdn] at HLA HWD hix
        clear hdn
        have hcap := cap_big HC.out
        have HCV := keepHid hcap.2
        have HCB := keepHid hcap.1
        clear hbody hsize hall hrun hcap hd hwd
        by_cases hbig : 4294967296 ≤ v
        · have HBAD : Hid (numBad l = true) := keepHid (by rw [HNB.out, decide_eq_true (HCB.out.1 hbig)]; simp)
          have HV : Hid (resV (firstT l) = .tuple #[.agg (tkA 0 ⟨#[]⟩ 0 0), .int .i64 0]) := keepHid (by rw [HFT.out, num_bad HBAD.out]; rfl)
          have vb : (4294967296 : Int) ≤ (v : Int) := by omega
          have HDG := HBASE
          clear HNB HGD HTEST HLA HCV HCB HBAD
          go_upto_region 18 with ((with_reducible refine (HWD.out _).mono ?_); rintro e w' ⟨rfl, rfl⟩)
          refine wp_region_quiet_below (by kernel_rfl) (by kernel_rfl) ?_
          repeat (go_big_quiet_step (first | (with_reducible exact Calls.regrown_of (HDG.out _)) | (with_reducible exact Calls.regrown_of (HDG.out _))))
          refine wpQuiet_nil ?_
          intro wz hw'
          obtain ⟨⟨dq, osq⟩, hw''⟩ := hw'
          have hbz := regrown_bel hw''
          have HRZ := keepHid (HR.out.1.below hbz HR.out.1.lt)
          have HBZ := keepHid (HR.out.2.trans (hbz.mono HR.out.2.size))
          obtain ⟨e0, e1, e2, e3, ef⟩ := blk4 HRZ.out
          clear hw'' hbz c0 c1 c2 c3 cf
          go_wp2
          refine bodyPost_ret (tok_res rfl _ _ w.heap.size 0 ⟨#[]⟩ 0 0 (put4 HRZ.out) rfl _ rfl) rfl ?_
          exact ⟨by rw [HV.out]; rfl, set4 HBZ.out (Nat.le_refl _) _ _ _ _⟩
        · have hve : v = valK 16 l 2 k := HCV.out (by omega)
          have HVS : Hid (decide (4294967296 ≤ valK 16 l 2 k) = false) := keepHid (decide_eq_false (by rw [← hve]; exact hbig))
          have HDG : Hid (∀ w, Calls Tryd.prog 16 #[.int .u64 (v : Int), .int .u64 16] w fun e w' => e = .returned (.string (strB (digL 16 v))) ∧ Below w.heap.size w w') := keepHid (digits_any 16 (by simp [Base]) v (by omega))
          have heq : ((strB (digL 16 v)).toList == (strB ((l.drop 2).take (k - 2))).toList) = okN ((l.drop 2).take (k - 2)) := by rw [strB_beq, hve]; exact HTEST.out
          rw [← hve] at HGD
          clear HTEST HCV HCB hve
          obtain ⟨S, hS⟩ : ∃ S, strB (l.take k) = S := ⟨_, rfl⟩
          rw [hS] at HGD hcutk
          clear hS
          generalize strB ((l.drop 2).take (k - 2)) = X at *
          generalize strB (digL 16 v) = Y at *
          cases hok : okN ((l.drop 2).take (k - 2)) with
          | false =>
            rw [hok] at heq
            have HBAD : Hid (numBad l = true) := keepHid (by rw [HNB.out, hok]; rfl)
            have HV : Hid (resV (firstT l) = .tuple #[.agg (tkA 0 ⟨#[]⟩ 0 0), .int .i64 0]) := keepHid (by rw [HFT.out, num_bad HBAD.out]; rfl)
            clear HNB HGD HLA HBAD HVS hok
            go_upto_region 18 with ((with_reducible refine (HWD.out _).mono ?_); rintro e w' ⟨rfl, rfl⟩)
            have vs : ¬ (4294967296 : Int) ≤ (v : Int) := by omega
            refine wp_region_quiet_below (by kernel_rfl) (by kernel_rfl) ?_
            repeat (go_big_quiet_step (first | (with_reducible exact Calls.regrown_of (HDG.out _)) | (with_reducible exact Calls.regrown_of (HDG.out _))))
            refine wpQuiet_nil ?_
            intro wz hw'
            obtain ⟨⟨dq, osq⟩, hw''⟩ := hw'
            have hbz := regrown_bel hw''
            have HRZ := keepHid (HR.out.1.below hbz HR.out.1.lt)
            have HBZ := keepHid (HR.out.2.trans (hbz.mono HR.out.2.size))
            obtain ⟨e0, e1, e2, e3, ef⟩ := blk4 HRZ.out
            clear hw'' hbz c0 c1 c2 c3 cf
            go_wp2
            refine bodyPost_ret (tok_res rfl _ _ w.heap.size 0 ⟨#[]⟩ 0 0 (put4 HRZ.out) rfl _ rfl) rfl ?_
            exact ⟨by rw [HV.out]; rfl, set4 HBZ.out (Nat.le_refl _) _ _ _ _⟩
          | true =>
            rw [hok] at heq
            have HNL : Hid (numBad l = letAt l k) := keepHid (by rw [HNB.out, hok, HVS.out]; simp)
            clear HNB HVS hok
            by_cases q1 : 97 ≤ dn
            · have j1 : (97 : Int) ≤ (dn : Int) := by omega
              by_cases q2 : dn ≤ 122
              · have j2 : (dn : Int) ≤ 122 := by omega
                have HBAD : Hid (numBad l = true) := keepHid (by rw [HNL.out, HLA.out, decide_eq_true q1, decide_eq_true q2]; rfl)
                have HV : Hid (resV (firstT l) = .tuple #[.agg (tkA 0 ⟨#[]⟩ 0 0), .int .i64 0]) := keepHid (by rw [HFT.out, num_bad HBAD.out]; rfl)
                clear HGD HNL HLA HBAD
                go_upto_region 18 with ((with_reducible refine (HWD.out _).mono ?_); rintro e w' ⟨rfl, rfl⟩)
                have vs : ¬ (4294967296 : Int) ≤ (v : Int) := by omega
                refine wp_region_quiet_below (by kernel_rfl) (by kernel_rfl) ?_
                repeat (go_big_quiet_step (first | (with_reducible exact Calls.regrown_of (HDG.out _)) | (with_reducible exact Calls.regrown_of (HDG.out _))))
                refine wpQuiet_nil ?_
                intro wz hw'
                obtain ⟨⟨dq, osq⟩, hw''⟩ := hw'
                have hbz := regrown_bel hw''
                have HRZ := keepHid (HR.out.1.below hbz HR.out.1.lt)
                have HBZ := keepHid (HR.out.2.trans (hbz.mono HR.out.2.size))
                obtain ⟨e0, e1, e2, e3, ef⟩ := blk4 HRZ.out
                clear hw'' hbz c0 c1 c2 c3 cf
                go_wp2
                refine bodyPost_ret (tok_res rfl _ _ w.heap.size 0 ⟨#[]⟩ 0 0 (put4 HRZ.out) rfl _ rfl) rfl ?_
                exact ⟨by rw [HV.out]; rfl, set4 HBZ.out (Nat.le_refl _) _ _ _ _⟩
              · have HV := keepHid (HGD.out (by rw [HNL.out, HLA.out, decide_eq_true q1, decide_eq_false q2]; rfl))
                clear HGD HNL HLA
                go_upto_region 18 with ((with_reducible refine (HWD.out _).mono ?_); rintro e w' ⟨rfl, rfl⟩)
                have vs : ¬ (4294967296 : Int) ≤ (v : Int) := by omega
                have j2 : ¬ (dn : Int) ≤ 122 := by omega
                refine wp_region_quiet_below (by kernel_rfl) (by kernel_rfl) ?_
                repeat (go_big_quiet_step (first | (with_reducible exact Calls.regrown_of (HDG.out _)) | (with_reducible exact Calls.regrown_of (HDG.out _))))
                refine wpQuiet_nil ?_
                intro wz hw'
                obtain ⟨⟨dq, osq⟩, hw''⟩ := hw'
                have hbz := regrown_bel hw''
                have HRZ := keepHid (HR.out.1.below hbz HR.out.1.lt)
                have HBZ := keepHid (HR.out.2.trans (hbz.mono HR.out.2.size))
                obtain ⟨e0, e1, e2, e3, ef⟩ := blk4 HRZ.out
                clear hw'' hbz c0 c1 c2 c3 cf
                go_wp2
                refine bodyPost_ret (tok_res rfl _ _ w.heap.size 2 S (v : Int) 0 (put4 HRZ.out) rfl _ rfl) rfl ?_
                exact ⟨by rw [HV.out]; rfl, set4 HBZ.out (Nat.le_refl _) _ _ _ _⟩
            · have HV := keepHid (HGD.out (by rw [HNL.out, HLA.out, decide_eq_false q1]; rfl))
              clear HGD HNL HLA
              go_upto_region 18 with ((with_reducible refine (HWD.out _).mono ?_); rintro e w' ⟨rfl, rfl⟩)
              have vs : ¬ (4294967296 : Int) ≤ (v : Int) := by omega
              have j1 : ¬ (97 : Int) ≤ (dn : Int) := by omega
              refine wp_region_quiet_below (by kernel_rfl) (by kernel_rfl) ?_
              repeat (go_big_quiet_step (first | (with_reducible exact Calls.regrown_of (HDG.out _)) | (with_reducible exact Calls.regrown_of (HDG.out _))))
              refine wpQuiet_nil ?_
              intro wz hw'
              obtain ⟨⟨dq, osq⟩, hw''⟩ := hw'
              have hbz := regrown_bel hw''
              have HRZ := keepHid (HR.out.1.below hbz HR.out.1.lt)
              have HBZ := keepHid (HR.out.2.trans (hbz.mono HR.out.2.size))
              obtain ⟨e0, e1, e2, e3, ef⟩ := blk4 HRZ.out
              clear hw'' hbz c0 c1 c2 c3 cf
              go_wp2
              refine bodyPost_ret (tok_res rfl _ _ w.heap.size 2 S (v : Int) 0 (put4 HRZ.out) rfl _ rfl) rfl ?_
              exact ⟨by rw [HV.out]; rfl, set4 HBZ.out (Nat.le_refl _) _ _ _ _⟩
    · obtain rfl : k = N := by omega
      have hrun := runAt_end HA.out (by rw [HN.out]; exact Nat.le_refl _)
      obtain ⟨hbody, hsize⟩ := num_fin HLEAD.out HSET.out hk1 hrun
      have HNB : Hid (numBad l = (!okN ((l.drop 2).take (k - 2)) || decide (4294967296 ≤ valK 16 l 2 k) || letAt l k)) := keepHid (by rw [numBad_is, hbody, HBASE.out, hsize]; rfl)
      have HGD : Hid (numBad l = false → resV (firstT l) = .tuple #[.agg (tkA 2 (strB (l.take k)) (valK 16 l 2 k : Int) 0), .int .i64 (k : Int)]) := keepHid fun hb => by rw [HFT.out, num_good hb, hbody, HBASE.out, hsize]; rfl
      have hall : ∀ c ∈ (l.drop 2).take (k - 2), (setB 16).contains c = true := fun c hc => by have := body_all l c (by rw [hbody]; exact hc); rw [HBASE.out] at this; exact this
      have HTEST := keepHid (dig_test (b := 16) (by simp [Base]) _ hall)
      have hmid : ∀ w, (Instr.slice 9 (.string (strB l)) (some (.int .i64 2)) (some (.int .i64 (k : Int))) none).run Tryd.prog w = .ok (.string (strB ((l.drop 2).take (k - 2)))) w := fun w => run_mid hk1 (by rw [HN.out]; omega) .i64 .i64 2 (k : Int) rfl rfl w
      have hcutk : ∀ w, (Instr.slice 9 (.string (strB l)) none (some (.int .i64 (k : Int))) none).run Tryd.prog w = .ok (.string (strB (l.take k))) w := fun w => run_upto (by rw [HN.out]; omega) _ rfl w
      have HLA : Hid (letAt l k = false) := keepHid (let_at_ge (by rw [HN.out]; exact Nat.le_refl _))
      have hcap := cap_big HC.out
      have HCV := keepHid hcap.2
      have HCB := keepHid hcap.1
      clear hbody hsize hall hrun hcap
      by_cases hbig : 4294967296 ≤ v
      · have HBAD : Hid (numBad l = true) := keepHid (by rw [HNB.out, decide_eq_true (HCB.out.1 hbig)]; simp)
        have HV : Hid (resV (firstT l) = .tuple #[.agg (tkA 0 ⟨#[]⟩ 0 0), .int .i64 0]) := keepHid (by rw [HFT.out, num_bad HBAD.out]; rfl)
        have vb : (4294967296 : Int) ≤ (v : Int) := by omega
        have HDG := HBASE
        clear HNB HGD HTEST HLA HCV HCB HBAD
        go_upto_region 18 with (fail)
        refine wp_region_quiet_below (by kernel_rfl) (by kernel_rfl) ?_
        repeat (go_big_quiet_step (first | (with_reducible exact Calls.regrown_of (HDG.out _)) | (with_reducible exact Calls.regrown_of (HDG.out _))))
        refine wpQuiet_nil ?_
        intro wz hw'
        obtain ⟨⟨dq, osq⟩, hw''⟩ := hw'
        have hbz := regrown_bel hw''
        have HRZ := keepHid (HR.out.1.below hbz HR.out.1.lt)
        have HBZ := keepHid (HR.out.2.trans (hbz.mono HR.out.2.size))
        obtain ⟨e0, e1, e2, e3, ef⟩ := blk4 HRZ.out
        clear hw'' hbz c0 c1 c2 c3 cf
        go_wp2
        refine bodyPost_ret (tok_res rfl _ _ w.heap.size 0 ⟨#[]⟩ 0 0 (put4 HRZ.out) rfl _ rfl) rfl ?_
        exact ⟨by rw [HV.out]; rfl, set4 HBZ.out (Nat.le_refl _) _ _ _ _⟩
      · have hve : v = valK 16 l 2 k := HCV.out (by omega)
        have HVS : Hid (decide (4294967296 ≤ valK 16 l 2 k) = false) := keepHid (decide_eq_false (by rw [← hve]; exact hbig))
        have HDG : Hid (∀ w, Calls Tryd.prog 16 #[.int .u64 (v : Int), .int .u64 16] w fun e w' => e = .returned (.string (strB (digL 16 v))) ∧ Below w.heap.size w w') := keepHid (digits_any 16 (by simp [Base]) v (by omega))
        have heq : ((strB (digL 16 v)).toList == (strB ((l.drop 2).take (k - 2))).toList) = okN ((l.drop 2).take (k - 2)) := by rw [strB_beq, hve]; exact HTEST.out
        rw [← hve] at HGD
        clear HTEST HCV HCB hve
        obtain ⟨S, hS⟩ : ∃ S, strB (l.take k) = S := ⟨_, rfl⟩
        rw [hS] at HGD hcutk
        clear hS
        generalize strB ((l.drop 2).take (k - 2)) = X at *
        generalize strB (digL 16 v) = Y at *
        cases hok : okN ((l.drop 2).take (k - 2)) with
        | false =>
          rw [hok] at heq
          have HBAD : Hid (numBad l = true) := keepHid (by rw [HNB.out, hok]; rfl)
          have HV : Hid (resV (firstT l) = .tuple #[.agg (tkA 0 ⟨#[]⟩ 0 0), .int .i64 0]) := keepHid (by rw [HFT.out, num_bad HBAD.out]; rfl)
          clear HNB HGD HLA HBAD HVS hok
          go_upto_region 18 with (fail)
          have vs : ¬ (4294967296 : Int) ≤ (v : Int) := by omega
          refine wp_region_quiet_below (by kernel_rfl) (by kernel_rfl) ?_
          repeat (go_big_quiet_step (first | (with_reducible exact Calls.regrown_of (HDG.out _)) | (with_reducible exact Calls.regrown_of (HDG.out _))))
          refine wpQuiet_nil ?_
          intro wz hw'
          obtain ⟨⟨dq, osq⟩, hw''⟩ := hw'
          have hbz := regrown_bel hw''
          have HRZ := keepHid (HR.out.1.below hbz HR.out.1.lt)
          have HBZ := keepHid (HR.out.2.trans (hbz.mono HR.out.2.size))
          obtain ⟨e0, e1, e2, e3, ef⟩ := blk4 HRZ.out
          clear hw'' hbz c0 c1 c2 c3 cf
          go_wp2
          refine bodyPost_ret (tok_res rfl _ _ w.heap.size 0 ⟨#[]⟩ 0 0 (put4 HRZ.out) rfl _ rfl) rfl ?_
          exact ⟨by rw [HV.out]; rfl, set4 HBZ.out (Nat.le_refl _) _ _ _ _⟩
        | true =>
          rw [hok] at heq
          have HNL : Hid (numBad l = letAt l k) := keepHid (by rw [HNB.out, hok, HVS.out]; simp)
          clear HNB HVS hok
          have HV := keepHid (HGD.out (HNL.out.trans HLA.out))
          clear HGD HNL HLA
          go_upto_region 18 with (fail)
          have vs : ¬ (4294967296 : Int) ≤ (v : Int) := by omega
          refine wp_region_quiet_below (by kernel_rfl) (by kernel_rfl) ?_
          repeat (go_big_quiet_step (first | (with_reducible exact Calls.regrown_of (HDG.out _)) | (with_reducible exact Calls.regrown_of (HDG.out _))))
          refine wpQuiet_nil ?_
          intro wz hw'
          obtain ⟨⟨dq, osq⟩, hw''⟩ := hw'
          have hbz := regrown_bel hw''
          have HRZ := keepHid (HR.out.1.below hbz HR.out.1.lt)
          have HBZ := keepHid (HR.out.2.trans (hbz.mono HR.out.2.size))
          obtain ⟨e0, e1, e2, e3, ef⟩ := blk4 HRZ.out
          clear hw'' hbz c0 c1 c2 c3 cf
          go_wp2
          refine bodyPost_ret (tok_res rfl _ _ w.heap.size 2 S (v : Int) 0 (put4 HRZ.out) rfl _ rfl) rfl ?_
          exact ⟨by rw [HV.out]; rfl, set4 HBZ.out (Nat.le_refl _) _ _ _ _⟩

set_option maxRecDepth 100000 in
set_option maxHeartbeats 16000000 in
theorem one_dec (c : UInt8) (r : List UInt8) (hl : (c :: r).length ≤ 4096) (hs : signL.contains c = false) (hlet : letL.contains c = false) (hdec : decL.contains c = true) (hx : isHex (c :: r) = false) (h1 : 1 < (c :: r).length) (w : World) :
    Calls Tryd.prog 23 #[.string (strB (c :: r))] w fun e w' => e = .returned (resV (firstT (c :: r))) ∧ Below w.heap.size w w' := by
  obtain ⟨w1, hw1⟩ : ∃ w1, w.alloc (.cells #[.int .i64 0, .string ⟨#[]⟩, .int .i64 0, .int .i64 0] 36) = w1 := ⟨_, rfl⟩
  have HR := keepHid (tok_new w w1 hw1)
  obtain ⟨c0, c1, c2, c3, cf⟩ := blk4 HR.out.1
  have hidx := fun w => run_idx (l := c :: r) (k := 0) (c := c) rfl 0 rfl w
  have HI : Hid (∀ w, Calls Tryd.prog 22 #[.int .u8 (c.toNat : Int), .string ⟨#[58, 59, 44, 123, 125]⟩] w fun e w' => e = .returned (.bool false) ∧ w' = w) := keepHid fun w => by
    have := in_any signL c (by decide) w
    rw [hs] at this
    exact this
  have hcd : (48 : Int) ≤ (c.toNat : Int) ∧ (c.toNat : Int) ≤ 57 := by
    rw [dec_is] at hdec
    simp only [Bool.and_eq_true, decide_eq_true_eq] at hdec
    omega
  obtain ⟨hcd1, hcd2⟩ := hcd
  have hc97 : ¬ (97 : Int) ≤ (c.toNat : Int) := by omega
  have HFT := keepHid (first_dec (r := r) hlet hdec)
  have HISH := keepHid hx
  have HLEAD : Hid (leadN (c :: r) = 0) := keepHid (by unfold leadN; rw [hx]; rfl)
  have HBASE : Hid (baseN (c :: r) = 10) := keepHid (by unfold baseN; rw [hx]; rfl)
  have HSET : Hid (digN (c :: r) = decL) := keepHid (by unfold digN; rw [hx]; rfl)
  generalize (c.toNat : Int) = cn at *
  clear hs hlet hdec hx
  obtain ⟨l, hL⟩ : ∃ l, c :: r = l := ⟨_, rfl⟩
  rw [hL] at hl h1 HFT HISH HLEAD HBASE HSET hidx ⊢
  have hlen : (strB l).size = l.length := strB_size l
  obtain ⟨N, hN⟩ : ∃ N, l.length = N := ⟨_, rfl⟩
  have HN := keepHid hN
  have hle : 0 ≤ N := by have := lead_le l; rw [HLEAD.out] at this; omega
  rw [hN] at hlen hl h1
  have HIN : Hid (∀ (d : UInt8) w, Calls Tryd.prog 22 #[.int .u8 (d.toNat : Int), .string ⟨#[48, 49, 50, 51, 52, 53, 54, 55, 56, 57]⟩] w fun e w' => e = .returned (.bool (decL.contains d)) ∧ w' = w) := keepHid fun d w => in_any decL d (by decide) w
  have hlen1 : (1 : Int) < (N : Int) := by omega
  have hcut2 : ∀ w, (Instr.slice 9 (.string (strB l)) none (some (.int .i64 2)) none).run Tryd.prog w = .ok (.string (strB (l.take 2))) w := fun w => run_upto (k := 2) (by rw [HN.out]; omega) 2 rfl w
  have hcmp : ((strB (l.take 2)).toList == [48, 120]) = false := by
    have h := strB_beq (l.take 2) [48, 120]
    rw [strB_toList [48, 120]] at h
    refine h.trans ?_
    rw [← HISH.out]
    unfold isHex
    rw [Bool.eq_iff_iff, decide_eq_true_eq]
    constructor
    · intro e
      rw [List.isPrefixOf_iff_prefix]
      exact ⟨l.drop 2, by rw [← e, List.take_append_drop]⟩
    · intro e
      rw [List.isPrefixOf_iff_prefix] at e
      exact (List.prefix_iff_eq_take.1 e).symm
  clear hN hL
  go_enter Tryd.func23, Tryd.ntmps23
  go_wp2_with ((with_reducible refine (HI.out _).mono ?_); rintro e w' ⟨rfl, rfl⟩)
  clear hidx HI hw1 hcd1 hcd2 hc97 hlen1 hcut2 hcmp h1
  go_loop [9, 10] (fun nv vv => ∃ k v : Nat, nv = .int .i64 (k : Int) ∧ vv = .int .u64 (v : Int) ∧ 0 ≤ k ∧ k ≤ N ∧ v < 35184372088832 ∧ Hid (RunAt decL l 0 k) ∧ Hid (Cap (valK 10 l 0 k) v)) (fun nv _ => N - (intOf nv).toNat)
  case atStart => exact ⟨0, 0, rfl, rfl, Nat.le_refl _, hle, by decide, keepHid (runAt_0 _ _ _), keepHid (by rw [valK_0]; exact cap_0)⟩
  case round =>
    obtain ⟨k, v, rfl, rfl, hk1, hk, hvb, HA, HC⟩ := hrel
    by_cases hkN : k < N
    · obtain ⟨d, hd⟩ : ∃ d, l[k]? = some d := ⟨_, List.getElem?_eq_getElem (by rw [HN.out]; exact hkN)⟩
      have hix := fun w => run_idx hd (k : Int) rfl w
      have HWD := keepHid (HIN.out d)
      have hkI : (k : Int) < (N : Int) := by omega
      cases hwd : decL.contains d with
      | true =>
        have HA1 := keepHid (runAt_step HA.out hd hk1 hwd)
        have hrg := rng10 d (List.contains_iff_mem.1 hwd)
        have hdg : dgt d < 16 := by omega
        have HVAL := keepHid (value_any d (by omega))
        rw [hwd] at HWD
        by_cases hv : v < 1099511627776
        · have HC1 : Hid (Cap (valK 10 l 0 (k + 1)) (v * 10 + dgt d)) := keepHid (by rw [valK_step hd hk1]; exact cap_go HC.out hv (by decide) hdg)
          have hvb1 := HC1.out.1
          have HDI : Hid (((v * 10 + dgt d : Nat) : Int) = (v : Int) * 10 + (dgt d : Int)) := keepHid (by omega)
          have hdI : (dgt d : Int) < 16 := by omega
          have hdI0 : (0 : Int) ≤ (dgt d : Int) := by omega
          generalize v * 10 + dgt d = v1 at *
          generalize (dgt d : Int) = dI at *
          generalize (d.toNat : Int) = dn at *
          clear hd hwd HA HC hrg hdg
          go_upto_if 73 with ((with_reducible refine (HWD.out _).mono ?_); rintro e w' ⟨rfl, rfl⟩)
          refine wp_cond_split rfl (fun h => ?_) (fun h => ?_)
          case refine_2 => exfalso; have := of_decide_eq_false h; omega
          clear h
          go_wp2_with (first | ((with_reducible refine (HWD.out _).mono ?_); rintro e w' ⟨rfl, rfl⟩) | ((with_reducible refine (HVAL.out _).mono ?_); rintro e w' ⟨rfl, rfl⟩))
          go_round
          case rel => exact ⟨k + 1, v1, by go_num, by rw [HDI.out], by omega, by omega, hvb1, HA1, HC1⟩
          case measure => simp [intOf]; omega
        · have HC1 : Hid (Cap (valK 10 l 0 (k + 1)) v) := keepHid (by rw [valK_step hd hk1]; exact cap_stay HC.out (by omega) (by decide))
          generalize (d.toNat : Int) = dn at *
          clear hd hwd HA HC hrg hdg HVAL
          go_upto_if 73 with ((with_reducible refine (HWD.out _).mono ?_); rintro e w' ⟨rfl, rfl⟩)
          refine wp_cond_split rfl (fun h => ?_) (fun h => ?_)
          case refine_1 => exfalso; have := of_decide_eq_true h; omega
          clear h
          go_wp2
          go_round
          case rel => exact ⟨k + 1, v, by go_num, rfl, by omega, by omega, hvb, HA1, HC1⟩
          case measure => simp [intOf]; omega
      | false =>
        have hrun := runAt_stop HA.out hd hwd
        obtain ⟨hbody, hsize⟩ := num_fin HLEAD.out HSET.out hk1 hrun
        have HNB : Hid (numBad l = (!okN ((l.drop 0).take (k - 0)) || decide (4294967296 ≤ valK 10 l 0 k) || letAt l k)) := keepHid (by rw [numBad_is, hbody, HBASE.out, hsize]; rfl)
        have HGD : Hid (numBad l = false → resV (firstT l) = .tuple #[.agg (tkA 2 (strB (l.take k)) (valK 10 l 0 k : Int) 0), .int .i64 (k : Int)]) := keepHid fun hb => by rw [HFT.out, num_good hb, hbody, HBASE.out, hsize]; rfl
        have hall : ∀ c ∈ (l.drop 0).take (k - 0), (setB 10).contains c = true := fun c hc => by have := body_all l c (by rw [hbody]; exact hc); rw [HBASE.out] at this; exact this
        have HTEST := keepHid (dig_test (b := 10) (by simp [Base]) _ hall)
        have hmid : ∀ w, (Instr.slice 9 (.string (strB l)) (some (.int .i64 0)) (some (.int .i64 (k : Int))) none).run Tryd.prog w = .ok (.string (strB ((l.drop 0).take (k - 0)))) w := fun w => run_mid hk1 (by rw [HN.out]; omega) .i64 .i64 0 (k : Int) rfl rfl w
        have hcutk : ∀ w, (Instr.slice 9 (.string (strB l)) none (some (.int .i64 (k : Int))) none).run Tryd.prog w = .ok (.string (strB (l.take k))) w := fun w => run_upto (by rw [HN.out]; omega) _ rfl w
        have HLA : Hid (letAt l k = (decide (97 ≤ d.toNat) && decide (d.toNat ≤ 122))) := keepHid (by rw [let_at_lt hd, let_is])
        rw [hwd] at HWD
        obtain ⟨dn, hdn⟩ : ∃ dn, d.toNat = dn := ⟨_, rfl⟩
        rw [hdn] at HLA HWD hix
        clear hdn
        have hcap := cap_big HC.out
        have HCV := keepHid hcap.2
        have HCB := keepHid hcap.1
        clear hbody hsize hall hrun hcap hd hwd
        by_cases hbig : 4294967296 ≤ v
        · have HBAD : Hid (numBad l = true) := keepHid (by rw [HNB.out, decide_eq_true (HCB.out.1 hbig)]; simp)
          have HV : Hid (resV (firstT l) = .tuple #[.agg (tkA 0 ⟨#[]⟩ 0 0), .int .i64 0]) := keepHid (by rw [HFT.out, num_bad HBAD.out]; rfl)
          have vb : (4294967296 : Int) ≤ (v : Int) := by omega
          have HDG := HBASE
          clear HNB HGD HTEST HLA HCV HCB HBAD
          go_upto_region 18 with ((with_reducible refine (HWD.out _).mono ?_); rintro e w' ⟨rfl, rfl⟩)
          refine wp_region_quiet_below (by kernel_rfl) (by kernel_rfl) ?_
          repeat (go_big_quiet_step (first | (with_reducible exact Calls.regrown_of (HDG.out _)) | (with_reducible exact Calls.regrown_of (HDG.out _))))
          refine wpQuiet_nil ?_
          intro wz hw'
          obtain ⟨⟨dq, osq⟩, hw''⟩ := hw'
          have hbz := regrown_bel hw''
          have HRZ := keepHid (HR.out.1.below hbz HR.out.1.lt)
          have HBZ := keepHid (HR.out.2.trans (hbz.mono HR.out.2.size))
          obtain ⟨e0, e1, e2, e3, ef⟩ := blk4 HRZ.out
          clear hw'' hbz c0 c1 c2 c3 cf
          go_wp2
          refine bodyPost_ret (tok_res rfl _ _ w.heap.size 0 ⟨#[]⟩ 0 0 (put4 HRZ.out) rfl _ rfl) rfl ?_
          exact ⟨by rw [HV.out]; rfl, set4 HBZ.out (Nat.le_refl _) _ _ _ _⟩
        · have hve : v = valK 10 l 0 k := HCV.out (by omega)
          have HVS : Hid (decide (4294967296 ≤ valK 10 l 0 k) = false) := keepHid (decide_eq_false (by rw [← hve]; exact hbig))
          have HDG : Hid (∀ w, Calls Tryd.prog 16 #[.int .u64 (v : Int), .int .u64 10] w fun e w' => e = .returned (.string (strB (digL 10 v))) ∧ Below w.heap.size w w') := keepHid (digits_any 10 (by simp [Base]) v (by omega))
          have heq : ((strB (digL 10 v)).toList == (strB ((l.drop 0).take (k - 0))).toList) = okN ((l.drop 0).take (k - 0)) := by rw [strB_beq, hve]; exact HTEST.out
          rw [← hve] at HGD
          clear HTEST HCV HCB hve
          obtain ⟨S, hS⟩ : ∃ S, strB (l.take k) = S := ⟨_, rfl⟩
          rw [hS] at HGD hcutk
          clear hS
          generalize strB ((l.drop 0).take (k - 0)) = X at *
          generalize strB (digL 10 v) = Y at *
          cases hok : okN ((l.drop 0).take (k - 0)) with
          | false =>
            rw [hok] at heq
            have HBAD : Hid (numBad l = true) := keepHid (by rw [HNB.out, hok]; rfl)
            have HV : Hid (resV (firstT l) = .tuple #[.agg (tkA 0 ⟨#[]⟩ 0 0), .int .i64 0]) := keepHid (by rw [HFT.out, num_bad HBAD.out]; rfl)
            clear HNB HGD HLA HBAD HVS hok
            go_upto_region 18 with ((with_reducible refine (HWD.out _).mono ?_); rintro e w' ⟨rfl, rfl⟩)
            have vs : ¬ (4294967296 : Int) ≤ (v : Int) := by omega
            refine wp_region_quiet_below (by kernel_rfl) (by kernel_rfl) ?_
            repeat (go_big_quiet_step (first | (with_reducible exact Calls.regrown_of (HDG.out _)) | (with_reducible exact Calls.regrown_of (HDG.out _))))
            refine wpQuiet_nil ?_
            intro wz hw'
            obtain ⟨⟨dq, osq⟩, hw''⟩ := hw'
            have hbz := regrown_bel hw''
            have HRZ := keepHid (HR.out.1.below hbz HR.out.1.lt)
            have HBZ := keepHid (HR.out.2.trans (hbz.mono HR.out.2.size))
            obtain ⟨e0, e1, e2, e3, ef⟩ := blk4 HRZ.out
            clear hw'' hbz c0 c1 c2 c3 cf
            go_wp2
            refine bodyPost_ret (tok_res rfl _ _ w.heap.size 0 ⟨#[]⟩ 0 0 (put4 HRZ.out) rfl _ rfl) rfl ?_
            exact ⟨by rw [HV.out]; rfl, set4 HBZ.out (Nat.le_refl _) _ _ _ _⟩
          | true =>
            rw [hok] at heq
            have HNL : Hid (numBad l = letAt l k) := keepHid (by rw [HNB.out, hok, HVS.out]; simp)
            clear HNB HVS hok
            by_cases q1 : 97 ≤ dn
            · have j1 : (97 : Int) ≤ (dn : Int) := by omega
              by_cases q2 : dn ≤ 122
              · have j2 : (dn : Int) ≤ 122 := by omega
                have HBAD : Hid (numBad l = true) := keepHid (by rw [HNL.out, HLA.out, decide_eq_true q1, decide_eq_true q2]; rfl)
                have HV : Hid (resV (firstT l) = .tuple #[.agg (tkA 0 ⟨#[]⟩ 0 0), .int .i64 0]) := keepHid (by rw [HFT.out, num_bad HBAD.out]; rfl)
                clear HGD HNL HLA HBAD
                go_upto_region 18 with ((with_reducible refine (HWD.out _).mono ?_); rintro e w' ⟨rfl, rfl⟩)
                have vs : ¬ (4294967296 : Int) ≤ (v : Int) := by omega
                refine wp_region_quiet_below (by kernel_rfl) (by kernel_rfl) ?_
                repeat (go_big_quiet_step (first | (with_reducible exact Calls.regrown_of (HDG.out _)) | (with_reducible exact Calls.regrown_of (HDG.out _))))
                refine wpQuiet_nil ?_
                intro wz hw'
                obtain ⟨⟨dq, osq⟩, hw''⟩ := hw'
                have hbz := regrown_bel hw''
                have HRZ := keepHid (HR.out.1.below hbz HR.out.1.lt)
                have HBZ := keepHid (HR.out.2.trans (hbz.mono HR.out.2.size))
                obtain ⟨e0, e1, e2, e3, ef⟩ := blk4 HRZ.out
                clear hw'' hbz c0 c1 c2 c3 cf
                go_wp2
                refine bodyPost_ret (tok_res rfl _ _ w.heap.size 0 ⟨#[]⟩ 0 0 (put4 HRZ.out) rfl _ rfl) rfl ?_
                exact ⟨by rw [HV.out]; rfl, set4 HBZ.out (Nat.le_refl _) _ _ _ _⟩
              · have HV := keepHid (HGD.out (by rw [HNL.out, HLA.out, decide_eq_true q1, decide_eq_false q2]; rfl))
                clear HGD HNL HLA
                go_upto_region 18 with ((with_reducible refine (HWD.out _).mono ?_); rintro e w' ⟨rfl, rfl⟩)
                have vs : ¬ (4294967296 : Int) ≤ (v : Int) := by omega
                have j2 : ¬ (dn : Int) ≤ 122 := by omega
                refine wp_region_quiet_below (by kernel_rfl) (by kernel_rfl) ?_
                repeat (go_big_quiet_step (first | (with_reducible exact Calls.regrown_of (HDG.out _)) | (with_reducible exact Calls.regrown_of (HDG.out _))))
                refine wpQuiet_nil ?_
                intro wz hw'
                obtain ⟨⟨dq, osq⟩, hw''⟩ := hw'
                have hbz := regrown_bel hw''
                have HRZ := keepHid (HR.out.1.below hbz HR.out.1.lt)
                have HBZ := keepHid (HR.out.2.trans (hbz.mono HR.out.2.size))
                obtain ⟨e0, e1, e2, e3, ef⟩ := blk4 HRZ.out
                clear hw'' hbz c0 c1 c2 c3 cf
                go_wp2
                refine bodyPost_ret (tok_res rfl _ _ w.heap.size 2 S (v : Int) 0 (put4 HRZ.out) rfl _ rfl) rfl ?_
                exact ⟨by rw [HV.out]; rfl, set4 HBZ.out (Nat.le_refl _) _ _ _ _⟩
            · have HV := keepHid (HGD.out (by rw [HNL.out, HLA.out, decide_eq_false q1]; rfl))
              clear HGD HNL HLA
              go_upto_region 18 with ((with_reducible refine (HWD.out _).mono ?_); rintro e w' ⟨rfl, rfl⟩)
              have vs : ¬ (4294967296 : Int) ≤ (v : Int) := by omega
              have j1 : ¬ (97 : Int) ≤ (dn : Int) := by omega
              refine wp_region_quiet_below (by kernel_rfl) (by kernel_rfl) ?_
              repeat (go_big_quiet_step (first | (with_reducible exact Calls.regrown_of (HDG.out _)) | (with_reducible exact Calls.regrown_of (HDG.out _))))
              refine wpQuiet_nil ?_
              intro wz hw'
              obtain ⟨⟨dq, osq⟩, hw''⟩ := hw'
              have hbz := regrown_bel hw''
              have HRZ := keepHid (HR.out.1.below hbz HR.out.1.lt)
              have HBZ := keepHid (HR.out.2.trans (hbz.mono HR.out.2.size))
              obtain ⟨e0, e1, e2, e3, ef⟩ := blk4 HRZ.out
              clear hw'' hbz c0 c1 c2 c3 cf
              go_wp2
              refine bodyPost_ret (tok_res rfl _ _ w.heap.size 2 S (v : Int) 0 (put4 HRZ.out) rfl _ rfl) rfl ?_
              exact ⟨by rw [HV.out]; rfl, set4 HBZ.out (Nat.le_refl _) _ _ _ _⟩
    · obtain rfl : k = N := by omega
      have hrun := runAt_end HA.out (by rw [HN.out]; exact Nat.le_refl _)
      obtain ⟨hbody, hsize⟩ := num_fin HLEAD.out HSET.out hk1 hrun
      have HNB : Hid (numBad l = (!okN ((l.drop 0).take (k - 0)) || decide (4294967296 ≤ valK 10 l 0 k) || letAt l k)) := keepHid (by rw [numBad_is, hbody, HBASE.out, hsize]; rfl)
      have HGD : Hid (numBad l = false → resV (firstT l) = .tuple #[.agg (tkA 2 (strB (l.take k)) (valK 10 l 0 k : Int) 0), .int .i64 (k : Int)]) := keepHid fun hb => by rw [HFT.out, num_good hb, hbody, HBASE.out, hsize]; rfl
      have hall : ∀ c ∈ (l.drop 0).take (k - 0), (setB 10).contains c = true := fun c hc => by have := body_all l c (by rw [hbody]; exact hc); rw [HBASE.out] at this; exact this
      have HTEST := keepHid (dig_test (b := 10) (by simp [Base]) _ hall)
      have hmid : ∀ w, (Instr.slice 9 (.string (strB l)) (some (.int .i64 0)) (some (.int .i64 (k : Int))) none).run Tryd.prog w = .ok (.string (strB ((l.drop 0).take (k - 0)))) w := fun w => run_mid hk1 (by rw [HN.out]; omega) .i64 .i64 0 (k : Int) rfl rfl w
      have hcutk : ∀ w, (Instr.slice 9 (.string (strB l)) none (some (.int .i64 (k : Int))) none).run Tryd.prog w = .ok (.string (strB (l.take k))) w := fun w => run_upto (by rw [HN.out]; omega) _ rfl w
      have HLA : Hid (letAt l k = false) := keepHid (let_at_ge (by rw [HN.out]; exact Nat.le_refl _))
      have hcap := cap_big HC.out
      have HCV := keepHid hcap.2
      have HCB := keepHid hcap.1
      clear hbody hsize hall hrun hcap
      by_cases hbig : 4294967296 ≤ v
      · have HBAD : Hid (numBad l = true) := keepHid (by rw [HNB.out, decide_eq_true (HCB.out.1 hbig)]; simp)
        have HV : Hid (resV (firstT l) = .tuple #[.agg (tkA 0 ⟨#[]⟩ 0 0), .int .i64 0]) := keepHid (by rw [HFT.out, num_bad HBAD.out]; rfl)
        have vb : (4294967296 : Int) ≤ (v : Int) := by omega
        have HDG := HBASE
        clear HNB HGD HTEST HLA HCV HCB HBAD
        go_upto_region 18 with (fail)
        refine wp_region_quiet_below (by kernel_rfl) (by kernel_rfl) ?_
        repeat (go_big_quiet_step (first | (with_reducible exact Calls.regrown_of (HDG.out _)) | (with_reducible exact Calls.regrown_of (HDG.out _))))
        refine wpQuiet_nil ?_
        intro wz hw'
        obtain ⟨⟨dq, osq⟩, hw''⟩ := hw'
        have hbz := regrown_bel hw''
        have HRZ := keepHid (HR.out.1.below hbz HR.out.1.lt)
        have HBZ := keepHid (HR.out.2.trans (hbz.mono HR.out.2.size))
        obtain ⟨e0, e1, e2, e3, ef⟩ := blk4 HRZ.out
        clear hw'' hbz c0 c1 c2 c3 cf
        go_wp2
        refine bodyPost_ret (tok_res rfl _ _ w.heap.size 0 ⟨#[]⟩ 0 0 (put4 HRZ.out) rfl _ rfl) rfl ?_
        exact ⟨by rw [HV.out]; rfl, set4 HBZ.out (Nat.le_refl _) _ _ _ _⟩
      · have hve : v = valK 10 l 0 k := HCV.out (by omega)
        have HVS : Hid (decide (4294967296 ≤ valK 10 l 0 k) = false) := keepHid (decide_eq_false (by rw [← hve]; exact hbig))
        have HDG : Hid (∀ w, Calls Tryd.prog 16 #[.int .u64 (v : Int), .int .u64 10] w fun e w' => e = .returned (.string (strB (digL 10 v))) ∧ Below w.heap.size w w') := keepHid (digits_any 10 (by simp [Base]) v (by omega))
        have heq : ((strB (digL 10 v)).toList == (strB ((l.drop 0).take (k - 0))).toList) = okN ((l.drop 0).take (k - 0)) := by rw [strB_beq, hve]; exact HTEST.out
        rw [← hve] at HGD
        clear HTEST HCV HCB hve
        obtain ⟨S, hS⟩ : ∃ S, strB (l.take k) = S := ⟨_, rfl⟩
        rw [hS] at HGD hcutk
        clear hS
        generalize strB ((l.drop 0).take (k - 0)) = X at *
        generalize strB (digL 10 v) = Y at *
        cases hok : okN ((l.drop 0).take (k - 0)) with
        | false =>
          rw [hok] at heq
          have HBAD : Hid (numBad l = true) := keepHid (by rw [HNB.out, hok]; rfl)
          have HV : Hid (resV (firstT l) = .tuple #[.agg (tkA 0 ⟨#[]⟩ 0 0), .int .i64 0]) := keepHid (by rw [HFT.out, num_bad HBAD.out]; rfl)
          clear HNB HGD HLA HBAD HVS hok
          go_upto_region 18 with (fail)
          have vs : ¬ (4294967296 : Int) ≤ (v : Int) := by omega
          refine wp_region_quiet_below (by kernel_rfl) (by kernel_rfl) ?_
          repeat (go_big_quiet_step (first | (with_reducible exact Calls.regrown_of (HDG.out _)) | (with_reducible exact Calls.regrown_of (HDG.out _))))
          refine wpQuiet_nil ?_
          intro wz hw'
          obtain ⟨⟨dq, osq⟩, hw''⟩ := hw'
          have hbz := regrown_bel hw''
          have HRZ := keepHid (HR.out.1.below hbz HR.out.1.lt)
          have HBZ := keepHid (HR.out.2.trans (hbz.mono HR.out.2.size))
          obtain ⟨e0, e1, e2, e3, ef⟩ := blk4 HRZ.out
          clear hw'' hbz c0 c1 c2 c3 cf
          go_wp2
          refine bodyPost_ret (tok_res rfl _ _ w.heap.size 0 ⟨#[]⟩ 0 0 (put4 HRZ.out) rfl _ rfl) rfl ?_
          exact ⟨by rw [HV.out]; rfl, set4 HBZ.out (Nat.le_refl _) _ _ _ _⟩
        | true =>
          rw [hok] at heq
          have HNL : Hid (numBad l = letAt l k) := keepHid (by rw [HNB.out, hok, HVS.out]; simp)
          clear HNB HVS hok
          have HV := keepHid (HGD.out (HNL.out.trans HLA.out))
          clear HGD HNL HLA
          go_upto_region 18 with (fail)
          have vs : ¬ (4294967296 : Int) ≤ (v : Int) := by omega
          refine wp_region_quiet_below (by kernel_rfl) (by kernel_rfl) ?_
          repeat (go_big_quiet_step (first | (with_reducible exact Calls.regrown_of (HDG.out _)) | (with_reducible exact Calls.regrown_of (HDG.out _))))
          refine wpQuiet_nil ?_
          intro wz hw'
          obtain ⟨⟨dq, osq⟩, hw''⟩ := hw'
          have hbz := regrown_bel hw''
          have HRZ := keepHid (HR.out.1.below hbz HR.out.1.lt)
          have HBZ := keepHid (HR.out.2.trans (hbz.mono HR.out.2.size))
          obtain ⟨e0, e1, e2, e3, ef⟩ := blk4 HRZ.out
          clear hw'' hbz c0 c1 c2 c3 cf
          go_wp2
          refine bodyPost_ret (tok_res rfl _ _ w.heap.size 2 S (v : Int) 0 (put4 HRZ.out) rfl _ rfl) rfl ?_
          exact ⟨by rw [HV.out]; rfl, set4 HBZ.out (Nat.le_refl _) _ _ _ _⟩

set_option maxRecDepth 100000 in
set_option maxHeartbeats 16000000 in
theorem one_one (c : UInt8) (r : List UInt8) (hl : (c :: r).length ≤ 4096) (hs : signL.contains c = false) (hlet : letL.contains c = false) (hdec : decL.contains c = true) (h1 : (c :: r).length = 1) (w : World) :
    Calls Tryd.prog 23 #[.string (strB (c :: r))] w fun e w' => e = .returned (resV (firstT (c :: r))) ∧ Below w.heap.size w w' := by
  have hx : isHex (c :: r) = false := by
    cases r with
    | nil => simp [isHex, List.isPrefixOf]
    | cons a q => simp at h1
  obtain ⟨w1, hw1⟩ : ∃ w1, w.alloc (.cells #[.int .i64 0, .string ⟨#[]⟩, .int .i64 0, .int .i64 0] 36) = w1 := ⟨_, rfl⟩
  have HR := keepHid (tok_new w w1 hw1)
  obtain ⟨c0, c1, c2, c3, cf⟩ := blk4 HR.out.1
  have hidx := fun w => run_idx (l := c :: r) (k := 0) (c := c) rfl 0 rfl w
  have HI : Hid (∀ w, Calls Tryd.prog 22 #[.int .u8 (c.toNat : Int), .string ⟨#[58, 59, 44, 123, 125]⟩] w fun e w' => e = .returned (.bool false) ∧ w' = w) := keepHid fun w => by
    have := in_any signL c (by decide) w
    rw [hs] at this
    exact this
  have hcd : (48 : Int) ≤ (c.toNat : Int) ∧ (c.toNat : Int) ≤ 57 := by
    rw [dec_is] at hdec
    simp only [Bool.and_eq_true, decide_eq_true_eq] at hdec
    omega
  obtain ⟨hcd1, hcd2⟩ := hcd
  have hc97 : ¬ (97 : Int) ≤ (c.toNat : Int) := by omega
  have HFT := keepHid (first_dec (r := r) hlet hdec)
  have HISH := keepHid hx
  have HLEAD : Hid (leadN (c :: r) = 0) := keepHid (by unfold leadN; rw [hx]; rfl)
  have HBASE : Hid (baseN (c :: r) = 10) := keepHid (by unfold baseN; rw [hx]; rfl)
  have HSET : Hid (digN (c :: r) = decL) := keepHid (by unfold digN; rw [hx]; rfl)
  generalize (c.toNat : Int) = cn at *
  clear hs hlet hdec hx
  obtain ⟨l, hL⟩ : ∃ l, c :: r = l := ⟨_, rfl⟩
  rw [hL] at hl h1 HFT HISH HLEAD HBASE HSET hidx ⊢
  have hlen : (strB l).size = l.length := strB_size l
  obtain ⟨N, hN⟩ : ∃ N, l.length = N := ⟨_, rfl⟩
  have HN := keepHid hN
  have hle : 0 ≤ N := by have := lead_le l; rw [HLEAD.out] at this; omega
  rw [hN] at hlen hl h1
  have HIN : Hid (∀ (d : UInt8) w, Calls Tryd.prog 22 #[.int .u8 (d.toNat : Int), .string ⟨#[48, 49, 50, 51, 52, 53, 54, 55, 56, 57]⟩] w fun e w' => e = .returned (.bool (decL.contains d)) ∧ w' = w) := keepHid fun d w => in_any decL d (by decide) w
  have hlen1 : ¬ (1 : Int) < (N : Int) := by omega
  clear hN hL
  go_enter Tryd.func23, Tryd.ntmps23
  go_wp2_with ((with_reducible refine (HI.out _).mono ?_); rintro e w' ⟨rfl, rfl⟩)
  clear hidx HI hw1 hcd1 hcd2 hc97 hlen1 h1
  go_loop [9, 10] (fun nv vv => ∃ k v : Nat, nv = .int .i64 (k : Int) ∧ vv = .int .u64 (v : Int) ∧ 0 ≤ k ∧ k ≤ N ∧ v < 35184372088832 ∧ Hid (RunAt decL l 0 k) ∧ Hid (Cap (valK 10 l 0 k) v)) (fun nv _ => N - (intOf nv).toNat)
  case atStart => exact ⟨0, 0, rfl, rfl, Nat.le_refl _, hle, by decide, keepHid (runAt_0 _ _ _), keepHid (by rw [valK_0]; exact cap_0)⟩
  case round =>
    obtain ⟨k, v, rfl, rfl, hk1, hk, hvb, HA, HC⟩ := hrel
    by_cases hkN : k < N
    · obtain ⟨d, hd⟩ : ∃ d, l[k]? = some d := ⟨_, List.getElem?_eq_getElem (by rw [HN.out]; exact hkN)⟩
      have hix := fun w => run_idx hd (k : Int) rfl w
      have HWD := keepHid (HIN.out d)
      have hkI : (k : Int) < (N : Int) := by omega
      cases hwd : decL.contains d with
      | true =>
        have HA1 := keepHid (runAt_step HA.out hd hk1 hwd)
        have hrg := rng10 d (List.contains_iff_mem.1 hwd)
        have hdg : dgt d < 16 := by omega
        have HVAL := keepHid (value_any d (by omega))
        rw [hwd] at HWD
        by_cases hv : v < 1099511627776
        · have HC1 : Hid (Cap (valK 10 l 0 (k + 1)) (v * 10 + dgt d)) := keepHid (by rw [valK_step hd hk1]; exact cap_go HC.out hv (by decide) hdg)
          have hvb1 := HC1.out.1
          have HDI : Hid (((v * 10 + dgt d : Nat) : Int) = (v : Int) * 10 + (dgt d : Int)) := keepHid (by omega)
          have hdI : (dgt d : Int) < 16 := by omega
          have hdI0 : (0 : Int) ≤ (dgt d : Int) := by omega
          generalize v * 10 + dgt d = v1 at *
          generalize (dgt d : Int) = dI at *
          generalize (d.toNat : Int) = dn at *
          clear hd hwd HA HC hrg hdg
          go_upto_if 73 with ((with_reducible refine (HWD.out _).mono ?_); rintro e w' ⟨rfl, rfl⟩)
          refine wp_cond_split rfl (fun h => ?_) (fun h => ?_)
          case refine_2 => exfalso; have := of_decide_eq_false h; omega
          clear h
          go_wp2_with (first | ((with_reducible refine (HWD.out _).mono ?_); rintro e w' ⟨rfl, rfl⟩) | ((with_reducible refine (HVAL.out _).mono ?_); rintro e w' ⟨rfl, rfl⟩))
          go_round
          case rel => exact ⟨k + 1, v1, by go_num, by rw [HDI.out], by omega, by omega, hvb1, HA1, HC1⟩
          case measure => simp [intOf]; omega
        · have HC1 : Hid (Cap (valK 10 l 0 (k + 1)) v) := keepHid (by rw [valK_step hd hk1]; exact cap_stay HC.out (by omega) (by decide))
          generalize (d.toNat : Int) = dn at *
          clear hd hwd HA HC hrg hdg HVAL
          go_upto_if 73 with ((with_reducible refine (HWD.out _).mono ?_); rintro e w' ⟨rfl, rfl⟩)
          refine wp_cond_split rfl (fun h => ?_) (fun h => ?_)
          case refine_1 => exfalso; have := of_decide_eq_true h; omega
          clear h
          go_wp2
          go_round
          case rel => exact ⟨k + 1, v, by go_num, rfl, by omega, by omega, hvb, HA1, HC1⟩
          case measure => simp [intOf]; omega
      | false =>
        have hrun := runAt_stop HA.out hd hwd
        obtain ⟨hbody, hsize⟩ := num_fin HLEAD.out HSET.out hk1 hrun
        have HNB : Hid (numBad l = (!okN ((l.drop 0).take (k - 0)) || decide (4294967296 ≤ valK 10 l 0 k) || letAt l k)) := keepHid (by rw [numBad_is, hbody, HBASE.out, hsize]; rfl)
        have HGD : Hid (numBad l = false → resV (firstT l) = .tuple #[.agg (tkA 2 (strB (l.take k)) (valK 10 l 0 k : Int) 0), .int .i64 (k : Int)]) := keepHid fun hb => by rw [HFT.out, num_good hb, hbody, HBASE.out, hsize]; rfl
        have hall : ∀ c ∈ (l.drop 0).take (k - 0), (setB 10).contains c = true := fun c hc => by have := body_all l c (by rw [hbody]; exact hc); rw [HBASE.out] at this; exact this
        have HTEST := keepHid (dig_test (b := 10) (by simp [Base]) _ hall)
        have hmid : ∀ w, (Instr.slice 9 (.string (strB l)) (some (.int .i64 0)) (some (.int .i64 (k : Int))) none).run Tryd.prog w = .ok (.string (strB ((l.drop 0).take (k - 0)))) w := fun w => run_mid hk1 (by rw [HN.out]; omega) .i64 .i64 0 (k : Int) rfl rfl w
        have hcutk : ∀ w, (Instr.slice 9 (.string (strB l)) none (some (.int .i64 (k : Int))) none).run Tryd.prog w = .ok (.string (strB (l.take k))) w := fun w => run_upto (by rw [HN.out]; omega) _ rfl w
        have HLA : Hid (letAt l k = (decide (97 ≤ d.toNat) && decide (d.toNat ≤ 122))) := keepHid (by rw [let_at_lt hd, let_is])
        rw [hwd] at HWD
        obtain ⟨dn, hdn⟩ : ∃ dn, d.toNat = dn := ⟨_, rfl⟩
        rw [hdn] at HLA HWD hix
        clear hdn
        have hcap := cap_big HC.out
        have HCV := keepHid hcap.2
        have HCB := keepHid hcap.1
        clear hbody hsize hall hrun hcap hd hwd
        by_cases hbig : 4294967296 ≤ v
        · have HBAD : Hid (numBad l = true) := keepHid (by rw [HNB.out, decide_eq_true (HCB.out.1 hbig)]; simp)
          have HV : Hid (resV (firstT l) = .tuple #[.agg (tkA 0 ⟨#[]⟩ 0 0), .int .i64 0]) := keepHid (by rw [HFT.out, num_bad HBAD.out]; rfl)
          have vb : (4294967296 : Int) ≤ (v : Int) := by omega
          have HDG := HBASE
          clear HNB HGD HTEST HLA HCV HCB HBAD
          go_upto_region 18 with ((with_reducible refine (HWD.out _).mono ?_); rintro e w' ⟨rfl, rfl⟩)
          refine wp_region_quiet_below (by kernel_rfl) (by kernel_rfl) ?_
          repeat (go_big_quiet_step (first | (with_reducible exact Calls.regrown_of (HDG.out _)) | (with_reducible exact Calls.regrown_of (HDG.out _))))
          refine wpQuiet_nil ?_
          intro wz hw'
          obtain ⟨⟨dq, osq⟩, hw''⟩ := hw'
          have hbz := regrown_bel hw''
          have HRZ := keepHid (HR.out.1.below hbz HR.out.1.lt)
          have HBZ := keepHid (HR.out.2.trans (hbz.mono HR.out.2.size))
          obtain ⟨e0, e1, e2, e3, ef⟩ := blk4 HRZ.out
          clear hw'' hbz c0 c1 c2 c3 cf
          go_wp2
          refine bodyPost_ret (tok_res rfl _ _ w.heap.size 0 ⟨#[]⟩ 0 0 (put4 HRZ.out) rfl _ rfl) rfl ?_
          exact ⟨by rw [HV.out]; rfl, set4 HBZ.out (Nat.le_refl _) _ _ _ _⟩
        · have hve : v = valK 10 l 0 k := HCV.out (by omega)
          have HVS : Hid (decide (4294967296 ≤ valK 10 l 0 k) = false) := keepHid (decide_eq_false (by rw [← hve]; exact hbig))
          have HDG : Hid (∀ w, Calls Tryd.prog 16 #[.int .u64 (v : Int), .int .u64 10] w fun e w' => e = .returned (.string (strB (digL 10 v))) ∧ Below w.heap.size w w') := keepHid (digits_any 10 (by simp [Base]) v (by omega))
          have heq : ((strB (digL 10 v)).toList == (strB ((l.drop 0).take (k - 0))).toList) = okN ((l.drop 0).take (k - 0)) := by rw [strB_beq, hve]; exact HTEST.out
          rw [← hve] at HGD
          clear HTEST HCV HCB hve
          obtain ⟨S, hS⟩ : ∃ S, strB (l.take k) = S := ⟨_, rfl⟩
          rw [hS] at HGD hcutk
          clear hS
          generalize strB ((l.drop 0).take (k - 0)) = X at *
          generalize strB (digL 10 v) = Y at *
          cases hok : okN ((l.drop 0).take (k - 0)) with
          | false =>
            rw [hok] at heq
            have HBAD : Hid (numBad l = true) := keepHid (by rw [HNB.out, hok]; rfl)
            have HV : Hid (resV (firstT l) = .tuple #[.agg (tkA 0 ⟨#[]⟩ 0 0), .int .i64 0]) := keepHid (by rw [HFT.out, num_bad HBAD.out]; rfl)
            clear HNB HGD HLA HBAD HVS hok
            go_upto_region 18 with ((with_reducible refine (HWD.out _).mono ?_); rintro e w' ⟨rfl, rfl⟩)
            have vs : ¬ (4294967296 : Int) ≤ (v : Int) := by omega
            refine wp_region_quiet_below (by kernel_rfl) (by kernel_rfl) ?_
            repeat (go_big_quiet_step (first | (with_reducible exact Calls.regrown_of (HDG.out _)) | (with_reducible exact Calls.regrown_of (HDG.out _))))
            refine wpQuiet_nil ?_
            intro wz hw'
            obtain ⟨⟨dq, osq⟩, hw''⟩ := hw'
            have hbz := regrown_bel hw''
            have HRZ := keepHid (HR.out.1.below hbz HR.out.1.lt)
            have HBZ := keepHid (HR.out.2.trans (hbz.mono HR.out.2.size))
            obtain ⟨e0, e1, e2, e3, ef⟩ := blk4 HRZ.out
            clear hw'' hbz c0 c1 c2 c3 cf
            go_wp2
            refine bodyPost_ret (tok_res rfl _ _ w.heap.size 0 ⟨#[]⟩ 0 0 (put4 HRZ.out) rfl _ rfl) rfl ?_
            exact ⟨by rw [HV.out]; rfl, set4 HBZ.out (Nat.le_refl _) _ _ _ _⟩
          | true =>
            rw [hok] at heq
            have HNL : Hid (numBad l = letAt l k) := keepHid (by rw [HNB.out, hok, HVS.out]; simp)
            clear HNB HVS hok
            by_cases q1 : 97 ≤ dn
            · have j1 : (97 : Int) ≤ (dn : Int) := by omega
              by_cases q2 : dn ≤ 122
              · have j2 : (dn : Int) ≤ 122 := by omega
                have HBAD : Hid (numBad l = true) := keepHid (by rw [HNL.out, HLA.out, decide_eq_true q1, decide_eq_true q2]; rfl)
                have HV : Hid (resV (firstT l) = .tuple #[.agg (tkA 0 ⟨#[]⟩ 0 0), .int .i64 0]) := keepHid (by rw [HFT.out, num_bad HBAD.out]; rfl)
                clear HGD HNL HLA HBAD
                go_upto_region 18 with ((with_reducible refine (HWD.out _).mono ?_); rintro e w' ⟨rfl, rfl⟩)
                have vs : ¬ (4294967296 : Int) ≤ (v : Int) := by omega
                refine wp_region_quiet_below (by kernel_rfl) (by kernel_rfl) ?_
                repeat (go_big_quiet_step (first | (with_reducible exact Calls.regrown_of (HDG.out _)) | (with_reducible exact Calls.regrown_of (HDG.out _))))
                refine wpQuiet_nil ?_
                intro wz hw'
                obtain ⟨⟨dq, osq⟩, hw''⟩ := hw'
                have hbz := regrown_bel hw''
                have HRZ := keepHid (HR.out.1.below hbz HR.out.1.lt)
                have HBZ := keepHid (HR.out.2.trans (hbz.mono HR.out.2.size))
                obtain ⟨e0, e1, e2, e3, ef⟩ := blk4 HRZ.out
                clear hw'' hbz c0 c1 c2 c3 cf
                go_wp2
                refine bodyPost_ret (tok_res rfl _ _ w.heap.size 0 ⟨#[]⟩ 0 0 (put4 HRZ.out) rfl _ rfl) rfl ?_
                exact ⟨by rw [HV.out]; rfl, set4 HBZ.out (Nat.le_refl _) _ _ _ _⟩
              · have HV := keepHid (HGD.out (by rw [HNL.out, HLA.out, decide_eq_true q1, decide_eq_false q2]; rfl))
                clear HGD HNL HLA
                go_upto_region 18 with ((with_reducible refine (HWD.out _).mono ?_); rintro e w' ⟨rfl, rfl⟩)
                have vs : ¬ (4294967296 : Int) ≤ (v : Int) := by omega
                have j2 : ¬ (dn : Int) ≤ 122 := by omega
                refine wp_region_quiet_below (by kernel_rfl) (by kernel_rfl) ?_
                repeat (go_big_quiet_step (first | (with_reducible exact Calls.regrown_of (HDG.out _)) | (with_reducible exact Calls.regrown_of (HDG.out _))))
                refine wpQuiet_nil ?_
                intro wz hw'
                obtain ⟨⟨dq, osq⟩, hw''⟩ := hw'
                have hbz := regrown_bel hw''
                have HRZ := keepHid (HR.out.1.below hbz HR.out.1.lt)
                have HBZ := keepHid (HR.out.2.trans (hbz.mono HR.out.2.size))
                obtain ⟨e0, e1, e2, e3, ef⟩ := blk4 HRZ.out
                clear hw'' hbz c0 c1 c2 c3 cf
                go_wp2
                refine bodyPost_ret (tok_res rfl _ _ w.heap.size 2 S (v : Int) 0 (put4 HRZ.out) rfl _ rfl) rfl ?_
                exact ⟨by rw [HV.out]; rfl, set4 HBZ.out (Nat.le_refl _) _ _ _ _⟩
            · have HV := keepHid (HGD.out (by rw [HNL.out, HLA.out, decide_eq_false q1]; rfl))
              clear HGD HNL HLA
              go_upto_region 18 with ((with_reducible refine (HWD.out _).mono ?_); rintro e w' ⟨rfl, rfl⟩)
              have vs : ¬ (4294967296 : Int) ≤ (v : Int) := by omega
              have j1 : ¬ (97 : Int) ≤ (dn : Int) := by omega
              refine wp_region_quiet_below (by kernel_rfl) (by kernel_rfl) ?_
              repeat (go_big_quiet_step (first | (with_reducible exact Calls.regrown_of (HDG.out _)) | (with_reducible exact Calls.regrown_of (HDG.out _))))
              refine wpQuiet_nil ?_
              intro wz hw'
              obtain ⟨⟨dq, osq⟩, hw''⟩ := hw'
              have hbz := regrown_bel hw''
              have HRZ := keepHid (HR.out.1.below hbz HR.out.1.lt)
              have HBZ := keepHid (HR.out.2.trans (hbz.mono HR.out.2.size))
              obtain ⟨e0, e1, e2, e3, ef⟩ := blk4 HRZ.out
              clear hw'' hbz c0 c1 c2 c3 cf
              go_wp2
              refine bodyPost_ret (tok_res rfl _ _ w.heap.size 2 S (v : Int) 0 (put4 HRZ.out) rfl _ rfl) rfl ?_
              exact ⟨by rw [HV.out]; rfl, set4 HBZ.out (Nat.le_refl _) _ _ _ _⟩
    · obtain rfl : k = N := by omega
      have hrun := runAt_end HA.out (by rw [HN.out]; exact Nat.le_refl _)
      obtain ⟨hbody, hsize⟩ := num_fin HLEAD.out HSET.out hk1 hrun
      have HNB : Hid (numBad l = (!okN ((l.drop 0).take (k - 0)) || decide (4294967296 ≤ valK 10 l 0 k) || letAt l k)) := keepHid (by rw [numBad_is, hbody, HBASE.out, hsize]; rfl)
      have HGD : Hid (numBad l = false → resV (firstT l) = .tuple #[.agg (tkA 2 (strB (l.take k)) (valK 10 l 0 k : Int) 0), .int .i64 (k : Int)]) := keepHid fun hb => by rw [HFT.out, num_good hb, hbody, HBASE.out, hsize]; rfl
      have hall : ∀ c ∈ (l.drop 0).take (k - 0), (setB 10).contains c = true := fun c hc => by have := body_all l c (by rw [hbody]; exact hc); rw [HBASE.out] at this; exact this
      have HTEST := keepHid (dig_test (b := 10) (by simp [Base]) _ hall)
      have hmid : ∀ w, (Instr.slice 9 (.string (strB l)) (some (.int .i64 0)) (some (.int .i64 (k : Int))) none).run Tryd.prog w = .ok (.string (strB ((l.drop 0).take (k - 0)))) w := fun w => run_mid hk1 (by rw [HN.out]; omega) .i64 .i64 0 (k : Int) rfl rfl w
      have hcutk : ∀ w, (Instr.slice 9 (.string (strB l)) none (some (.int .i64 (k : Int))) none).run Tryd.prog w = .ok (.string (strB (l.take k))) w := fun w => run_upto (by rw [HN.out]; omega) _ rfl w
      have HLA : Hid (letAt l k = false) := keepHid (let_at_ge (by rw [HN.out]; exact Nat.le_refl _))
      have hcap := cap_big HC.out
      have HCV := keepHid hcap.2
      have HCB := keepHid hcap.1
      clear hbody hsize hall hrun hcap
      by_cases hbig : 4294967296 ≤ v
      · have HBAD : Hid (numBad l = true) := keepHid (by rw [HNB.out, decide_eq_true (HCB.out.1 hbig)]; simp)
        have HV : Hid (resV (firstT l) = .tuple #[.agg (tkA 0 ⟨#[]⟩ 0 0), .int .i64 0]) := keepHid (by rw [HFT.out, num_bad HBAD.out]; rfl)
        have vb : (4294967296 : Int) ≤ (v : Int) := by omega
        have HDG := HBASE
        clear HNB HGD HTEST HLA HCV HCB HBAD
        go_upto_region 18 with (fail)
        refine wp_region_quiet_below (by kernel_rfl) (by kernel_rfl) ?_
        repeat (go_big_quiet_step (first | (with_reducible exact Calls.regrown_of (HDG.out _)) | (with_reducible exact Calls.regrown_of (HDG.out _))))
        refine wpQuiet_nil ?_
        intro wz hw'
        obtain ⟨⟨dq, osq⟩, hw''⟩ := hw'
        have hbz := regrown_bel hw''
        have HRZ := keepHid (HR.out.1.below hbz HR.out.1.lt)
        have HBZ := keepHid (HR.out.2.trans (hbz.mono HR.out.2.size))
        obtain ⟨e0, e1, e2, e3, ef⟩ := blk4 HRZ.out
        clear hw'' hbz c0 c1 c2 c3 cf
        go_wp2
        refine bodyPost_ret (tok_res rfl _ _ w.heap.size 0 ⟨#[]⟩ 0 0 (put4 HRZ.out) rfl _ rfl) rfl ?_
        exact ⟨by rw [HV.out]; rfl, set4 HBZ.out (Nat.le_refl _) _ _ _ _⟩
      · have hve : v = valK 10 l 0 k := HCV.out (by omega)
        have HVS : Hid (decide (4294967296 ≤ valK 10 l 0 k) = false) := keepHid (decide_eq_false (by rw [← hve]; exact hbig))
        have HDG : Hid (∀ w, Calls Tryd.prog 16 #[.int .u64 (v : Int), .int .u64 10] w fun e w' => e = .returned (.string (strB (digL 10 v))) ∧ Below w.heap.size w w') := keepHid (digits_any 10 (by simp [Base]) v (by omega))
        have heq : ((strB (digL 10 v)).toList == (strB ((l.drop 0).take (k - 0))).toList) = okN ((l.drop 0).take (k - 0)) := by rw [strB_beq, hve]; exact HTEST.out
        rw [← hve] at HGD
        clear HTEST HCV HCB hve
        obtain ⟨S, hS⟩ : ∃ S, strB (l.take k) = S := ⟨_, rfl⟩
        rw [hS] at HGD hcutk
        clear hS
        generalize strB ((l.drop 0).take (k - 0)) = X at *
        generalize strB (digL 10 v) = Y at *
        cases hok : okN ((l.drop 0).take (k - 0)) with
        | false =>
          rw [hok] at heq
          have HBAD : Hid (numBad l = true) := keepHid (by rw [HNB.out, hok]; rfl)
          have HV : Hid (resV (firstT l) = .tuple #[.agg (tkA 0 ⟨#[]⟩ 0 0), .int .i64 0]) := keepHid (by rw [HFT.out, num_bad HBAD.out]; rfl)
          clear HNB HGD HLA HBAD HVS hok
          go_upto_region 18 with (fail)
          have vs : ¬ (4294967296 : Int) ≤ (v : Int) := by omega
          refine wp_region_quiet_below (by kernel_rfl) (by kernel_rfl) ?_
          repeat (go_big_quiet_step (first | (with_reducible exact Calls.regrown_of (HDG.out _)) | (with_reducible exact Calls.regrown_of (HDG.out _))))
          refine wpQuiet_nil ?_
          intro wz hw'
          obtain ⟨⟨dq, osq⟩, hw''⟩ := hw'
          have hbz := regrown_bel hw''
          have HRZ := keepHid (HR.out.1.below hbz HR.out.1.lt)
          have HBZ := keepHid (HR.out.2.trans (hbz.mono HR.out.2.size))
          obtain ⟨e0, e1, e2, e3, ef⟩ := blk4 HRZ.out
          clear hw'' hbz c0 c1 c2 c3 cf
          go_wp2
          refine bodyPost_ret (tok_res rfl _ _ w.heap.size 0 ⟨#[]⟩ 0 0 (put4 HRZ.out) rfl _ rfl) rfl ?_
          exact ⟨by rw [HV.out]; rfl, set4 HBZ.out (Nat.le_refl _) _ _ _ _⟩
        | true =>
          rw [hok] at heq
          have HNL : Hid (numBad l = letAt l k) := keepHid (by rw [HNB.out, hok, HVS.out]; simp)
          clear HNB HVS hok
          have HV := keepHid (HGD.out (HNL.out.trans HLA.out))
          clear HGD HNL HLA
          go_upto_region 18 with (fail)
          have vs : ¬ (4294967296 : Int) ≤ (v : Int) := by omega
          refine wp_region_quiet_below (by kernel_rfl) (by kernel_rfl) ?_
          repeat (go_big_quiet_step (first | (with_reducible exact Calls.regrown_of (HDG.out _)) | (with_reducible exact Calls.regrown_of (HDG.out _))))
          refine wpQuiet_nil ?_
          intro wz hw'
          obtain ⟨⟨dq, osq⟩, hw''⟩ := hw'
          have hbz := regrown_bel hw''
          have HRZ := keepHid (HR.out.1.below hbz HR.out.1.lt)
          have HBZ := keepHid (HR.out.2.trans (hbz.mono HR.out.2.size))
          obtain ⟨e0, e1, e2, e3, ef⟩ := blk4 HRZ.out
          clear hw'' hbz c0 c1 c2 c3 cf
          go_wp2
          refine bodyPost_ret (tok_res rfl _ _ w.heap.size 2 S (v : Int) 0 (put4 HRZ.out) rfl _ rfl) rfl ?_
          exact ⟨by rw [HV.out]; rfl, set4 HBZ.out (Nat.le_refl _) _ _ _ _⟩

theorem one_any (c : UInt8) (r : List UInt8) (hl : (c :: r).length ≤ 4096) (w : World) :
    Calls Tryd.prog 23 #[.string (strB (c :: r))] w fun e w' => e = .returned (resV (firstT (c :: r))) ∧ Below w.heap.size w w' := by
  cases hs : signL.contains c with
  | true => exact one_sign c r hl hs w
  | false =>
    cases hlet : letL.contains c with
    | true => exact one_word c r hl hs hlet w
    | false =>
      cases hdec : decL.contains c with
      | true =>
        by_cases h1 : 1 < (c :: r).length
        · cases hx : isHex (c :: r) with
          | true => exact one_hex c r hl hs hlet hdec hx h1 w
          | false => exact one_dec c r hl hs hlet hdec hx h1 w
        · exact one_one c r hl hs hlet hdec (by simp at h1 ⊢; omega) w
      | false =>
        by_cases h34 : c = 34
        · exact one_text c r hl hs h34 w
        · exact one_none c r hl hs hlet hdec h34 w
end Go.Proofs.YtgokejoieafgiaaDoor
