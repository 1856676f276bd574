/-
  'lifelinelaw02.RingAll' answers true for every input of the row, and leaves its arguments as they were.
  Conditions: the arguments hold together at most 1048576 values and bytes, each counted each time that it is reached.
-/
import Derived.Test.YtdbdofldfgjpoaaRows
import Derived.Test.YtdbdofldfgjpoaaRingUse
import Derived.Test.YtdbdofldfgjpoaaFrame
import Derived.Test.YtdbdofldfgjpoaaFrameRows
import Derived.WalkKit
import Derived.ProofKit
import Derived.OpenShut
import Derived.ShutString
import Derived.ChangeOld
import Derived.Below
import Derived.JoinedCond
import Derived.Deep.CondSized
namespace Go.Proofs.Ytdbdofldfgjpoaa.ringAll
open Go.ChangeShapes Go.WideShapes Go.ChangeAt Go.RowKit
open Go.ChangeMaps (open_string shut_string)
set_option linter.unusedVariables false

theorem own : ownKnob Try.prog.godebug = none := by kernel_rfl
theorem laidOut : laidOutB Try.prog = true := by kernel_rfl

theorem flat_step {y : List (List UInt8)} {k : Nat} {bs : List UInt8} (h : y[k]? = some bs) : (y.take (k + 1)).flatten = (y.take k).flatten ++ bs := by
  rw [List.take_succ_of h, List.flatten_append]
  simp
theorem flat_le (y : List (List UInt8)) (k : Nat) : (y.take k).flatten.length ≤ y.flatten.length := by
  conv => rhs; rw [← List.take_append_drop k y, List.flatten_append, List.length_append]
  omega
theorem fill_step (T bs : List UInt8) (m : Nat) (hm : (bs.length ≤ 4096 - (T.take 4096).length ∧ m = bs.length) ∨ (4096 - (T.take 4096).length < bs.length ∧ m = 4096 - (T.take 4096).length)) : T.take 4096 ++ bs.take m = (T ++ bs).take 4096 := by
  rw [List.take_append]
  congr 1
  rw [List.length_take] at hm
  rcases Nat.le_total T.length 4096 with h | h
  · rw [Nat.min_eq_right h] at hm
    rcases hm with ⟨h1, rfl⟩ | ⟨h1, rfl⟩
    · rw [List.take_of_length_le (Nat.le_refl _), List.take_of_length_le h1]
    · rfl
  · rw [Nat.min_eq_left h] at hm
    have e1 : 4096 - T.length = 0 := by omega
    have e2 : m = 0 := by omega
    rw [e1, e2]

set_option maxHeartbeats 2000000 in
theorem walk (a0 : Option Addr) (n0 c0 : Nat) (y0 : List (List UInt8)) (x1 : Int) (w : World) (h0 : RowsB w a0 n0 y0) (hbulk : y0.flatten.length ≤ 1048576) (l0 : n0 ≤ c0) (s0 : c0 ≤ 9223372036854775807) (h1 : -9223372036854775808 ≤ x1 ∧ x1 ≤ 9223372036854775807) :
    Calls Try.prog 5 #[.slice a0 n0 c0, .int .i64 x1] w fun e w' => e = .returned (.bool true) ∧ Below w.heap.size w w' := by
  have H0 := keepHid h0
  clear h0
  go_enter Try.func5, Try.ntmps5
  go_wp2_with fail
  refine (awake_any _).mono ?_
  rintro e w1 ⟨rfl, hb⟩
  have HB1 := keepHid hb
  clear hb
  go_wp2_with fail
  refine (of_ring 4096 4096 (.inr (.inl (by omega))) _).mono ?_
  rintro e w2 ⟨g, c, rfl, hr, hg, hc, hb⟩
  have HR2 := keepHid hr
  have hg' : w.heap.size ≤ g := Nat.le_trans HB1.out.size hg
  have hc' : w.heap.size ≤ c := Nat.le_trans HB1.out.size hc
  have HB2 := keepHid (HB1.out.trans (hb.mono HB1.out.size))
  have hnil : (⟨#[]⟩ : ByteArray) = strB [] := rfl
  have HNIL := keepHid hnil
  clear hr hb hg hc hnil
  go_wp2
  go_loopw [6, 16] (fun s i wr => ∃ (k : Nat) (l : Int), k ≤ n0 ∧ i = .int .i64 k ∧ s = .string (strB (y0.take k).flatten) ∧ Below w.heap.size w wr ∧ Ring wr g c 4096 ((y0.take k).flatten.take 4096) l ∧ ((y0.take k).flatten.length ≤ 4096 → l = 0)) (fun _ i _ => n0 - (intOf i).toNat)
  case atStart => exact ⟨0, 0, Nat.zero_le _, rfl, by rw [HNIL.out]; rfl, HB2.out, by simpa using HR2.out, fun _ => rfl⟩
  case round =>
    obtain ⟨k, l, hk, rfl, rfl, hbw, hr, hl⟩ := hrel
    have HBW := keepHid hbw
    have HR := keepHid hr
    have HL := keepHid hl
    clear hbw hr hl
    by_cases hlt : k < n0
    · obtain ⟨bs, hbs⟩ : ∃ bs, y0[k]? = some bs := ⟨_, List.getElem?_eq_getElem (by rw [H0.out.1]; exact hlt)⟩
      obtain ⟨ad, Ak, ck, rfl, had, hcell, hlc, hcm, hby⟩ := H0.out.2 k bs hbs
      have hcell' : wr.cell? (ad.add k) = some (.slice Ak bs.length ck) := (HBW.out.cell (by rw [ad_block]; exact had)).trans hcell
      have HFS := keepHid (flat_step hbs)
      have hfl := flat_le y0 (k + 1)
      rw [HFS.out, List.length_append] at hfl
      have HBY := keepHid (hby.below HBW.out)
      have hap : Apart (Own g c) Ak bs.length := hby.apart (by intro i hi; rcases hi with rfl | rfl <;> assumption)
      have HAP := keepHid hap
      obtain ⟨m, hm⟩ : ∃ m, (bs.length ≤ 4096 - ((y0.take k).flatten.take 4096).length ∧ m = bs.length) ∨ (4096 - ((y0.take k).flatten.take 4096).length < bs.length ∧ m = 4096 - ((y0.take k).flatten.take 4096).length) := by
        by_cases h : bs.length ≤ 4096 - ((y0.take k).flatten.take 4096).length
        · exact ⟨_, .inl ⟨h, rfl⟩⟩
        · exact ⟨_, .inr ⟨by omega, rfl⟩⟩
      have HM := keepHid hm
      have HFILL := keepHid (fill_step (y0.take k).flatten bs m hm)
      have hadd := run_strAdd (P := Try.prog) (y0.take k).flatten bs (by omega)
      have HADD := keepHid hadd
      generalize hT : (y0.take k).flatten = T at *
      have HT := keepHid hT
      generalize hnb : bs.length = nb at *
      have HNB := keepHid hnb
      clear hbs hby had hcell hm hap hT hnb hadd
      go_wp2_with fail
      refine (put_ring g c 4096 _ l _ nb ck _ m bs _ HR.out HBY.out HBW.out.size hlc hcm HAP.out HM.out).mono ?_
      rintro e w3 ⟨rfl, hr3, ht3⟩
      rw [HFILL.out] at hr3
      have HR3 := keepHid hr3
      have HB3 := keepHid (HBW.out.trans (ht3.below (B := w.heap.size) (by intro i hi; rcases hi with rfl | rfl <;> assumption) HBW.out.size))
      have hcv := run_str (P := Try.prog) (c := ck) 27 5 9 Try.underlying27 Try.underlying5 Try.underlying9 (HBY.out.turn ht3 HBW.out.size HAP.out)
      have hadd := HADD.out
      clear hr3 ht3
      go_wp2
      go_roundw
      case rel =>
        refine ⟨k + 1, lostBy l ((nb : Int) - (m : Int)), by omega, by go_num, by rw [HFS.out], HB3.out, by rw [HFS.out]; exact HR3.out, ?_⟩
        intro hle
        rw [HFS.out, List.length_append, HNB.out] at hle
        have hm := HM.out
        rw [List.length_take] at hm
        have e1 : m = nb := by omega
        rw [HL.out (by omega), e1, lostBy_in] <;> omega
      case measure => simp [intOf]; omega
    · obtain rfl : k = n0 := by omega
      have hT : (y0.take k).flatten = y0.flatten := by rw [List.take_of_length_le (by rw [H0.out.1]; exact Nat.le_refl _)]
      rw [hT] at HR HL
      have HTT := keepHid hT
      clear hT
      have hg1 := HR.out
      generalize y0.flatten = T at *
      obtain ⟨q, hq⟩ : ∃ q, T.take 4096 = q := ⟨_, rfl⟩
      rw [hq] at HR
      have hq4 : q.length ≤ 4096 := by rw [← hq, List.length_take]; omega
      have hqT : T.length ≤ 4096 → q = T := fun h => by rw [← hq]; exact List.take_of_length_le h
      obtain ⟨m, hm⟩ : ∃ m : Nat, (x1 < 1 ∧ m = 0) ∨ (1 ≤ x1 ∧ x1 ≤ q.length ∧ x1 = (m : Int)) ∨ ((q.length : Int) < x1 ∧ m = q.length) := by
        by_cases h1 : x1 < 1
        · exact ⟨0, .inl ⟨h1, rfl⟩⟩
        · by_cases h2 : x1 ≤ q.length
          · exact ⟨x1.toNat, .inr (.inl ⟨by omega, h2, by omega⟩)⟩
          · exact ⟨_, .inr (.inr ⟨by omega, rfl⟩)⟩
      have hmq : m ≤ q.length := by omega
      have HM := keepHid hm
      have hlm : (q.take m).length = m := by rw [List.length_take]; omega
      have hld : (q.drop m).length = q.length - m := List.length_drop
      have hlast : (q.drop m).take (q.length - m) = q.drop m := List.take_of_length_le (by omega)
      have hnone : (q.drop m).drop (q.length - m) = [] := List.drop_eq_nil_of_le (by omega)
      have HLM := keepHid hlm
      have HLD := keepHid hld
      have HLAST := keepHid hlast
      have HNONE := keepHid hnone
      have HQT := keepHid hqT
      clear hm hlm hld hlast hnone hqT hq hg1
      obtain ⟨d, hd⟩ : ∃ d, q.length - m = d := ⟨_, rfl⟩
      rw [hd] at HLD HLAST HNONE
      have hd4 : d ≤ 4096 := by omega
      have HD := keepHid hd
      clear hd
      go_wp2_with fail
      refine (take_ring g c 4096 q l x1 m _ HR.out HM.out).mono ?_
      rintro e w3 ⟨t, rfl, hr3, hk3, ht, ht3⟩
      have hcv := run_str (P := Try.prog) (c := m) 27 5 9 Try.underlying27 Try.underlying5 Try.underlying9 (bys_of_blk hk3 (n := m) HLM.out (by omega))
      have HR3 := keepHid hr3
      have HB3 := keepHid (HBW.out.trans (ht3.below (B := w.heap.size) (by intro i hi; rcases hi with rfl | rfl <;> assumption) HBW.out.size))
      clear hr3 hk3 ht3
      go_wp2_with fail
      refine (take_ring g c 4096 (q.drop m) l 1048576 d _ HR3.out (.inr (.inr ⟨by rw [HLD.out]; omega, HLD.out.symm⟩))).mono ?_
      rintro e w4 ⟨t', rfl, hr4, hk4, ht', ht4⟩
      rw [HLAST.out] at hk4
      rw [HNONE.out] at hr4
      have hcv4 := run_str (P := Try.prog) (c := d) 27 5 9 Try.underlying27 Try.underlying5 Try.underlying9 (bys_of_blk hk4 (n := d) HLD.out (by omega))
      have HR4 := keepHid hr4
      have HB4 := keepHid (HB3.out.trans (ht4.below (B := w.heap.size) (by intro i hi; rcases hi with rfl | rfl <;> assumption) HB3.out.size))
      clear hr4 hk4 ht4 hcv
      rw [HTT.out]
      have hsz := strB_size T
      by_cases hbig : 4096 < T.length
      · go_wp2
        go_ret
        exact ⟨rfl, HB4.out⟩
      · have hq' := HQT.out (by omega)
        have hl0 := HL.out (by omega)
        have hadd : ∀ W : World, (Op.stringOp .add (strB (q.take m)) (strB (q.drop m))).run Try.prog W = .ok (.string (strB T)) W := fun W => by
          rw [run_strAdd _ _ (by rw [HLM.out, HLD.out]; omega), List.take_append_drop, hq']
        have hbig' : ¬ (4096 : Int) < (T.length : Int) := by omega
        rw [hl0] at HR4
        have HR5 := HR4
        clear hq' hl0 HR4
        go_wp2_with fail
        refine (lost_ring g c _ _ _ _ HR5.out).mono ?_
        rintro e w' ⟨rfl, rfl⟩
        go_wp2_with fail
        refine (len_ring g c _ _ _ _ HR5.out).mono ?_
        rintro e w' ⟨rfl, rfl⟩
        go_wp2
        go_ret
        exact ⟨rfl, HB4.out⟩

theorem bulk_slice {H : Type} (el sp : List (DataW H)) : el.length ≤ Rows.uptoBulk (.slice el sp) := by
  have one : ∀ d : DataW H, 1 ≤ Rows.uptoBulk d := fun d => by
    cases d with
    | lit l => cases l <;> simp [Rows.uptoBulk]
    | nil => simp [Rows.uptoBulk]
    | ptr d => simp [Rows.uptoBulk]
    | slice elems spare => simp [Rows.uptoBulk]
    | agg parts => simp [Rows.uptoBulk]
    | iface t d => simp [Rows.uptoBulk]
    | map entries => simp [Rows.uptoBulk]
    | held h => simp [Rows.uptoBulk]
  have len : ∀ l : List (DataW H), l.length ≤ Rows.uptoBulkAll l := fun l => by
    induction l with
    | nil => simp [Rows.uptoBulkAll]
    | cons x r ih => have := one x; simp only [Rows.uptoBulkAll, List.length_cons]; omega
  have := len el
  simp only [Rows.uptoBulk]
  omega
theorem bulk_rows {H : Type} : ∀ (y : List (List UInt8)) (D : Nat → DataW H) (s : Nat), (∀ k bs, y[k]? = some bs → SizedAs (D (s + k)) bs.length) → y.flatten.length ≤ Rows.uptoBulkAll ((List.range y.length).map fun k => D (s + k))
  | [], D, s, _ => by simp [Rows.uptoBulkAll]
  | b :: y, D, s, h => by
    have ih := bulk_rows y D (s + 1) (fun k bs hk => by have := h (k + 1) bs (by simpa using hk); rwa [show s + (k + 1) = s + 1 + k by omega] at this)
    have h0 := h 0 b rfl
    rw [List.length_cons, List.range_succ_eq_map, List.map_cons, List.map_map]
    simp only [Rows.uptoBulkAll, List.flatten_cons, List.length_append]
    have e : (List.range y.length).map ((fun k => D (s + k)) ∘ Nat.succ) = (List.range y.length).map fun k => D (s + 1 + k) := by
      apply List.map_congr_left
      intro k _
      show D (s + (k + 1)) = _
      rw [show s + (k + 1) = s + 1 + k by omega]
    rw [e]
    have h1 : b.length ≤ Rows.uptoBulk (D (s + 0)) := by
      rcases h0 with ⟨hd, hk⟩ | ⟨el, sp, hd, hk⟩
      · omega
      · rw [hd, ← hk]; exact bulk_slice el sp
    omega

set_option maxRecDepth 100000 in
theorem lifted (os : Os) (started : os.Started) (H : Type) (enc : TypeId × Value → H) (F : Stop.Interp) :
    ReturnsInHanded {} Try.checked os 5 .any ((Rows.OpenSpec.upto Rows.ringAllSpec).pre6 enc Try.prog Try.f5 Rows.ringAllUptoRow.domain false) (((Rows.OpenSpec.upto Rows.ringAllSpec).at F).post enc Try.prog Try.f5 false true false false) := by
  refine returnsInHanded_of_cond_sized (C := Try.checked) (s := Rows.OpenSpec.upto Rows.ringAllSpec) (k := Rows.uptoSmall) rfl own started (by kernel_rfl) Try.func5
    (OpenSpec.witness (enc := enc) (C := Try.checked) (s := Rows.OpenSpec.upto Rows.ringAllSpec) (k := Rows.uptoSmall) rfl false ⟨#[], #[.slice none 0 0, .int .i64 0], []⟩ 8 (by kernel_rfl) (by kernel_rfl) (by kernel_rfl)
      (x := ([.nil, .lit (.int .i64 0)], [], [])) (by kernel_rfl) rfl (by kernel_rfl)) ?_
  intro W base args ds gs before hval0 hW hcnd hsmall0 hsz0 _
  have hsz : (DataW.weightsEach Try.prog (Try.f5.params.toList ++ Rows.ringAllSpec.plain.varTypes Try.prog) (ds ++ gs)).all (· ≤ reachBytes) = true := hsz0
  clear hsz0
  have hsmall : Rows.uptoBulkAll (ds ++ gs) ≤ 1048576 := of_decide_eq_true hsmall0
  clear hsmall0
  have hval : ∀ (j : Nat) t v, Try.f5.params[j]? = some t → args[j]? = some v → Value.okWide Try.prog W .any base t v := hval0
  have hW' := hW
  obtain ⟨p, q, hA0, hV, rfl, hfz, hnd⟩ := hW
  have hA : DataW.TrodAll enc Try.prog W 0 (fun _ => true) true Try.f5.params.toList args.toList ds p := hA0
  rw [Try.params5] at hA hval hsz
  obtain ⟨v0, vs0, d0, ds0, p0, q0, hargs, rfl, rfl, h0, r0⟩ := trodAll_cons hA
  obtain ⟨v1, vs1, d1, ds1, p1, q1, rfl, rfl, rfl, h1, r1⟩ := trodAll_cons r0
  obtain ⟨rfl, rfl, rfl⟩ := trodAll_nil r1
  obtain rfl : args = #[v0, v1] := by cases args; simp_all
  obtain ⟨rfl, rfl⟩ := trodVars_none hV
  have k0 := h0
  have lt0 : ∀ x ∈ p0, x.block < W.heap.size := by obtain ⟨m, hm⟩ := k0; exact DataW.trod_lt m _ _ _ hm
  have k1 := h1
  have lt1 : ∀ x ∈ p1, x.block < W.heap.size := by obtain ⟨m, hm⟩ := k1; exact DataW.trod_lt m _ _ _ hm
  obtain ⟨a0, n0, c0, y0, rfl, w0, l0, s0, b0⟩ := open_rows Try.underlying36 Try.underlying27 Try.underlying5 (by kernel_rfl) (by kernel_rfl) (hval 0 36 v0 rfl rfl) h0
  obtain ⟨x1, rfl, rfl, rfl, w1⟩ := open_int Try.underlying3 (hval 1 3 v1 rfl rfl) h1
  clear hA0 hval0
  simp only [List.append_nil, Rows.uptoBulkAll] at hsmall
  have hbulk : y0.flatten.length ≤ 1048576 := by
    rcases b0 with ⟨_, hy⟩ | ⟨D, sp, hd, hD⟩
    · subst hy; simp
    · subst hd
      have := bulk_rows y0 D 0 (fun k bs hk => by simpa using hD k bs hk)
      simp only [Rows.uptoBulk] at hsmall
      rw [w0.1] at this
      simp only [Nat.zero_add] at this
      have h2 : y0.flatten.length ≤ Rows.uptoBulkAll ((List.range n0).map D) := this
      omega
  refine (walk a0 n0 c0 y0 x1 W w0 hbulk l0 s0 (wf_i64 w1)).mono fun e W' ⟨he, bel⟩ => ?_
  subst he
  exact ⟨_, rfl, _, _, _, [], _, [], hW', trodAll_mk1 (shut_bool Try.underlying4 _), (trodAll_cons_mk (Below.trod laidOut (by kernel_rfl) (of_decide_eq_true (by kernel_rfl)) k0 bel lt0) (trodAll_cons_mk (Below.trod laidOut (by kernel_rfl) (of_decide_eq_true (by kernel_rfl)) k1 bel lt1) trodAll_mk0)), rfl, bel.frame _, fun h => by cases h⟩

theorem over : Rows.ringAllUptoRow.holds Try.pinned (Rows.OpenSpec.upto Rows.ringAllSpec) :=
  OpenClaim.holds_of_cond 5 Try.f5 rfl rfl rfl rfl rfl rfl rfl ⟨rfl, rfl, rfl, rfl, rfl⟩ rfl rfl rfl rfl rfl (by kernel_rfl) Try.func5 (by kernel_rfl)
    (of_decide_eq_true (by kernel_rfl)) (by unfold Func.isWrapper; first | (rw [if_pos (by decide +kernel)]; kernel_rfl) | (rw [if_neg (by decide +kernel)]; exact ⟨rfl, rfl⟩))
    (fun os started H enc _ F => lifted os started H enc F)

theorem proved : Rows.RingAllUptoSaid := over
end Go.Proofs.Ytdbdofldfgjpoaa.ringAll
