/-
  'lifelinelaw07.NfaQuoted' answers true for every input, and leaves its arguments as they were.
  Conditions: none but what the row itself says of its arguments (how much memory each may take).
-/
import Derived.Test.YtlmjijejgfhmmaaRows
import Derived.Test.YtlmjijejgfhmmaaNfaKit
import Derived.Test.YtlmjijejgfhmmaaRegexQuoted
import Derived.Test.YtlmjijejgfhmmaaRegexParse
import Derived.Test.YtlmjijejgfhmmaaFrame
import Derived.WalkKit
import Derived.ProofKit
import Derived.OpenShut
import Derived.ShutString
import Derived.ChangeOld
import Derived.Below
namespace Go.Proofs.Ytlmjijejgfhmmaa.nfaQuoted
open Go.ChangeShapes Go.WideShapes Go.ChangeAt Go.RowKit
open Go.ChangeMaps (open_string shut_string)
set_option linter.unusedVariables false

theorem own : ownKnob Try.prog.godebug = none := by kernel_rfl
theorem laidOut : laidOutB Try.prog = true := by kernel_rfl

theorem min_int (ts : Array TypeId) (t : TypeId) (a : Nat) (b : Int) (k : Nat) (h : min (a : Int) b = (k : Int)) (w : World) :
    (Builtin.min_ ts t #[.int .i64 (a : Int), .int .i64 b]).run Try.prog w = .ok (.int .i64 (k : Int)) w := by
  rw [← h]
  by_cases hc : b < (a : Int)
  · simp [Builtin.min_, Builtin.min2, Int.min_def]
    split <;> first | rfl | omega
  · simp [Builtin.min_, Builtin.min2, Int.min_def]
    split <;> first | rfl | omega
theorem mt_byte (c : UInt8) (s : List UInt8) : Mt (byteR c) s ↔ s = [c] := by
  constructor
  · rintro ⟨d, rfl, h⟩
    rw [has_with st0 c.toNat d.toNat (u8lt c) (u8lt d)] at h
    have e : hasS st0 d.toNat = false := has_none d.toNat
    rw [e, Bool.false_or, decide_eq_true_iff] at h
    rw [UInt8.toNat_inj.1 h]
  · rintro rfl
    exact ⟨c, rfl, by rw [has_with st0 c.toNat c.toNat (u8lt c) (u8lt c)]; simp⟩
theorem mt_fold : ∀ (r : List UInt8) (n : Re) (p : List UInt8), (∀ s, Mt n s ↔ s = p) → ∀ s, Mt (r.foldl (fun n x => .thn n (byteR x)) n) s ↔ s = p ++ r
  | [], n, p, h, s => by simpa using h s
  | c :: r, n, p, h, s => by
    have := mt_fold r (.thn n (byteR c)) (p ++ [c]) (fun s => by
      constructor
      · rintro ⟨u, v, rfl, h1, h2⟩
        rw [(h u).1 h1, (mt_byte c v).1 h2]
      · rintro rfl
        exact ⟨p, [c], rfl, (h p).2 rfl, (mt_byte c _).2 rfl⟩) s
    simpa using this
theorem mt_tree (l s : List UInt8) : Mt (treeOf l) s ↔ s = l := by
  cases l with
  | nil => exact Iff.rfl
  | cons c r => exact mt_fold r (byteR c) [c] (mt_byte c) s
theorem sz_fold : ∀ (r : List UInt8) (n : Re), sz (r.foldl (fun n x => .thn n (byteR x)) n) = sz n + r.length
  | [], n => by simp
  | c :: r, n => by
    rw [List.foldl_cons, sz_fold r]
    simp [sz, byteR]; omega
theorem sz_tree (l : List UInt8) : sz (treeOf l) = l.length := by
  cases l with
  | nil => rfl
  | cons c r => show sz (r.foldl _ _) = _; rw [sz_fold]; simp [sz, byteR]; omega
theorem nds_fold : ∀ (r : List UInt8) (n : Re), nds (r.foldl (fun n x => .thn n (byteR x)) n) = nds n + 3 * r.length
  | [], n => by simp
  | c :: r, n => by
    rw [List.foldl_cons, nds_fold r]
    simp [nds, byteR]; omega
theorem nds_tree (l : List UInt8) : nds (treeOf l) ≤ 3 * l.length + 1 := by
  cases l with
  | nil => exact Nat.le_refl _
  | cons c r => show nds (r.foldl _ _) ≤ _; rw [nds_fold]; simp [nds, byteR]; omega
theorem fits_tree (l u : List UInt8) : fitsB (auOf (treeOf l)) u = decide (u = l) := by
  rw [Bool.eq_iff_iff, decide_eq_true_iff, fits_iff (auOf_ok _), mt_tree]
set_option maxHeartbeats 1000000 in
theorem walk (l0 u : List UInt8) (w : World) (h0 : l0.length ≤ 140737488351232) (h1 : u.length ≤ 140737488351232) :
    Calls Try.prog 6 #[.string (strB l0), .string (strB u)] w fun e w' => e = .returned (.bool true) ∧ Below w.heap.size w w' := by
  obtain ⟨n0, hn0⟩ : ∃ n, l0.length = n := ⟨_, rfl⟩
  obtain ⟨k0, e0⟩ : ∃ k : Nat, min (n0 : Int) 30 = (k : Int) := ⟨min n0 30, by omega⟩
  have hk0 : k0 ≤ n0 := by omega
  have hk30 : k0 ≤ 30 := by omega
  have hsz : (strB l0).size = n0 := by rw [strB_size, hn0]
  have q0 := fun W ts t => min_int ts t n0 30 k0 e0 W
  have hcut := run_head (l := l0) (k := k0) (by omega) (k0 : Int) rfl
  have HAW := keepHid (awake7_any w)
  have hln : (l0.take k0).length = k0 := by rw [List.length_take]; omega
  generalize l0.take k0 = l at *
  have hq64 : (quo l).length ≤ 64 := by have := quo_len l; omega
  have HQ := keepHid (fun w' => quote_any l w' (by omega))
  have HP := keepHid (fun w' => parse_any (quo l) w')
  have HPP := keepHid (fun w w' e (p : ParsePost (quo l) w e w') => parse_pat (quo_parse l hq64) p hq64)
  have HSM := keepHid (sm_small (r := treeOf l) (by have := nds_tree l; omega))
  have HTL := keepHid (sz_tree l)
  have HTF := keepHid (fits_tree l)
  have hzl : (strB l).size = k0 := by rw [strB_size, hln]
  have hul : u.length ≤ 9223372036854775807 := by omega
  have HL := keepHid hln
  clear h0 h1 e0 hn0 hq64 hln
  go_enter Try.func6, Try.ntmps6
  go_wp2_with fail
  with_reducible refine HAW.out.mono ?_
  rintro e w1 ⟨rfl, hb1⟩
  have HB1 := keepHid hb1
  clear hb1
  go_wp2_with fail
  with_reducible refine (HQ.out w1).mono ?_
  rintro e w2 ⟨rfl, hb2⟩
  have HB2 := keepHid (HB1.out.trans (hb2.mono HB1.out.size))
  clear hb2
  go_wp2_with fail
  with_reducible refine (HP.out w2).mono ?_
  rintro e w3 hp
  obtain ⟨h, rfl, hi3, hb3⟩ := HPP.out _ _ _ hp
  obtain ⟨w4, hw4⟩ : ∃ w4, w3.alloc (.cells (hdC h) 30) = w4 := ⟨_, rfl⟩
  obtain ⟨hi4, hb4, hk4⟩ := node_var hi3 hw4
  have HB4 := keepHid (HB2.out.trans ((hb3.trans (hb4.mono hb3.size)).mono HB2.out.size))
  have HO := keepHid (of_any hi4 HSM.out)
  have HW4 := keepHid hw4
  unfold hdC at hk4 HW4
  obtain ⟨m0, m1, m2, m3, m4, m5, mf⟩ := blk6 hk4
  clear hp hi3 hb3 hi4 hb4 hk4 hw4
  unfold hdV at *
  go_upto_region 5 with fail
  rw [HW4.out]
  go_wp2_with fail
  with_reducible refine HO.out.mono ?_
  rintro e w5 ⟨g, rfl, hA, hb5⟩
  have WF := keepHid (auOf_wf HSM.out)
  have HB5 := keepHid (HB4.out.trans (hb5.mono HB4.out.size))
  have HF1 := keepHid (fits_any l hA WF.out (by have := HL.out; omega))
  have HF2 := keepHid (fun w' (hb : Below w5.heap.size w5 w') => fits_any u (hA.keep hb) WF.out hul)
  have HN := keepHid (fun w' (hb : Below w5.heap.size w5 w') => tabA_len (hA.keep hb))
  rw [au_len, HTL.out, HL.out] at HN
  rw [HTF.out, decide_eq_true (rfl : l = l)] at HF1
  rw [HTF.out] at HF2
  unfold natV at HN
  have hbq := strB_beq u l
  generalize decide (u = l) = R at *
  clear hA hb5 HO HW4 HQ HP HPP HTF HTL m0 m1 m2 m3 m4 m5 mf
  go_wp2_with fail
  with_reducible refine HF1.out.mono ?_
  rintro e w6 ⟨rfl, hb6⟩
  have HF2' := keepHid (HF2.out w6 hb6)
  have HB6 := keepHid hb6
  clear hb6
  go_wp2_with fail
  with_reducible refine HF2'.out.mono ?_
  rintro e w7 ⟨rfl, hb7⟩
  have HB7 := keepHid (HB6.out.trans (hb7.mono HB6.out.size))
  have HN' := keepHid (HN.out w7 HB7.out)
  clear hb7
  cases R
  all_goals
    go_wp2_with fail
    with_reducible refine HN'.out.mono ?_
    rintro e w' ⟨rfl, rfl⟩
    go_wp2
    go_ret
    exact ⟨rfl, HB5.out.trans (HB7.out.mono HB5.out.size)⟩

set_option maxRecDepth 100000 in
theorem lifted (os : Os) (started : os.Started) (H : Type) (enc : TypeId × Value → H) :
    ReturnsInHanded {} Try.checked os 6 .any (Rows.nfaQuotedSpec.pre6 enc Try.prog Try.f6 Rows.nfaQuotedRow.domain false) (Rows.nfaQuotedSpec.post enc Try.prog Try.f6 false true false false) := by
  refine returnsInHanded_of_change_sized (C := Try.checked) own started (by kernel_rfl) Try.func6
    (ChangeSpec.witness6 (enc := enc) (C := Try.checked) false ⟨#[], #[.string ⟨#[]⟩, .string ⟨#[]⟩], []⟩ 8 (by kernel_rfl) (by kernel_rfl) (by kernel_rfl) (by kernel_rfl)) ?_
  intro W base args ds gs before hval0 hW hcnd hsz0 _
  have hsz : (DataW.weightsEach Try.prog (Try.f6.params.toList ++ Rows.nfaQuotedSpec.plain.varTypes Try.prog) (ds ++ gs)).all (· ≤ reachBytes) = true := hsz0
  clear hsz0
  have hval : ∀ (j : Nat) t v, Try.f6.params[j]? = some t → args[j]? = some v → Value.okWide Try.prog W .any base t v := hval0
  have hW' := hW
  obtain ⟨p, q, hA0, hV, rfl, hfz, hnd⟩ := hW
  have hA : DataW.TrodAll enc Try.prog W 0 (fun _ => true) true Try.f6.params.toList args.toList ds p := hA0
  rw [Try.params6] at hA hval hsz
  obtain ⟨v0, vs0, d0, ds0, p0, q0, hargs, rfl, rfl, h0, r0⟩ := trodAll_cons hA
  obtain ⟨v1, vs1, d1, ds1, p1, q1, rfl, rfl, rfl, h1, r1⟩ := trodAll_cons r0
  obtain ⟨rfl, rfl, rfl⟩ := trodAll_nil r1
  obtain rfl : args = #[v0, v1] := by cases args; simp_all
  obtain ⟨rfl, rfl⟩ := trodVars_none hV
  have k0 := h0
  have lt0 : ∀ x ∈ p0, x.block < W.heap.size := by obtain ⟨m, hm⟩ := k0; exact DataW.trod_lt m _ _ _ hm
  have k1 := h1
  have lt1 : ∀ x ∈ p1, x.block < W.heap.size := by obtain ⟨m, hm⟩ := k1; exact DataW.trod_lt m _ _ _ hm
  obtain ⟨x0, rfl, rfl, rfl, _⟩ := open_string Try.underlying9 (hval 0 9 v0 rfl rfl) h0
  have w0 : x0.size ≤ 140737488351232 := by have := sized_string hsz (j := 0) (t := 9) rfl rfl; simpa [reachBytes] using this
  obtain ⟨x1, rfl, rfl, rfl, _⟩ := open_string Try.underlying9 (hval 1 9 v1 rfl rfl) h1
  have w1 : x1.size ≤ 140737488351232 := by have := sized_string hsz (j := 1) (t := 9) rfl rfl; simpa [reachBytes] using this
  clear hA0 hval0
  obtain ⟨b0, rfl⟩ : ∃ b, x0 = strB b := ⟨x0.data.toList, by cases x0; rfl⟩
  obtain ⟨b1, rfl⟩ : ∃ b, x1 = strB b := ⟨x1.data.toList, by cases x1; rfl⟩
  rw [strB_size] at w0 w1
  refine (walk b0 b1 W w0 w1).mono fun e W' ⟨he, bel⟩ => ?_
  subst he
  exact ⟨_, rfl, _, _, _, [], _, [], hW', trodAll_mk1 (shut_bool Try.underlying4 _), (trodAll_cons_mk (Below.trod laidOut (by kernel_rfl) (of_decide_eq_true (by kernel_rfl)) k0 bel lt0) (trodAll_cons_mk (Below.trod laidOut (by kernel_rfl) (of_decide_eq_true (by kernel_rfl)) k1 bel lt1) trodAll_mk0)), rfl, bel.frame _, fun h => by cases h⟩

theorem over : Rows.nfaQuotedRow.holds Try.pinned (OpenSpec.ofChange Rows.nfaQuotedSpec) :=
  OpenClaim.holds_of_wide 6 Try.f6 rfl rfl rfl rfl rfl rfl rfl ⟨rfl, rfl, rfl, rfl, rfl⟩ rfl rfl rfl rfl rfl (by kernel_rfl) Try.func6 (by kernel_rfl)
    (of_decide_eq_true (by kernel_rfl)) (by unfold Func.isWrapper; first | (rw [if_pos (by decide +kernel)]; kernel_rfl) | (rw [if_neg (by decide +kernel)]; exact ⟨rfl, rfl⟩))
    (fun os started H enc _ => lifted os started H enc)

theorem proved : Rows.NfaQuotedSaid := over
end Go.Proofs.Ytlmjijejgfhmmaa.nfaQuoted
