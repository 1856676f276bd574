/-
  'lifelinelaw04.BlockWhole' answers true for every input, and leaves its arguments as they were.
  Conditions: none but what the row itself says of its arguments (how much memory each may take).
-/
import Derived.Test.YtahlllkmjibbpaaRows
import Derived.Test.YtahlllkmjibbpaaBlockLaw
import Derived.Test.YtahlllkmjibbpaaFrame
import Derived.Test.YtahlllkmjibbpaaBlockTake
import Derived.WalkKit
import Derived.Deep.RegionHeld3
import Derived.Deep.RegionWith
import Derived.Deep.DrawnRows
import Derived.ProofKit
import Derived.OpenShut
import Derived.ShutString
import Derived.ChangeOld
import Derived.Below
namespace Go.Proofs.Ytahlllkmjibbpaa.blockWhole
open Go.ChangeShapes Go.WideShapes Go.ChangeAt Go.RowKit
open Go.ChangeMaps (open_string shut_string)
set_option linter.unusedVariables false

theorem own : ownKnob Try.prog.godebug = none := by kernel_rfl
theorem laidOut : laidOutB Try.prog = true := by kernel_rfl

theorem flat_take_le (l : List (List UInt8)) (j : Nat) : (l.take j).flatten.length ≤ l.flatten.length := by
  conv => rhs; rw [← List.take_append_drop j l]
  rw [List.flatten_append, List.length_append]
  omega
theorem flat_succ {l : List (List UInt8)} {k : Nat} {b : List UInt8} (h : l[k]? = some b) : (l.take (k + 1)).flatten = (l.take k).flatten ++ b := by
  rw [List.take_succ_of h, List.flatten_append]
  simp
theorem index_str {P : Program} (t : TypeId) (ht : P.underlying t = some .string) (al : List UInt8) (k : Nat) (u : UInt8) (h : al[k]? = some u) (w : World) :
    (Instr.index t (.string (strB al)) (.int .i64 (k : Int))).run P w = .ok (.int .u8 (u.toNat : Int)) w := by
  have hk : k < al.length := by
    rcases Nat.lt_or_ge k al.length with h1 | h1
    · exact h1
    · rw [List.getElem?_eq_none h1] at h; cases h
  rw [run_index_string w t (strB al) .i64 (k : Int) ht, dif_pos (by rw [strB_size]; omega)]
  have e : al[k] = u := by rw [List.getElem?_eq_getElem hk] at h; exact Option.some.inj h
  subst e
  rfl

set_option maxHeartbeats 4000000 in
theorem walk (a0 : Option Addr) (n0 c0 : Nat) (b0 : List UInt8) (x1 : Bool) (w : World) (h0 : Bys w w.heap.size a0 n0 b0) (l0 : n0 ≤ c0) (s0 : c0 ≤ 140737488351232) :
    Calls Try.prog 8 #[.slice a0 n0 c0, .bool x1] w fun e w' => e = .returned (.bool true) ∧ Below w.heap.size w w' := by
  have H0 := keepHid h0
  obtain ⟨r, hr, hflat⟩ := parts_flat x1 b0.length b0 (Nat.le_refl _)
  have hsz := parts_sizes x1 b0.length b0 (Nat.le_refl _)
  have hl0 := h0.len
  obtain ⟨rows, hrows⟩ : ∃ rows, parts x1 b0 = rows := ⟨_, rfl⟩
  rw [hrows] at hflat hsz
  obtain ⟨al, hal⟩ : ∃ al, b0 ++ List.replicate r 26 = al := ⟨_, rfl⟩
  rw [hal] at hflat
  have hall : al.length = n0 + r := by rw [← hal, List.length_append, hl0, List.length_replicate]
  have hfill : ∀ k, n0 ≤ k → k < n0 + r → al[k]? = some 26 := by
    intro k h1 h2
    rw [← hal, List.getElem?_append_right (by omega), List.getElem?_replicate, if_pos (by omega)]
  have htk : al.take n0 = b0 := by rw [← hal, ← hl0]; exact List.take_left
  have HFLAT := keepHid hflat
  have HSZ := keepHid hsz
  have HROWS := keepHid hrows
  have HALL := keepHid hall
  have HFILL := keepHid hfill
  have HTK := keepHid htk
  obtain ⟨K, hK⟩ : ∃ K, rows.length = K := ⟨_, rfl⟩
  have HK := keepHid hK
  clear h0 hflat hsz hl0 hrows hal hall hfill htk hK
  go_enter Try.func8, Try.ntmps8
  go_wp2_with fail
  refine (awake_any _).mono ?_
  rintro e w1 ⟨rfl, hb⟩
  have HB1 := keepHid hb
  have H1 := keepHid (H0.out.below hb)
  clear hb
  go_wp2_with fail
  refine (split_any _ _ _ _ b0 x1 _ H1.out HB1.out.size l0 (by omega) (by omega)).mono ?_
  rw [HROWS.out]
  rintro e w2 ⟨P, cap, rfl, hrw, hpc, hpm, hb2⟩
  have HR := keepHid hrw.rowsB
  have HB2 := keepHid (HB1.out.trans (hb2.mono HB1.out.size))
  have H2 := keepHid (H1.out.below (hb2.mono HB1.out.size))
  rw [HK.out] at hpc ⊢
  clear hrw hb2
  go_wp2
  go_loop [5, 15] (fun s i => ∃ k : Nat, k ≤ K ∧ i = .int .i64 k ∧ s = .string (strB ((rows.take k).flatten))) (fun _ i => K - (intOf i).toNat)
  case atStart => exact ⟨0, Nat.zero_le _, rfl, rfl⟩
  case round =>
    obtain ⟨k, hk, rfl, rfl⟩ := hrel
    by_cases hlt : k < K
    · obtain ⟨bs, hrow⟩ : ∃ bs, rows[k]? = some bs := ⟨_, List.getElem?_eq_getElem (by rw [HK.out]; exact hlt)⟩
      obtain ⟨ad, Ak, ck, rfl, had, hc0, hlc, hcm, hby⟩ := HR.out.2 k bs hrow
      have hnb := HSZ.out bs (List.mem_of_getElem? hrow)
      have hcv := run_str (P := Try.prog) (c := ck) 22 5 9 Try.underlying22 Try.underlying5 Try.underlying9 hby
      have hadd := run_strAdd (P := Try.prog) ((rows.take k).flatten) bs (by
        have h1 := flat_take_le rows (k + 1)
        rw [flat_succ hrow, List.length_append, HFLAT.out, HALL.out] at h1
        omega) w2
      have hsucc := flat_succ hrow
      have HS := keepHid hsucc
      generalize bs.length = nb at *
      clear hsucc hrow hby
      generalize (rows.take k).flatten = acc at *
      rcases hnb with rfl | rfl
      all_goals
        go_wp2
        go_round
        case rel => exact ⟨k + 1, by omega, by go_num, by rw [HS.out]⟩
        case measure => simp [intOf]; omega
    · obtain rfl : k = K := by omega
      have hfl : (rows.take k).flatten = al := by rw [← HK.out, List.take_length, HFLAT.out]
      rw [hfl]
      clear hfl
      have hsize : (strB al).size = n0 + r := by rw [strB_size, HALL.out]
      obtain ⟨T, hT⟩ : ∃ T, n0 + r = T := ⟨_, rfl⟩
      rw [hT] at hsize
      have hd1 : decide ((T : Int) < (n0 : Int)) = false := by simp; omega
      have hd2 : decide ((n0 : Int) + 128 ≤ (T : Int)) = false := by simp; omega
      have hd3 : decide (T < n0) = false := by simp; omega
      have hd4 : decide (n0 + 128 ≤ T) = false := by simp; omega
      have hext : (strB al).extract 0 n0 = strB b0 := by rw [strB_take, HTK.out]
      have hcv : ∀ n, (convert 22 9 (.slice a0 n0 c0)).run Try.prog (w2.drewN n) = .ok (.string (strB b0)) (w2.drewN n) := fun n => run_str 22 5 9 Try.underlying22 Try.underlying5 Try.underlying9 (H2.out.drewN n)
      have hnT : (n0 : Int) ≤ (T : Int) := by omega
      have hn00 : (0 : Int) ≤ (n0 : Int) := by omega
      clear hlt
      go_wp2
      go_quiet (fail)
      go_wp2
      have HB3 := keepHid (below_drewN HB2.out nq)
      clear hcv hext hd1 hd2 hd3 hd4
      generalize w2.drewN nq = w3 at *
      go_loop [8] (fun i => ∃ j : Nat, n0 ≤ j ∧ j ≤ T ∧ i = .int .i64 j) (fun i => T - (intOf i).toNat)
      case atStart => exact ⟨n0, Nat.le_refl _, by omega, rfl⟩
      case round =>
        obtain ⟨j, hj1, hj2, rfl⟩ := hrel
        by_cases hjt : j < T
        · have hix := index_str (P := Try.prog) 9 Try.underlying9 al j 26 (HFILL.out j hj1 (by omega)) w3
          rw [show (((26 : UInt8).toNat : Nat) : Int) = 26 from rfl] at hix
          go_wp2
          go_round
          case rel => exact ⟨j + 1, by omega, by omega, by go_num⟩
          case measure => simp [intOf]; omega
        · go_wp2
          go_ret
          exact ⟨rfl, HB3.out⟩

set_option maxRecDepth 100000 in
theorem lifted (os : Os) (started : os.Started) (H : Type) (enc : TypeId × Value → H) :
    ReturnsInHanded {} Try.checked os 8 .any (Rows.blockWholeSpec.pre6 enc Try.prog Try.f8 Rows.blockWholeRow.domain false) (Rows.blockWholeSpec.post enc Try.prog Try.f8 false true false false) := by
  refine returnsInHanded_of_change_sized (C := Try.checked) own started (by kernel_rfl) Try.func8
    (ChangeSpec.witness6 (enc := enc) (C := Try.checked) false ⟨#[], #[.slice none 0 0, .bool false], []⟩ 8 (by kernel_rfl) (by kernel_rfl) (by kernel_rfl) (by kernel_rfl)) ?_
  intro W base args ds gs before hval0 hW hcnd hsz0 _
  have hsz : (DataW.weightsEach Try.prog (Try.f8.params.toList ++ Rows.blockWholeSpec.plain.varTypes Try.prog) (ds ++ gs)).all (· ≤ reachBytes) = true := hsz0
  clear hsz0
  have hval : ∀ (j : Nat) t v, Try.f8.params[j]? = some t → args[j]? = some v → Value.okWide Try.prog W .any base t v := hval0
  have hW' := hW
  obtain ⟨p, q, hA0, hV, rfl, hfz, hnd⟩ := hW
  have hA : DataW.TrodAll enc Try.prog W 0 (fun _ => true) true Try.f8.params.toList args.toList ds p := hA0
  rw [Try.params8] at hA hval hsz
  obtain ⟨v0, vs0, d0, ds0, p0, q0, hargs, rfl, rfl, h0, r0⟩ := trodAll_cons hA
  obtain ⟨v1, vs1, d1, ds1, p1, q1, rfl, rfl, rfl, h1, r1⟩ := trodAll_cons r0
  obtain ⟨rfl, rfl, rfl⟩ := trodAll_nil r1
  obtain rfl : args = #[v0, v1] := by cases args; simp_all
  obtain ⟨rfl, rfl⟩ := trodVars_none hV
  have k0 := h0
  have lt0 : ∀ x ∈ p0, x.block < W.heap.size := by obtain ⟨m, hm⟩ := k0; exact DataW.trod_lt m _ _ _ hm
  have k1 := h1
  have lt1 : ∀ x ∈ p1, x.block < W.heap.size := by obtain ⟨m, hm⟩ := k1; exact DataW.trod_lt m _ _ _ hm
  obtain ⟨a0, n0, c0, b0, rfl, w0, l0, s0⟩ := open_bys Try.underlying22 Try.underlying5 (by kernel_rfl) (by kernel_rfl) (hval 0 22 v0 rfl rfl) (fun _ => rfl) h0 (fun el sp hd => sized_slice hsz (j := 0) (t := 22) (e := 5) rfl (by rw [hd]; rfl) Try.underlying22)
  obtain ⟨x1, rfl, rfl, rfl⟩ := open_bool Try.underlying4 (hval 1 4 v1 rfl rfl) h1
  clear hA0 hval0
  refine (walk a0 n0 c0 b0 x1 W w0 l0 s0).mono fun e W' ⟨he, bel⟩ => ?_
  subst he
  exact ⟨_, rfl, _, _, _, [], _, [], hW', trodAll_mk1 (shut_bool Try.underlying4 _), (trodAll_cons_mk (Below.trod laidOut (by kernel_rfl) (of_decide_eq_true (by kernel_rfl)) k0 bel lt0) (trodAll_cons_mk (Below.trod laidOut (by kernel_rfl) (of_decide_eq_true (by kernel_rfl)) k1 bel lt1) trodAll_mk0)), rfl, bel.frame _, fun h => by cases h⟩

theorem over : Rows.blockWholeRow.holds Try.pinned (OpenSpec.ofChange Rows.blockWholeSpec) :=
  OpenClaim.holds_of_wide 8 Try.f8 rfl rfl rfl rfl rfl rfl rfl ⟨rfl, rfl, rfl, rfl, rfl⟩ rfl rfl rfl rfl rfl (by kernel_rfl) Try.func8 (by kernel_rfl)
    (of_decide_eq_true (by kernel_rfl)) (by unfold Func.isWrapper; first | (rw [if_pos (by decide +kernel)]; kernel_rfl) | (rw [if_neg (by decide +kernel)]; exact ⟨rfl, rfl⟩))
    (fun os started H enc _ => lifted os started H enc)

theorem proved : Rows.BlockWholeSaid := over
end Go.Proofs.Ytahlllkmjibbpaa.blockWhole
