/-
  A text in quotes, by the law's own.
-/
import Derived.Test.YtgokejoieafgiaaDoorTokenQuote
namespace Go.Proofs.YtgokejoieafgiaaDoor
open Go.RowKit
set_option linter.unusedVariables false

theorem quo1_ranges (c : UInt8) : quo1 c = if c.toNat = 13 then some [92, 114] else if c.toNat = 10 then some [92, 110] else if c.toNat < 32 ∨ 126 < c.toNat then none else if c.toNat = 34 ∨ c.toNat = 92 then some [92, c] else some [c] := by
  have h : ∀ n : Fin 256, quo1 (UInt8.ofNat n.val) = if n.val = 13 then some [92, 114] else if n.val = 10 then some [92, 110] else if n.val < 32 ∨ 126 < n.val then none else if n.val = 34 ∨ n.val = 92 then some [92, UInt8.ofNat n.val] else some [UInt8.ofNat n.val] := by decide +kernel
  have h := h ⟨c.toNat, u8lt c⟩
  have e : UInt8.ofNat c.toNat = c := by simp
  simp only [e] at h
  exact h
theorem quoL_len : ∀ (l q : List UInt8), quoL l = some q → q.length ≤ 2 * l.length
  | [], q, h => by simp [quoL] at h; subst h; simp
  | c :: r, q, h => by
    simp only [quoL] at h
    split at h
    · rename_i x hx
      cases hr : quoL r with
      | none => rw [hr] at h; cases h
      | some y =>
        rw [hr] at h
        cases h
        have h1 := quoL_len r y hr
        have h2 : x.length ≤ 2 := by
          unfold quo1 at hx
          split at hx
          · cases hx; simp
          · split at hx
            · cases hx; simp
            · cases hx
        simp; omega
    · cases h
set_option maxRecDepth 100000 in
set_option maxHeartbeats 8000000 in
theorem quol_any (l : List UInt8) (hl : l.length ≤ 1048576) (w : World) :
    Calls Tryd.prog 15 #[.string (strB l)] w fun e w' => e = .returned (quoV l) ∧ w' = w := by
  have hlen : (strB l).size = l.length := strB_size l
  obtain ⟨N, hN⟩ : ∃ N, l.length = N := ⟨_, rfl⟩
  have HN := keepHid hN
  rw [hN] at hlen hl
  have HNO : Hid (quoL l = none → quoV l = .tuple #[.string ⟨#[]⟩, .bool false]) := keepHid fun h => by unfold quoV; rw [h]
  have HYES : Hid (∀ q, quoL l = some q → quoV l = .tuple #[.string (strB (34 :: (q ++ [34]))), .bool true]) := keepHid fun q h => by unfold quoV; rw [h]
  have H34 : Hid ((⟨#[34]⟩ : ByteArray) = strB [34]) := keepHid rfl
  have HQ0 := keepHid (qux_0 l)
  clear hN
  go_enter Tryd.func15, Tryd.ntmps15
  go_wp2
  go_loop [4, 5] (fun ov iv => ∃ (k : Nat) (acc : List UInt8), ov = .string (strB (34 :: acc)) ∧ iv = .int .i64 (k : Int) ∧ k ≤ N ∧ acc.length ≤ 2 * k ∧ Hid (Qux l k acc)) (fun _ iv => N - (intOf iv).toNat)
  case atStart => exact ⟨0, [], by rw [H34.out], rfl, Nat.zero_le _, by simp, HQ0⟩
  case round =>
    obtain ⟨k, acc, rfl, rfl, hk, hal, HX⟩ := hrel
    by_cases hkN : k < N
    · obtain ⟨ch, hch⟩ : ∃ ch, l[k]? = some ch := ⟨_, List.getElem?_eq_getElem (by rw [HN.out]; exact hkN)⟩
      have hidx := fun w => run_idx hch (k : Int) rfl w
      have hcut1 := fun w => run_cut1 hch (k : Int) ((k : Int) + 1) rfl rfl w
      have HCH := keepHid hch
      have hqr := quo1_ranges ch
      obtain ⟨cn, hcn⟩ : ∃ cn, ch.toNat = cn := ⟨_, rfl⟩
      rw [hcn] at hidx hqr
      have hkI : (k : Int) < (N : Int) := by omega
      have hc256 : cn < 256 := by rw [← hcn]; exact ch.toNat_lt
      clear hch hcn
      by_cases i13 : cn = 13
      · rw [if_pos i13] at hqr
        have HX2 := keepHid (qux_go HX.out HCH.out hqr)
        have hadd : ∀ w, (Op.stringOp .add (strB (34 :: acc)) ⟨#[92, 114]⟩).run Tryd.prog w = .ok (.string (strB (34 :: (acc ++ [92, 114])))) w := fun w => run_strAdd (34 :: acc) [92, 114] (by simp; omega) w
        subst i13
        clear hqr HNO HYES
        go_wp2
        go_round
        case rel => exact ⟨k + 1, _, rfl, by go_num, by omega, by simp; omega, HX2⟩
        case measure => simp [intOf]; omega
      · have j13 : ((cn : Int) == 13) = false := by simp; omega
        rw [if_neg i13] at hqr
        by_cases i10 : cn = 10
        · rw [if_pos i10] at hqr
          have HX2 := keepHid (qux_go HX.out HCH.out hqr)
          have hadd : ∀ w, (Op.stringOp .add (strB (34 :: acc)) ⟨#[92, 110]⟩).run Tryd.prog w = .ok (.string (strB (34 :: (acc ++ [92, 110])))) w := fun w => run_strAdd (34 :: acc) [92, 110] (by simp; omega) w
          subst i10
          clear hqr HNO HYES
          go_wp2
          go_round
          case rel => exact ⟨k + 1, _, rfl, by go_num, by omega, by simp; omega, HX2⟩
          case measure => simp [intOf]; omega
        · have j10 : ((cn : Int) == 10) = false := by simp; omega
          rw [if_neg i10] at hqr
          by_cases ibad : cn < 32 ∨ 126 < cn
          · rw [if_pos ibad] at hqr
            have HV := keepHid (HNO.out (qux_no HX.out HCH.out hqr))
            clear hqr HNO HYES hcut1
            rcases ibad with q | q
            · have q1 : (cn : Int) < 32 := by omega
              go_wp2
              go_ret2
              exact ⟨by rw [HV.out]; rfl, rfl⟩
            · have q1 : ¬ (cn : Int) < 32 := by omega
              have q2 : (126 : Int) < (cn : Int) := by omega
              go_wp2
              go_ret2
              exact ⟨by rw [HV.out]; rfl, rfl⟩
          · rw [if_neg ibad] at hqr
            have q1 : ¬ (cn : Int) < 32 := by omega
            have q2 : ¬ (126 : Int) < (cn : Int) := by omega
            by_cases iesc : cn = 34 ∨ cn = 92
            · rw [if_pos iesc] at hqr
              have HX2 := keepHid (qux_go HX.out HCH.out hqr)
              have hadd : ∀ w, (Op.stringOp .add (strB (34 :: acc)) ⟨#[92]⟩).run Tryd.prog w = .ok (.string (strB (34 :: (acc ++ [92])))) w := fun w => run_strAdd (34 :: acc) [92] (by simp; omega) w
              have hadd2 : ∀ w, (Op.stringOp .add (strB (34 :: (acc ++ [92]))) (strB [ch])).run Tryd.prog w = .ok (.string (strB (34 :: (acc ++ [92, ch])))) w := fun w => by
                have := run_strAdd (P := Tryd.prog) (34 :: (acc ++ [92])) [ch] (by simp; omega) w
                simpa using this
              clear hqr HNO HYES ibad
              rcases iesc with rfl | rfl
              · go_wp2
                go_round
                case rel => exact ⟨k + 1, _, rfl, by go_num, by omega, by simp; omega, HX2⟩
                case measure => simp [intOf]; omega
              · go_wp2
                go_round
                case rel => exact ⟨k + 1, _, rfl, by go_num, by omega, by simp; omega, HX2⟩
                case measure => simp [intOf]; omega
            · rw [if_neg iesc] at hqr
              have j34 : ((cn : Int) == 34) = false := by simp; omega
              have j92 : ((cn : Int) == 92) = false := by simp; omega
              have HX2 := keepHid (qux_go HX.out HCH.out hqr)
              have hadd : ∀ w, (Op.stringOp .add (strB (34 :: acc)) (strB [ch])).run Tryd.prog w = .ok (.string (strB (34 :: (acc ++ [ch])))) w := fun w => run_strAdd (34 :: acc) [ch] (by simp; omega) w
              clear hqr HNO HYES ibad iesc
              go_wp2
              go_round
              case rel => exact ⟨k + 1, _, rfl, by go_num, by omega, by simp; omega, HX2⟩
              case measure => simp [intOf]; omega
    · obtain rfl : k = N := by omega
      have HV := keepHid (HYES.out acc (qux_end HX.out (by rw [HN.out]; exact Nat.le_refl _)))
      have hadd : ∀ w, (Op.stringOp .add (strB (34 :: acc)) ⟨#[34]⟩).run Tryd.prog w = .ok (.string (strB (34 :: (acc ++ [34])))) w := fun w => run_strAdd (34 :: acc) [34] (by simp; omega) w
      generalize strB (34 :: (acc ++ [34])) = S at *
      clear HNO HYES
      go_wp2
      go_ret2
      exact ⟨by rw [HV.out]; rfl, rfl⟩
end Go.Proofs.YtgokejoieafgiaaDoor
