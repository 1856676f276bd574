/-
  nfa's Fits, by contract.
-/
import Derived.Test.YtlmjijejgfhmmaaNfaWalk
import Derived.Test.YtlmjijejgfhmmaaRegexRead
import Derived.LoopTactic
namespace Go.Proofs.Ytlmjijejgfhmmaa
open Go.RowKit
set_option linter.unusedVariables false

theorem sl_blk {w : World} {G : Nat} {xs : List Bool} {N : Nat} (hb : Blk w G 4 (boolVals xs)) (hn : xs.length = N) (hm : N ≤ maxLen) : Sl Value.bool w (some ⟨G, 0, none⟩) N xs := Sl.of_blk hb hn hm
theorem run_len (A : Au) (wf : AuWf A) : ∀ (s : List UInt8), (runB A s).length ≤ A.T.sets.length
  | s => by
    rcases List.eq_nil_or_concat s with rfl | ⟨t, c, rfl⟩
    · simp [runB]
    · simp [run_snoc, step_len]
set_option maxHeartbeats 4000000 in
theorem fits_any {lo g : Nat} {A : Au} (bs : List UInt8) {w : World} (hA : TabA w lo g A) (wf : AuWf A) (hm : bs.length ≤ 9223372036854775807) :
    Calls Try.prog 12 #[.pointer (some ⟨g, 0, none⟩), .string (strB bs)] w fun e w' => e = .returned (.bool (fitsB A bs)) ∧ Below w.heap.size w w' := by
  obtain ⟨F, c1, L, k1, ht, hf, hl⟩ := id hA
  have hsz : (strB bs).size = bs.length := strB_size bs
  have htl : (strB bs).toList = bs := strB_toList bs
  have HA := keepHid hA
  have WF := keepHid wf
  have HM := keepHid hm
  by_cases hnn : bs = []
  · subst hnn
    have HT := keepHid ht
    obtain ⟨vs, vg, M, vals, h⟩ := ht
    have g5 : w.cell? ⟨g, 5, none⟩ = some (.bool A.e) := h.blk.cell 5
    have he : (strB ([] : List UInt8)).toList = [] := htl
    have he2 : (!(strB ([] : List UInt8)).toList.isEmpty) = false := by rw [he]; rfl
    rw [show fitsB A [] = A.e from rfl]
    generalize strB ([] : List UInt8) = S at *
    generalize A.e = E at *
    clear h hf hl hA wf hm hsz htl
    go_enter Try.func12, Try.ntmps12
    go_wp2
    go_ret
    exact ⟨rfl, Below.refl _ _⟩
  · have HFB : Hid (fitsB A bs = anyB (runB A bs) A.last) := keepHid (by
      unfold fitsB
      rw [if_neg (by cases bs with | nil => exact absurd rfl hnn | cons c l => simp)])
    have he : ((strB bs).toList == (⟨#[]⟩ : ByteArray).toList) = false := by
      rw [htl, beq_eq_false_iff_ne]
      intro e
      exact hnn (by rw [e]; exact strB_toList [])
    have hel : ¬ (strB bs).toList = [] := by rw [htl]; exact hnn
    have hei : (strB bs).toList.isEmpty = false := by rw [htl]; cases bs with | nil => exact absurd rfl hnn | cons c l => rfl
    have hei2 : (!(strB bs).toList.isEmpty) = true := by rw [hei]; rfl
    obtain ⟨n, hn⟩ : ∃ n, bs.length = n := ⟨_, rfl⟩
    rw [hn] at hsz hm
    have HN := keepHid hn
    have HE := keepHid (show Hid (∀ w', Below w.heap.size w w' → TabA w' lo g A) from keepHid (fun w' hb => HA.out.keep hb))
    clear hf hl hA wf ht hn hnn htl
    go_enter Try.func12, Try.ntmps12
    go_wp2
    go_loopw [5, 15] (fun v i wr => ∃ (j : Nat) (At : Option Addr) (m k : Nat), j ≤ n ∧ i = .int .i64 j ∧ v = .slice At m k ∧ Hid (Sl Value.bool wr At m (runB A (bs.take j))) ∧ Hid (Below w.heap.size w wr)) (fun _ i _ => n - (intOf i).toNat)
    case atStart => exact ⟨0, none, 0, 0, Nat.zero_le _, rfl, rfl, keepHid Sl.nil, keepHid (Below.refl _ _)⟩
    case round =>
      obtain ⟨j, At, m, k, hj, rfl, rfl, HS, HB⟩ := hrel
      rcases Nat.lt_or_ge j n with hlt | hge
      · obtain ⟨c, hc⟩ : ∃ c, bs[j]? = some c := ⟨_, List.getElem?_eq_getElem (by rw [HN.out]; exact hlt)⟩
        have hix := run_idx hc (j : Int) rfl
        have HST := keepHid (fun b => step_any (k := k) c b (HE.out wr HB.out) WF.out HS.out)
        obtain ⟨z, hz⟩ : ∃ z, ((j : Int) == 0) = z := ⟨_, rfl⟩
        have HZ : Hid (z = (bs.take j).isEmpty) := keepHid (by
          rw [← hz]
          cases j with
          | zero => simp
          | succ j =>
            have h1 : (((j + 1 : Nat) : Int) == 0) = false := by simp only [beq_eq_false_iff_ne, ne_eq]; omega
            rw [h1]
            cases bs with
            | nil => simp at hc
            | cons x l => simp)
        have HTK : Hid (bs.take (j + 1) = bs.take j ++ [c]) := keepHid (List.take_succ_of hc)
        have hji : (j : Int) < (n : Int) := by omega
        clear hc
        go_wp2_with fail
        with_reducible refine (HST.out z).mono ?_
        rintro e w' ⟨G, rfl, hk, hg, hb⟩
        have hsm : A.T.sets.length ≤ maxLen := by have := WF.out.small.sets; unfold maxLen; omega
        have HS' : Hid (Sl Value.bool w' (some ⟨G, 0, none⟩) A.T.sets.length (runB A (bs.take (j + 1)))) := keepHid (by
          rw [HTK.out, run_snoc, ← HZ.out]
          exact sl_blk hk (step_len _ _ _ _) hsm)
        have HB' := keepHid (HB.out.trans (hb.mono HB.out.size))
        clear hk hg hb hix hz hsm
        generalize A.T.sets.length = NN at *
        go_wp2
        go_roundw
        case rel => exact ⟨j + 1, some ⟨G, 0, none⟩, NN, NN, by omega, by go_num, rfl, HS', HB'⟩
        case measure => simp [intOf]; omega
      · obtain ⟨F, c1, L, k1, ht, hf, hl⟩ := HE.out wr HB.out
        have hlm : A.last.length ≤ maxLen := by obtain ⟨_, _, _, e1, e2⟩ := own_val hl; omega
        have HEN := keepHid (tends_any (v4 := .bool false) (c := k) (k := k1) ht HS.out (Sl.of_own hl hlm))
        have hbl : bs.take j = bs := List.take_of_length_le (by rw [HN.out]; exact hge)
        rw [hbl, ← HFB.out] at HEN
        clear ht hf hl hlm hbl
        generalize hR : fitsB A bs = R at *
        have HRR := keepHid hR
        clear hR
        go_wp2_with fail
        with_reducible refine HEN.out.mono ?_
        rintro e w' ⟨rfl, rfl⟩
        go_wp2
        go_ret
        exact ⟨by rw [HRR.out]; rfl, HB.out⟩
end Go.Proofs.Ytlmjijejgfhmmaa
