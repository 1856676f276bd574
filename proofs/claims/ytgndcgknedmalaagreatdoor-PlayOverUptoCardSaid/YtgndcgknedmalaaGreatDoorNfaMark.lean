/-
  Places marked, asked for: package nfa's mark, anyOf, Ends.
-/
import Derived.Test.YtgndcgknedmalaaGreatDoorNfaKey
namespace Go.Proofs.YtgndcgknedmalaaGreatDoor
open Go.RowKit
set_option linter.unusedVariables false

theorem any_take {at_ : List Bool} {q : List Nat} {k p : Nat} (hp : q[k]? = some p) : anyB at_ (q.take (k + 1)) = (anyB at_ (q.take k) || at_.getD p false) := by
  rw [List.take_succ_of hp]; simp [anyB]
theorem any_hit {at_ : List Bool} {q : List Nat} {k p : Nat} (hp : q[k]? = some p) (h : at_.getD p false = true) : anyB at_ q = true := (any_iff at_ q).2 ⟨p, List.mem_of_getElem? hp, h⟩
set_option maxHeartbeats 1000000 in
theorem anyOf_any {A G : Option Addr} {n c m k : Nat} {at_ : List Bool} {q : List Nat} {w : World} (ha : Sl Value.bool w A n at_) (hg : Sl natV w G m q) :
    Calls Tryz.prog 53 #[.slice A n c, .slice G m k] w fun e w' => e = .returned (.bool (anyB at_ q)) ∧ w = w' := by
  have hm := hg.max
  have hn := ha.max
  have HA := keepHid ha
  have HG := keepHid hg
  clear ha hg
  go_enter Tryz.func53, Tryz.ntmps53
  go_wp2
  go_loop [9] (fun i => ∃ j : Nat, j ≤ m ∧ i = .int .i64 j ∧ Hid (anyB at_ (q.take j) = false)) (fun i => m - (intOf i).toNat)
  case atStart => exact ⟨0, Nat.zero_le _, rfl, keepHid (by simp [anyB])⟩
  case round =>
    obtain ⟨j, hj, rfl, HF⟩ := hrel
    rcases Nat.lt_or_ge j m with hlt | hge
    · have hx : j < q.length := by rw [HG.out.len]; exact hlt
      obtain ⟨p, hp⟩ : ∃ p, q[j]? = some p := ⟨_, List.getElem?_eq_getElem hx⟩
      obtain ⟨ad, rfl, _, hcell⟩ := HG.out.2.2 j p hp
      unfold natV at hcell
      have HP := keepHid hp
      clear hp
      rcases Nat.lt_or_ge p n with hpn | hpn
      · have hy : p < at_.length := by rw [HA.out.len]; exact hpn
        obtain ⟨b, hb⟩ : ∃ b, at_[p]? = some b := ⟨_, List.getElem?_eq_getElem hy⟩
        obtain ⟨ad2, rfl, _, hcell2⟩ := HA.out.2.2 p b hb
        have HB : Hid (at_.getD p false = b) := keepHid (by simp [List.getD, hb])
        clear hb
        cases b
        · go_wp2
          go_round
          case rel => exact ⟨j + 1, by omega, by go_num, keepHid (by rw [any_take HP.out, HF.out, HB.out]; rfl)⟩
          case measure => simp [intOf]; omega
        · go_wp2
          go_ret
          exact ⟨by rw [any_hit HP.out HB.out]; rfl, rfl⟩
      · have HB : Hid (at_.getD p false = false) := keepHid (by rw [List.getD, List.getElem?_eq_none (by rw [HA.out.len]; exact hpn)]; rfl)
        go_wp2
        go_round
        case rel => exact ⟨j + 1, by omega, by go_num, keepHid (by rw [any_take HP.out, HF.out, HB.out]; rfl)⟩
        case measure => simp [intOf]; omega
    · go_wp2
      go_ret
      exact ⟨by have := HF.out; rw [List.take_of_length_le (by rw [HG.out.len]; exact hge)] at this; rw [this]; rfl, rfl⟩
set_option maxHeartbeats 1000000 in
theorem mark_any {G : Option Addr} {b n c m k : Nat} {xs : List Bool} {q : List Nat} {w : World} (hb : Blk w b 4 (boolVals xs)) (hx : xs.length = n) (hg : Sl natV w G m q) (hgb : ∀ ad, G = some ad → ad.block ≠ b) (hq : ∀ p ∈ q, p < n) (hn : n ≤ 9223372036854775807) :
    Calls Tryz.prog 52 #[.slice (some ⟨b, 0, none⟩) n c, .slice G m k] w fun e w' => e = .returned (.tuple #[]) ∧ Blk w' b 4 (boolVals (markB xs q)) ∧ Only b w w' := by
  have hm := hg.max
  have HB := keepHid hb
  have HX := keepHid hx
  have HG := keepHid hg
  have HQ := keepHid hq
  have HGB := keepHid hgb
  clear hb hg hq hgb hx
  go_enter Tryz.func52, Tryz.ntmps52
  go_wp2
  go_loopw [8] (fun i wr => ∃ j : Nat, j ≤ m ∧ i = .int .i64 j ∧ Hid (Blk wr b 4 (boolVals (markB xs (q.take j)))) ∧ Hid (Only b w wr)) (fun i _ => m - (intOf i).toNat)
  case atStart => exact ⟨0, Nat.zero_le _, rfl, HB, keepHid (Only.refl _ _)⟩
  case round =>
    obtain ⟨j, hj, rfl, HR, HO⟩ := hrel
    rcases Nat.lt_or_ge j m with hlt | hge
    · have hx : j < q.length := by rw [HG.out.len]; exact hlt
      obtain ⟨p, hp⟩ : ∃ p, q[j]? = some p := ⟨_, List.getElem?_eq_getElem hx⟩
      obtain ⟨ad, rfl, hlo, hcell⟩ := HG.out.2.2 j p hp
      have hpn : p < n := HQ.out p (List.mem_of_getElem? hp)
      have hcell' : wr.cell? (ad.add j) = some (.int .i64 (p : Int)) :=
        (World.cell?_of_block (HO.out.block _ (by rw [ad_block]; exact hlo) (by rw [ad_block]; intro e; injection e with e; exact HGB.out ad rfl e))).trans hcell
      have hcur : ∃ v, wr.cell? ⟨b, p, none⟩ = some v := by
        have hl : p < (markB xs (q.take j)).length := by rw [mark_len, HX.out]; exact hpn
        rw [HR.out.cell]
        exact ⟨_, by simp [boolVals, List.getElem?_eq_getElem hl]; rfl⟩
      obtain ⟨v, hv⟩ := hcur
      have hfz := HR.out.frozen p
      have HP := keepHid hp
      have HR' : Hid (Blk (wr.setCell ⟨b, p, none⟩ (.bool true)) b 4 (boolVals (markB xs (q.take (j + 1))))) := keepHid (by rw [mark_take HP.out, ← bool_set]; exact HR.out.put p _)
      have HO' : Hid (Only b w (wr.setCell ⟨b, p, none⟩ (.bool true))) := keepHid (HO.out.setCell (.inl rfl) _)
      clear hp hcell hlo
      go_wp2
      go_roundw
      case rel => exact ⟨j + 1, by omega, by go_num, HR', HO'⟩
      case measure => simp [intOf]; omega
    · go_wp2
      go_end0
      have e : q.take j = q := List.take_of_length_le (by rw [HG.out.len]; exact hge)
      exact ⟨rfl, by have := HR.out; rwa [e] at this, HO.out⟩
theorem tends_any {lo g : Nat} {v3 v4 v5 : Value} {T : TbD} {w : World} {A G : Option Addr} {n c m k : Nat} {at_ : List Bool} {q : List Nat} (ht : Tab w lo g v3 (.slice G m k) v5 T) (ha : Sl Value.bool w A n at_) (hg : Sl natV w G m q) :
    Calls Tryz.prog 33 #[.pointer (some ⟨g, 0, none⟩), .slice A n c] w fun e w' => e = .returned (.bool (anyB at_ q)) ∧ w = w' := by
  obtain ⟨vs, vg, M, vals, h⟩ := ht
  have c4 : w.cell? ⟨g, 4, none⟩ = some (.slice G m k) := h.blk.cell 4
  have HA := keepHid (anyOf_any (c := c) (k := k) ha hg)
  clear h ha hg
  generalize anyB at_ q = B at *
  go_enter Tryz.func33, Tryz.ntmps33
  go_wp2_with (first | (go_at_call 53; (with_reducible refine HA.out.mono ?_); rintro e w' ⟨rfl, rfl⟩))
  go_ret
  exact ⟨rfl, rfl⟩
end Go.Proofs.YtgndcgknedmalaaGreatDoor
