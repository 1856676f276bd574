/-
  nfa's union, by contract.
-/
import Derived.Test.YtlmjijejgfhmmaaNfaCat
import Derived.WalkKit
import Derived.OwnWalk
import Derived.ProofKit
import Derived.WalkLawsBesides
import Derived.IntWalk
import Derived.RegionTactic
import Derived.BigRegion
import Derived.ChangeAlike
import Derived.Deep.QuietTactic
import Derived.BigQuiet
import Derived.Deep.RegionWith
import Derived.Deep.DrawnRows
import Derived.Outline
import Derived.Deep.DeepCutAuto
namespace Go.Proofs.Ytlmjijejgfhmmaa
open Go.RowKit
set_option linter.unusedVariables false

theorem own_lower' {w : World} {base base' n size : Nat} {e : TypeId} {v : Value} {xs : List Value} (h : w.ownsRow base e size v n xs) (hb : base' ≤ base) : w.ownsRow base' e size v n xs := by
  refine ⟨h.1, ?_⟩
  rcases h.2 with h0 | ⟨g, cap, cur, hv, hg, r⟩
  · exact .inl h0
  · exact .inr ⟨g, cap, cur, hv, Nat.le_trans hb hg, r⟩
/-- Group i of a table, as it lies. -/
theorem TabIn.grp {w : World} {lo g : Nat} {v3 v4 v5 : Value} {T : TbD} {vs vg : Value} {M : Nat} {vals : List Value} (h : TabIn w lo g v3 v4 v5 T vs vg M vals) {i : Nat} {q : List Nat} (hi : T.groups[i]? = some q) :
    ∃ G cap A c, vg = .slice (some ⟨G, 0, none⟩) T.groups.length cap ∧ w.cell? ⟨G, i, none⟩ = some (.slice A q.length c) ∧ OwnI w lo (.slice A q.length c) q.length q := by
  obtain ⟨v, hv, hr⟩ := h.rows i q hi
  obtain ⟨A, c, rfl, _, _⟩ := own_val hr
  rcases h.groups.2 with ⟨_, h0⟩ | ⟨G, cap, cur, rfl, _⟩
  · have := lt_of_get hi; omega
  · have hc := h.groups.cells rfl i _ hv
    have e : (⟨G, 0, none⟩ : Addr).add i = ⟨G, i, none⟩ := by unfold Addr.add; split <;> simp_all
    rw [e] at hc
    exact ⟨G, cap, A, c, rfl, hc, hr⟩
set_option maxRecDepth 100000 in
set_option maxHeartbeats 2000000 in
theorem union_any {lo g : Nat} {v3 v4 v5 : Value} {T : TbD} {a b : Nat} {P Q : List Nat} (ha : T.groups[a]? = some P) (hb : T.groups[b]? = some Q) {w : World} (ht : Tab w lo g v3 v4 v5 T) (hlo : lo ≤ w.heap.size) (hn : T.groups.length < 1000000)
    (hP : P.length ≤ 1000000) (hQ : Q.length ≤ 1000000) :
    Calls Try.prog 48 #[.pointer (some ⟨g, 0, none⟩), .int .i64 (a : Int), .int .i64 (b : Int)] w fun e w' => e = .returned (natV T.groups.length) ∧ Tab w' lo g v3 v4 v5 (T.push (P ++ Q)) ∧ Tn lo w w' := by
  obtain ⟨vs, vg, M, vals, h⟩ := id ht
  obtain ⟨G, cap, A1, c1, rfl, ca, hra⟩ := h.grp ha
  obtain ⟨G', cap', A2, c2, hv', cb, hrb⟩ := h.grp hb
  obtain ⟨rfl, rfl⟩ : G = G' ∧ cap = cap' := by injection hv' with h1 h2 h3; injection h1 with h1; injection h1 with h1; exact ⟨h1, h3⟩
  have cg : w.cell? ⟨g, 1, none⟩ = some (.slice (some ⟨G, 0, none⟩) T.groups.length cap) := h.blk.cell 1
  have la : (a : Int) < (T.groups.length : Int) := by have := lt_of_get ha; omega
  have lb : (b : Int) < (T.groups.length : Int) := by have := lt_of_get hb; omega
  have a0 : (0 : Int) ≤ (a : Int) := by omega
  have b0 : (0 : Int) ≤ (b : Int) := by omega
  have HT := keepHid ht
  have HRA := keepHid hra
  have HRB := keepHid hrb
  have HLO := keepHid hlo
  have HN := keepHid hn
  have HP := keepHid hP
  have HQ := keepHid hQ
  have hl : (T.groups.length : Int) ≤ 1000000 := by omega
  clear h ht hra hrb hv' hlo hn hP hQ ha hb
  generalize hZ : P ++ Q = Z at *
  obtain ⟨N, hN⟩ : ∃ N, T.groups.length = N := ⟨_, rfl⟩
  obtain ⟨w3, hw3⟩ : ∃ w3, (w.alloc (.cells #[.slice A1 P.length c1, .slice A2 Q.length c2] 57)).drew = w3 := ⟨_, rfl⟩
  have hb3 : Below w.heap.size w w3 := by rw [← hw3]; exact ((Below.refl _ _).alloc (Nat.le_refl _) _).drew
  have hk3 : Blk w3 w.heap.size 57 #[.slice A1 P.length c1, .slice A2 Q.length c2] := by rw [← hw3]; exact (Blk.new w _ _).drew
  have HC : Hid (Calls Try.prog 54 #[.slice (some ⟨w.heap.size, 0, none⟩) 2 2] w3 (CatPost Z w3)) := keepHid (by rw [← hZ]; exact concat_any (hk3.cell 0) (hk3.cell 1) (Sl.of_own (own_keep HRA.out fun i _ hl => hb3.block i hl) (by have := HP.out; unfold maxLen; omega)) (Sl.of_own (own_keep HRB.out fun i _ hl => hb3.block i hl) (by have := HQ.out; unfold maxLen; omega)) HP.out HQ.out)
  have HG : Hid (∀ A c w4, OwnI w4 w3.heap.size (.slice A Z.length c) Z.length Z → Below w3.heap.size w3 w4 → Calls Try.prog 46 #[.pointer (some ⟨g, 0, none⟩), .slice A Z.length c] w4
      fun e w' => e = .returned (.int .i64 (N : Int)) ∧ Tab w' lo g v3 v4 v5 (T.push Z) ∧ Tn lo w w') := keepHid (fun A c w4 ho hb => by
    have hb4 := hb3.trans (hb.mono hb3.size)
    refine (group_any Z A c (HT.out.keep hb4) (own_lower' ho (Nat.le_trans HLO.out hb3.size)) (Nat.le_trans HLO.out hb4.size) HN.out).mono ?_
    rintro e w' ⟨h1, h2, h3⟩
    exact ⟨by rw [h1, hN]; rfl, h2, (Tn.of_below hb4).trans h3⟩)
  have HW3 := keepHid hw3
  have HNN := keepHid hN
  rw [hN] at cg la lb hl
  clear hN hb3 hk3 hw3 hZ
  go_enter Try.func48, Try.ntmps48
  go_wp2
  go_region_with (first | (go_at_call 54; rw [HW3.out]; (with_reducible refine HC.out.mono ?_); rintro e w4 ⟨A, c, rfl, ho4, hb4⟩; have HGG := keepHid (HG.out A c w4 ho4 hb4); clear ho4 hb4) | (go_at_call 46; (with_reducible refine HGG.out.mono ?_); rintro e w5 ⟨rfl, ht5, hn5⟩; have HT5 := keepHid ht5; have HN5 := keepHid hn5; clear ht5 hn5))
  all_goals
    go_wp2
    go_ret
    exact ⟨by rw [HNN.out]; rfl, HT5.out, HN5.out⟩
end Go.Proofs.Ytlmjijejgfhmmaa
