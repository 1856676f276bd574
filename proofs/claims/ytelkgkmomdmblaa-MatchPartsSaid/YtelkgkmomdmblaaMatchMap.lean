/-
  Sets of numbers, in a map of the call's own; where one pattern ends that began where another one ended.
-/
import Derived.Test.YtelkgkmomdmblaaMatchKit
import Derived.Maps.OwnSet
import Derived.Maps.Keyed
namespace Go.Proofs.Ytelkgkmomdmblaa
open Go.RowKit
set_option linter.unusedVariables false

def insS (S : List Nat) (p : Nat) : List Nat := if p ∈ S then S else S ++ [p]
theorem ins_mem (S : List Nat) (p q : Nat) : q ∈ insS S p ↔ q ∈ S ∨ q = p := by
  unfold insS
  split
  · rename_i h
    exact ⟨.inl, fun hq => by rcases hq with hq | rfl; exact hq; exact h⟩
  · simp
theorem ins_nodup {S : List Nat} (h : S.Nodup) (p : Nat) : (insS S p).Nodup := by
  unfold insS
  split
  · exact h
  · rename_i hp
    rw [List.nodup_append]
    refine ⟨h, by simp, fun a ha b hb => ?_⟩
    obtain rfl := List.mem_singleton.1 hb
    intro e
    exact hp (e ▸ ha)
theorem fold_mem (ys : List Nat) : ∀ (S : List Nat) (q : Nat), q ∈ ys.foldl insS S ↔ q ∈ S ∨ q ∈ ys := by
  induction ys with
  | nil => intro S q; simp
  | cons y ys ih =>
    intro S q
    rw [List.foldl_cons, ih, ins_mem, List.mem_cons, or_assoc]
theorem fold_nodup (ys : List Nat) : ∀ S : List Nat, S.Nodup → (ys.foldl insS S).Nodup := by
  induction ys with
  | nil => intro S h; exact h
  | cons y ys ih => intro S h; exact ih _ (ins_nodup h y)

theorem int_law : Maps.Keyed Try.prog 3 := Maps.int_keyed Try.underlying3
theorem key_i (p : Nat) (hp : p ≤ 9223372036854775807) : keyOf Try.prog 3 (.int .i64 (p : Int)) = some (.int .i64 (p : Int)) := Maps.keyOf_int_mk Try.underlying3 (WalkArith.wf_i64 (by omega))
/-- The map in block M holds 'true' for each of S, and nothing else. -/
def SetM (w : World) (M c : Nat) (S : List Nat) : Prop :=
  ∃ D : DataW Unit, w.ownsMap Try.prog 3 (plainElem Try.prog 4) M c D ∧ S.Nodup ∧ Maps.size D = S.length ∧ (∀ p : Nat, Maps.has D (.int .i64 (p : Int)) = decide (p ∈ S)) ∧
    ∀ p : Nat, D.atKey (.int .i64 (p : Int)) (.lit (.bool false)) = .lit (.bool (decide (p ∈ S)))
theorem SetM.made (w : World) (M : Nat) (hM : M = w.heap.size) : SetM (w.alloc (.map #[] 0)) M 0 [] := by
  subst hM
  exact ⟨.map [], World.ownsMap_made w _ _ _, List.nodup_nil, rfl, fun p => by simp [Maps.has], fun p => Maps.atKey_of_not_has (by simp [Maps.has]) _⟩
theorem SetM.lt {w : World} {M c : Nat} {S : List Nat} (h : SetM w M c S) : M < w.heap.size := by obtain ⟨D, h1, _⟩ := h; exact h1.lt
theorem SetM.keep {w w' : World} {M c : Nat} {S : List Nat} (h : SetM w M c S) (hk : w'.heap[M]? = w.heap[M]?) : SetM w' M c S := by
  obtain ⟨D, ⟨es, cl, h1, h2⟩, h3⟩ := h
  exact ⟨D, ⟨es, cl, hk.trans h1, h2⟩, h3⟩
set_option maxRecDepth 100000 in
theorem SetM.put {w : World} {M c : Nat} {S : List Nat} (h : SetM w M c S) (p : Nat) (hp : p ≤ 9223372036854775807) (hc : c < 1000000) :
    ∃ w', (Instr.mapUpdate 44 (.map (some M)) (.int .i64 (p : Int)) (.bool true)).run Try.prog w = .ok () w' ∧ SetM w' M (c + 1) (insS S p) ∧ w.grownBy w' (some M) := by
  obtain ⟨D, h1, h2, h3, h4, h5⟩ := h
  have hk := key_i p hp
  obtain ⟨w', hrun, r1, r2⟩ := h1.update int_law Try.underlying44 (by unfold maxLen; omega) hk (plainElem_bool Try.underlying4 true)
  have hm : Maps.IsMap D := h1.isMap
  have hkl := int_law.key hk
  refine ⟨w', hrun, ⟨_, r1, ins_nodup h2 p, ?_, fun q => ?_, fun q => ?_⟩, r2⟩
  · rw [Maps.size_put (h1.tidy int_law), h4 p, h3]
    unfold insS
    by_cases hps : p ∈ S
    · simp [hps]
    · simp [hps]
  · by_cases e : q = p
    · subst e
      rw [Maps.has_put_same hm hkl]
      simp [ins_mem]
    · rw [Maps.has_put_other (fun he => e (by injection he with _ he; exact Int.ofNat.inj he)), h4 q]
      simp [ins_mem, e]
  · by_cases e : q = p
    · subst e
      rw [Maps.atKey_put_same hm hkl]
      simp [ins_mem]
    · rw [Maps.atKey_put_other (fun he => e (by injection he with _ he; exact Int.ofNat.inj he)), h5 q]
      simp [ins_mem, e]
set_option maxRecDepth 100000 in
theorem SetM.len {w : World} {M c : Nat} {S : List Nat} (h : SetM w M c S) (ty : TypeId) : (Builtin.len_ #[44] ty #[.map (some M)]).run Try.prog w = .ok (.int .i64 (S.length : Int)) w := by
  obtain ⟨D, h1, h2, h3, _⟩ := h
  have := h1.len Try.underlying44 ty
  rwa [h3] at this
set_option maxRecDepth 100000 in
theorem plain_bool {v : Value} {b : Bool} {ps : List MemPlace} (h : plainElem (H := Unit) Try.prog 4 v = some (.lit (.bool b), ps)) : v = .bool b := by
  unfold plainElem at h
  rw [Try.underlying4] at h
  cases v <;> simp at h
  rw [h.1]
set_option maxRecDepth 100000 in
theorem SetM.look {w : World} {M c : Nat} {S : List Nat} (h : SetM w M c S) (p : Nat) (hp : p ≤ 9223372036854775807) :
    (Instr.lookup 44 (.map (some M)) (.int .i64 (p : Int)) false).run Try.prog w = .ok (.bool (decide (p ∈ S))) w := by
  obtain ⟨D, h1, h2, h3, h4, h5⟩ := h
  have hz : (zeroValue 4).run Try.prog w = .ok (.bool false) w := by rfl
  obtain ⟨v, ps, hrun, hv⟩ := h1.lookup int_law Try.underlying44 hz (plainElem_bool Try.underlying4 false) (key_i p hp)
  rw [h5 p] at hv
  rw [hrun, plain_bool hv]

/-! ### One pattern behind another one -/
theorem mid_cut {s : List UInt8} {f k d : Nat} (hd : f + d ≤ k) (hk : k ≤ s.length) : (mid s f k).take d = mid s f (f + d) ∧ (mid s f k).drop d = mid s (f + d) k := by
  unfold mid
  constructor
  · rw [List.take_drop, List.take_take, Nat.min_eq_left (by omega)]
  · rw [List.drop_drop]
theorem thn_mid {a b : Re} {s : List UInt8} {f k : Nat} (hf : f ≤ k) (hk : k ≤ s.length) : Mt (.thn a b) (mid s f k) ↔ ∃ i, f ≤ i ∧ i ≤ k ∧ Mt a (mid s f i) ∧ Mt b (mid s i k) := by
  rw [mt_thn]
  constructor
  · rintro ⟨d, hd, h1, h2⟩
    rw [mid_len hk] at hd
    obtain ⟨e1, e2⟩ := mid_cut (s := s) (f := f) (k := k) (d := d) (by omega) hk
    rw [e1] at h1
    rw [e2] at h2
    exact ⟨f + d, by omega, by omega, h1, h2⟩
  · rintro ⟨i, h1, h2, h3, h4⟩
    obtain ⟨e1, e2⟩ := mid_cut (s := s) (f := f) (k := k) (d := i - f) (by omega) hk
    rw [show f + (i - f) = i by omega] at e1 e2
    exact ⟨i - f, by rw [mid_len hk]; omega, by rw [e1]; exact h3, by rw [e2]; exact h4⟩
/-- What the first j of these lead on to. -/
def wantW (b : Re) (s : List UInt8) (xs : List Nat) (j : Nat) : List Nat := (xs.take j).foldl (fun S k => (endsL b s k).foldl insS S) []
theorem wantW_zero (b : Re) (s : List UInt8) (xs : List Nat) : wantW b s xs 0 = [] := by simp [wantW]
theorem wantW_succ {b : Re} {s : List UInt8} {xs : List Nat} {j k : Nat} (h : xs[j]? = some k) : wantW b s xs (j + 1) = (endsL b s k).foldl insS (wantW b s xs j) := by
  unfold wantW
  rw [List.take_succ_of h, List.foldl_append]
  rfl
theorem wantW_aux (b : Re) (s : List UInt8) (xs : List Nat) : ∀ S : List Nat, S.Nodup → (xs.foldl (fun S k => (endsL b s k).foldl insS S) S).Nodup ∧ ∀ q, q ∈ xs.foldl (fun S k => (endsL b s k).foldl insS S) S ↔ q ∈ S ∨ ∃ k ∈ xs, q ∈ endsL b s k := by
  induction xs with
  | nil => intro S h; exact ⟨h, fun q => by simp⟩
  | cons x xs ih =>
    intro S h
    obtain ⟨h1, h2⟩ := ih _ (fold_nodup (endsL b s x) S h)
    refine ⟨h1, fun q => ?_⟩
    rw [List.foldl_cons, h2, fold_mem]
    simp only [List.mem_cons, exists_eq_or_imp, or_assoc]
theorem endsL_nodup (r : Re) (s : List UInt8) (f : Nat) : (endsL r s f).Nodup := by
  unfold endsL endsTo
  exact List.Pairwise.filter _ (List.nodup_range' (step := 1))
theorem parts_all {a b : Re} {s : List UInt8} {f : Nat} (hf : f ≤ s.length) :
    (wantW b s (endsL a s f) (endsL a s f).length).length = (endsL (.thn a b) s f).length ∧ ∀ q, q ∈ endsL (.thn a b) s f → q ∈ wantW b s (endsL a s f) (endsL a s f).length := by
  unfold wantW
  rw [List.take_length]
  obtain ⟨h1, h2⟩ := wantW_aux b s (endsL a s f) [] List.nodup_nil
  have hmem : ∀ q, q ∈ (endsL a s f).foldl (fun S k => (endsL b s k).foldl insS S) [] ↔ q ∈ endsL (.thn a b) s f := fun q => by
    rw [h2, endsL_mem]
    constructor
    · rintro (h | ⟨k, hk, hq⟩)
      · cases h
      · rw [endsL_mem] at hk hq
        exact ⟨by omega, hq.2.1, (thn_mid (by omega) hq.2.1).2 ⟨k, hk.1, hq.1, hk.2.2, hq.2.2⟩⟩
    · rintro ⟨g1, g2, g3⟩
      obtain ⟨i, i1, i2, i3, i4⟩ := (thn_mid g1 g2).1 g3
      exact .inr ⟨i, endsL_mem.2 ⟨i1, by omega, i3⟩, endsL_mem.2 ⟨i2, g2, i4⟩⟩
  have hp := (List.perm_ext_iff_of_nodup h1 (endsL_nodup (.thn a b) s f)).2 hmem
  exact ⟨hp.length_eq, fun q hq => (hmem q).2 hq⟩
end Go.Proofs.Ytelkgkmomdmblaa
