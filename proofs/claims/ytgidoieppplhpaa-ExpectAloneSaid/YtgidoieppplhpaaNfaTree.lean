/-
  A text that is quoted fits itself alone.
-/
import Derived.Test.YtgidoieppplhpaaRegexQuoted
import Derived.Test.YtgidoieppplhpaaNfaPlain
namespace Go.Proofs.Ytgidoieppplhpaa
set_option linter.unusedVariables false

theorem mt_byte (c : UInt8) (s : List UInt8) : Mt (byteR c) s ↔ s = [c] := by
  constructor
  · rintro ⟨d, rfl, h⟩
    rw [has_with st0 c.toNat d.toNat (u8lt c) (u8lt d)] at h
    have e : hasS st0 d.toNat = false := has_none d.toNat
    rw [e, Bool.false_or, decide_eq_true_iff] at h
    rw [UInt8.toNat_inj.1 h]
  · rintro rfl
    exact ⟨c, rfl, by rw [has_with st0 c.toNat c.toNat (u8lt c) (u8lt c)]; simp⟩
theorem mt_fold : ∀ (r : List UInt8) (n : Re) (p : List UInt8), (∀ s, Mt n s ↔ s = p) → ∀ s, Mt (r.foldl (fun n x => .thn n (byteR x)) n) s ↔ s = p ++ r
  | [], n, p, h, s => by simpa using h s
  | c :: r, n, p, h, s => by
    have := mt_fold r (.thn n (byteR c)) (p ++ [c]) (fun s => by
      constructor
      · rintro ⟨u, v, rfl, h1, h2⟩
        rw [(h u).1 h1, (mt_byte c v).1 h2]
      · rintro rfl
        exact ⟨p, [c], rfl, (h p).2 rfl, (mt_byte c _).2 rfl⟩) s
    simpa using this
theorem mt_tree (l s : List UInt8) : Mt (treeOf l) s ↔ s = l := by
  cases l with
  | nil => exact Iff.rfl
  | cons c r => exact mt_fold r (byteR c) [c] (mt_byte c) s
end Go.Proofs.Ytgidoieppplhpaa
