/-
  The statements' own build: patterns that numbers make.
-/
import Derived.Test.YtlmjijejgfhmmaaRegexMakes2
import Derived.Test.YtlmjijejgfhmmaaRegexMakes3
import Derived.Test.YtlmjijejgfhmmaaRegexMakes4
import Derived.Test.YtlmjijejgfhmmaaRegexMakes5
import Derived.Test.YtlmjijejgfhmmaaRegexMakes6
import Derived.Test.YtlmjijejgfhmmaaRegexParse
import Derived.WalkKit
import Derived.OwnWalk
import Derived.ProofKit
import Derived.WalkLawsBesides
import Derived.IntWalk
import Derived.RegionTactic
import Derived.BigRegion
import Derived.ChangeAlike
import Derived.Deep.QuietTactic
import Derived.BigQuiet
import Derived.Deep.RegionHeld3
import Derived.Deep.DrawnRows
import Derived.Outline
import Derived.Deep.DeepCutAuto
import Derived.Deep.DeepCutAuto
namespace Go.Proofs.Ytlmjijejgfhmmaa
open Go.RowKit
set_option linter.unusedVariables false





theorem build_all : ∀ d, d ≤ 3 → BuildSpec d
  | 0, _ => fun B A n c ns w hB hy hn hc => by
    rcases Nat.eq_zero_or_pos n with h0 | h0
    · subst h0; exact build_none B 0 A c ns w hB hy
    · exact build_zero B A n c ns w hB hy h0 hn hc
  | d + 1, hd => fun B A n c ns w hB hy hn hc => by
    rcases Nat.eq_zero_or_pos n with h0 | h0
    · subst h0; exact build_none B (d + 1) A c ns w hB hy
    · have hl := hy.len
      obtain ⟨x0, hx0⟩ : ∃ x0, ns[0]? = some x0 := ⟨_, List.getElem?_eq_getElem (by omega)⟩
      have H := build_all d (by omega)
      have h9 : x0.toNat % 9 < 9 := Nat.mod_lt _ (by omega)
      rw [show ((d + 1 : Nat) : Int) = (d : Int) + 1 by omega]
      rcases (by omega : x0.toNat % 9 < 2 ∨ (2 ≤ x0.toNat % 9 ∧ x0.toNat % 9 < 4) ∨ x0.toNat % 9 = 4 ∨ x0.toNat % 9 = 5 ∨ x0.toNat % 9 = 6 ∨ x0.toNat % 9 = 7 ∨ x0.toNat % 9 = 8) with h | h | h | h | h | h | h
      · exact build_thn B d (by omega) H A n c ns w hB hy h0 hn hc x0 hx0 h
      · exact build_alt B d (by omega) H A n c ns w hB hy h0 hn hc x0 hx0 h
      · exact build_star B d (by omega) H A n c ns w hB hy h0 hn hc x0 hx0 h
      · exact build_opt B d (by omega) H A n c ns w hB hy h0 hn hc x0 hx0 h
      · exact build_plus B d (by omega) H A n c ns w hB hy h0 hn hc x0 hx0 h
      · exact build_dot B d A n c ns w hB hy h0 hn hc x0 hx0 h
      · exact build_cls B d A n c ns w hB hy h0 hn hc x0 hx0 h
end Go.Proofs.Ytlmjijejgfhmmaa
