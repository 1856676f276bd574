/-
  A scope out of which the run jumps forward to one label, and from there goes on without a goto.
-/
import Derived.WalkMore
import Derived.ScopeJumps
namespace Go.Proofs.YtonloefjhofeeaaGreatDoor
set_option linter.unusedVariables false

/-- What is asked at a jump: the code from the label on, without a goto. -/
def JumpTo (P : Program) (rest : Code) (Q : Exit → Act → World → Prop) (a : Act) (w : World) : Prop := rest.wp P (Exit.noGoto Q) a w
theorem wp_scope_to {P : Program} {a : Act} {w : World} {Q : Exit → Act → World → Prop} {c rest : Code} (l : Nat) (hf : findLabel c l = some rest)
    (first : c.wp P (Exit.jump l (JumpTo P rest Q) Q) a w) : (Code.scope c).wp P Q a w :=
  wp_scope_jumps l (JumpTo P rest Q) (fun _ _ => 0) hf first fun a w h => Code.wp_mono (fun e a w he => by cases e <;> first | exact he | exact (he : False).elim) h
section
variable {Q : Exit → Act → World → Prop} {J : Act → World → Prop} {l : Nat} {a : Act} {w : World}
@[go_sem] theorem jump_normal : Exit.jump l J Q .normal a w = Q .normal a w := rfl
@[go_sem] theorem jump_exit (id : Nat) : Exit.jump l J Q (.exit id) a w = Q (.exit id) a w := rfl
@[go_sem] theorem jump_ret : Exit.jump l J Q .ret a w = Q .ret a w := rfl
@[go_sem] theorem jump_panic (ch : List PanicEntry) : Exit.jump l J Q (.panic ch) a w = Q (.panic ch) a w := rfl
theorem jump_goto (h : J a w) : Exit.jump l J Q (.goto l) a w := ⟨rfl, h⟩
end
end Go.Proofs.YtonloefjhofeeaaGreatDoor
