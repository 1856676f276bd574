/-
  Small facts of what several packages do: errors' values, max and min, a result that lies in a cell.
-/
import Derived.Test.YtonloefjhofeeaaGreatDoorMinMax
import Derived.WalkKit
import Derived.ProofKit
import Derived.LoopTactic
import Derived.RegionTactic
import Derived.Deep.DeepCutAuto
import Derived.Deep.RegionWith
import Derived.Deep.RegionHeld3
import Derived.Deep.DrawnRows
namespace Go.Proofs.YtonloefjhofeeaaGreatDoor
open Go.RowKit
set_option linter.unusedVariables false

/-- A pointer to a block's first cell. -/
def ptV (g : Nat) : Value := .pointer (some ⟨g, 0, none⟩)
/-- An error's value: its number, or nil. -/
def errV (e : Nat) : Value := if e = 0 then .nilIface else .iface 107 (.int .i64 (e : Int))
theorem errV_or (n : Nat) : errV n = .nilIface ∨ ∃ t u, errV n = .iface t u := by
  unfold errV; split
  · exact .inl rfl
  · exact .inr ⟨_, _, rfl⟩
theorem turnAt {G : Nat} {w a : World} (i : Nat) (u : Value) (k : Turn (fun b => b = G) w a) : Turn (fun b => b = G) w (a.setCell ⟨G, i, none⟩ u) := Turn.setCell (S := fun b => b = G) k (.inl rfl) _
theorem u8_ne {c d : UInt8} (h : c ≠ d) : ((c.toNat : Int) == (d.toNat : Int)) = false := by
  have : c.toNat ≠ d.toNat := fun e => h (UInt8.toNat_inj.1 e)
  simp; omega
theorem res_cell {fn : Func} {p : Tmp} {ty : TypeId} (h : fn.results = #[.cell p ty]) (tmps : Array Value) (P : Program) (w : World) :
    (results fn tmps).run P w = ((asAddr (tmps.getD p undef)).run P w).andThen fun a w₁ => (loadVar ty a).run P w₁ := by
  simp only [results, h]
  simp [Sem.run_bind, Result.andThen]
theorem apart_new {w : World} {A : Option Addr} {n c base g : Nat} {d : List UInt8} (h : OwnB w base 5 (.slice A n c) n d) (hg : g < base) : Apart (fun b => b = g) A n := fun hn ad e hh => by
  rcases h.form with ⟨A', c', e1, _, _, e2⟩
  have e3 : A = A' := by injection e1
  subst e3
  rcases e2 with rfl | ⟨g', rfl, h1, h2⟩
  · cases e
  · obtain rfl := Option.some.inj e
    simp only at hh
    omega
/-- A row of a call's own lies apart from what was there before. -/
theorem apart_own {w : World} {A : Option Addr} {n c base : Nat} {d : List UInt8} {O : Nat → Prop} (h : OwnB w base 5 (.slice A n c) n d) (hg : ∀ i, O i → i < base) : Apart O A n := fun hn ad e hh => by
  rcases h.form with ⟨A', c', e1, _, _, e2⟩
  have e3 : A = A' := by injection e1
  subst e3
  rcases e2 with rfl | ⟨g', rfl, h1, h2⟩
  · cases e
  · obtain rfl := Option.some.inj e
    have := hg _ hh
    simp only at this
    omega
theorem Apart.mono {S T : Nat → Prop} {A : Option Addr} {n : Nat} (h : Apart T A n) (hst : ∀ i, S i → T i) : Apart S A n := fun h0 ad e hs => h h0 ad e (hst _ hs)
/-- How often, and how long: what a Config's numbers come to. -/
def capZ (z : Int) (m : Nat) : Nat := (min (max z 1) m).toNat
theorem capZ_is (z : Int) (m : Nat) (hm : 1 ≤ m) : min (max z 1) (m : Int) = (capZ z m : Int) ∧ 1 ≤ capZ z m ∧ capZ z m ≤ m := by unfold capZ; omega
/-- A row of the call's own apart from what turns. -/
theorem own_keepB {S : Nat → Prop} {w w' : World} {base n c : Nat} {A : Option Addr} {d : List UInt8} (h : OwnB w base 5 (.slice A n c) n d) (ht : Turn S w w') (hS : ∀ ad, A = some ad → ¬ S ad.block) : OwnB w' base 5 (.slice A n c) n d :=
  h.keep fun i hi hlt => ht.block i hlt (fun hs => by
    cases A with
    | none => simp [Value.ownBlock] at hi
    | some ad =>
      have e : ad.block = i := by simpa [Value.ownBlock] using hi
      exact hS ad rfl (by rw [e]; exact hs))
theorem own_of {base n c : Nat} {w : World} {A : Option Addr} {d : List UInt8} (h : OwnB w base 5 (.slice A n c) n d) : ∀ ad, A = some ad → base ≤ ad.block ∧ (Value.slice A n c).ownBlock = some ad.block := fun ad e => by
  subst e
  have e : (Value.slice (some ad) n c).ownBlock = some ad.block := by simp [Value.ownBlock]
  exact ⟨own_base h _ e, e⟩
theorem own_lt {base n c : Nat} {w : World} {A : Option Addr} {d : List UInt8} (h : OwnB w base 5 (.slice A n c) n d) : ∀ ad, A = some ad → ad.block < w.heap.size := fun ad e => by
  obtain ⟨A', c', e1, _, _, e2⟩ := h.form
  have e3 : A = A' := by injection e1
  subst e3
  rcases e2 with rfl | ⟨g', rfl, h1, h2⟩
  · cases e
  · obtain rfl := Option.some.inj e
    exact h2
end Go.Proofs.YtonloefjhofeeaaGreatDoor
