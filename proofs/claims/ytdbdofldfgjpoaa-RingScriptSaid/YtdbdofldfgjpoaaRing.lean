/-
  What the functions of package ring answer, one contract each.
-/
import Derived.Test.YtdbdofldfgjpoaaChecked
import Derived.Test.YtdbdofldfgjpoaaTurn
import Derived.WalkKit
import Derived.ProofKit
import Derived.WalkLawsBesides
import Derived.IntWalk
import Derived.RegionTactic
import Derived.BigRegion
import Derived.ChangeAlike
import Derived.Deep.QuietTactic
import Derived.BigQuiet
import Derived.Deep.RegionHeld3
import Derived.Deep.DrawnRows
import Derived.Outline
namespace Go.Proofs.Ytdbdofldfgjpoaa
open Go.RowKit
set_option linter.unusedVariables false

theorem ret_i64 {a b : Int} (h : a = b) : Ending.returned (.int .i64 a) = .returned (.int .i64 b) := by rw [h]

/-- The struct of a ring lies in block g, its circle in block h. -/
def RS (w : World) (g h N f k : Nat) (l : Int) : Prop := Blk w g 43 #[.slice (some ⟨h, 0, none⟩) N N, .int .i64 (f : Int), .int .i64 (k : Int), .int .i64 l]
namespace RS
variable {w : World} {g h N f k : Nat} {l : Int}
theorem c0 (r : RS w g h N f k l) : w.cell? ⟨g, 0, none⟩ = some (.slice (some ⟨h, 0, none⟩) N N) := Blk.cell r 0
theorem c1 (r : RS w g h N f k l) : w.cell? ⟨g, 1, none⟩ = some (.int .i64 (f : Int)) := Blk.cell r 1
theorem c2 (r : RS w g h N f k l) : w.cell? ⟨g, 2, none⟩ = some (.int .i64 (k : Int)) := Blk.cell r 2
theorem c3 (r : RS w g h N f k l) : w.cell? ⟨g, 3, none⟩ = some (.int .i64 l) := Blk.cell r 3
@[simp] theorem at_drew : RS w.drew g h N f k l = RS w g h N f k l := rfl
@[simp] theorem at_drewN (m : Nat) : RS (w.drewN m) g h N f k l = RS w g h N f k l := rfl
@[simp] theorem at_set {p : Addr} (hp : ¬ g = p.block) (u : Value) : RS (w.setCell p u) g h N f k l = RS w g h N f k l := by
  unfold RS Blk; rw [Below.heap_setCell w p u g hp]
end RS

theorem place_any (g h N f k : Nat) (l : Int) (z : Int) (i : Nat) (hz : z = (i : Int)) (hf : f < N) (hN : N ≤ 4096) (hi : i ≤ 8192) (w : World) (hr : RS w g h N f k l) :
    Calls Try.prog 16 #[.pointer (some ⟨g, 0, none⟩), .int .i64 z] w fun e w' => e = .returned (.int .i64 (((f + i) % N : Nat) : Int)) ∧ ∃ m, w' = w.drewN m := by
  subst hz
  have hc0 := hr.c0
  have hc1 := hr.c1
  clear hr
  go_enter Try.func16, Try.ntmps16
  go_wp2
  go_quiet (fail)
  go_wp2
  go_ret
  exact ⟨ret_i64 (by simp), _, rfl⟩

theorem place_at (g h N f k p : Nat) (l : Int) (z : Int) (i : Nat) (hz : z = (i : Int)) (hp : (f + i) % N = p) (hf : f < N) (hN : N ≤ 4096) (hi : i ≤ 8192) (w : World) (hr : RS w g h N f k l) :
    Calls Try.prog 16 #[.pointer (some ⟨g, 0, none⟩), .int .i64 z] w fun e w' => e = .returned (.int .i64 (p : Int)) ∧ ∃ m, w' = w.drewN m :=
  (place_any g h N f k l z i hz hf hN hi w hr).mono fun e w' ⟨he, hw⟩ => ⟨by rw [he, hp], hw⟩
theorem len_any (g h N f k : Nat) (l : Int) (w : World) (hr : RS w g h N f k l) :
    Calls Try.prog 13 #[.pointer (some ⟨g, 0, none⟩)] w fun e w' => e = .returned (.int .i64 (k : Int)) ∧ w = w' := by
  have hc2 := hr.c2
  clear hr
  go_enter Try.func13, Try.ntmps13
  go_wp2
  go_ret
  exact ⟨rfl, rfl⟩
theorem lost_any (g h N f k : Nat) (l : Int) (w : World) (hr : RS w g h N f k l) :
    Calls Try.prog 15 #[.pointer (some ⟨g, 0, none⟩)] w fun e w' => e = .returned (.int .i64 l) ∧ w = w' := by
  have hc2 := hr.c3
  clear hr
  go_enter Try.func15, Try.ntmps15
  go_wp2
  go_ret
  exact ⟨rfl, rfl⟩
theorem room_any (g h N f k : Nat) (l : Int) (hk : k ≤ N) (hN : N ≤ 4096) (w : World) (hr : RS w g h N f k l) :
    Calls Try.prog 14 #[.pointer (some ⟨g, 0, none⟩)] w fun e w' => e = .returned (.int .i64 ((N : Int) - (k : Int))) ∧ ∃ m, w' = w.drewN m := by
  have hc0 := hr.c0
  have hc2 := hr.c2
  clear hr
  go_enter Try.func14, Try.ntmps14
  go_wp2
  go_quiet (fail)
  go_wp2
  go_ret
  exact ⟨ret_i64 (by omega), _, rfl⟩
theorem room_at (g h N f k r : Nat) (l : Int) (hk : k + r = N) (hN : N ≤ 4096) (w : World) (hr : RS w g h N f k l) :
    Calls Try.prog 14 #[.pointer (some ⟨g, 0, none⟩)] w fun e w' => e = .returned (.int .i64 (r : Int)) ∧ ∃ m, w' = w.drewN m :=
  (room_any g h N f k l (by omega) hN w hr).mono fun e w' ⟨he, hw⟩ => ⟨by rw [he]; exact ret_i64 (by omega), hw⟩
end Go.Proofs.Ytdbdofldfgjpoaa
