/-
  The reader of patterns: whether all is read, which byte comes next, a letter.
-/
import Derived.Test.YtgidoieppplhpaaDoorRegexTree
import Derived.WalkKit
import Derived.ProofKit
import Derived.WalkLawsBesides
import Derived.IntWalk
import Derived.RegionTactic
import Derived.BigRegion
import Derived.ChangeAlike
import Derived.Deep.QuietTactic
import Derived.BigQuiet
import Derived.Deep.RegionHeld3
import Derived.Deep.DrawnRows
import Derived.Outline
namespace Go.Proofs.YtgidoieppplhpaaDoor
open Go.RowKit
set_option linter.unusedVariables false

theorem ret_bool {a b : Bool} (h : a = b) : Ending.returned (.bool a) = .returned (.bool b) := by rw [h]
/-- A byte of a string. -/
theorem run_idx {l : List UInt8} {k : Nat} {c : UInt8} (h : l[k]? = some c) (i : Int) (hi : i = (k : Int)) (w : World) :
    (Instr.index 9 (.string (strB l)) (.int .i64 i)).run Tryd.prog w = .ok (.int .u8 (c.toNat : Int)) w := by
  subst hi
  have hk : k < l.length := by
    rcases Nat.lt_or_ge k l.length with hl | hl
    · exact hl
    · rw [List.getElem?_eq_none hl] at h; cases h
  rw [run_index_string w 9 (strB l) .i64 k Tryd.underlying9, dif_pos ⟨by omega, by rw [strB_size]; omega⟩]
  have key : ∀ (i : Nat) (hi : i < (strB l).size), i = k → (strB l)[i] = c := by
    rintro i hi rfl
    have h2 : (strB l).data[i]? = some c := by show l.toArray[i]? = some c; simpa using h
    exact (Array.getElem?_eq_some_iff.1 h2).2
  rw [key _ _ (by omega)]

/-- The reader's block: the text, how much of it is read, in how many brackets. -/
def psC (bs : List UInt8) (i d : Nat) : Array Value := #[.string (strB bs), .int .i64 (i : Int), .int .i64 (d : Int)]
structure Ps (w : World) (g : Nat) (bs : List UInt8) (i d : Nat) : Prop where
  blk : Blk w g 83 (psC bs i d)
  le : i ≤ bs.length
  max : bs.length ≤ 64
theorem Ps.cells {w : World} {g i d : Nat} {bs : List UInt8} (h : Ps w g bs i d) :
    w.cell? ⟨g, 0, none⟩ = some (.string (strB bs)) ∧ w.cell? ⟨g, 1, none⟩ = some (.int .i64 (i : Int)) ∧ w.cell? ⟨g, 2, none⟩ = some (.int .i64 (d : Int)) ∧ ∀ k, w.frozen? ⟨g, k, none⟩ = false :=
  ⟨h.blk.cell 0, h.blk.cell 1, h.blk.cell 2, h.blk.frozen⟩
theorem Ps.drewN {w : World} {g i d : Nat} {bs : List UInt8} (h : Ps w g bs i d) (n : Nat) : Ps (w.drewN n) g bs i d := ⟨h.blk.drewN n, h.le, h.max⟩
theorem Ps.below {w w' : World} {B g i d : Nat} {bs : List UInt8} (h : Ps w g bs i d) (hb : Below B w w') (hg : g < B) : Ps w' g bs i d := ⟨h.blk.below hb hg, h.le, h.max⟩
theorem Ps.alloc {w : World} {g i d : Nat} {bs : List UInt8} (h : Ps w g bs i d) (o : Obj) : Ps (w.alloc o) g bs i d := ⟨h.blk.alloc o, h.le, h.max⟩
theorem Ps.lt {w : World} {g i d : Nat} {bs : List UInt8} (h : Ps w g bs i d) : g < w.heap.size := h.blk.lt
theorem Ps.put {w : World} {g i d : Nat} {bs : List UInt8} (h : Ps w g bs i d) (j : Nat) (hj : j ≤ bs.length) : Ps (w.setCell ⟨g, 1, none⟩ (.int .i64 (j : Int))) g bs j d := ⟨h.blk.put 1 _, hj, h.max⟩
theorem Ps.deep {w : World} {g i d : Nat} {bs : List UInt8} (h : Ps w g bs i d) (j : Nat) : Ps (w.setCell ⟨g, 2, none⟩ (.int .i64 (j : Int))) g bs i j := ⟨h.blk.put 2 _, h.le, h.max⟩
theorem Ps.far {w : World} {g i d : Nat} {bs : List UInt8} (h : Ps w g bs i d) {p : Addr} (hp : g ≠ p.block) (u : Value) : Ps (w.setCell p u) g bs i d := ⟨h.blk.far hp u, h.le, h.max⟩
/-- What a reading leaves: so much is read, only the reader's block, and what is new, has turned. -/
structure Went (g : Nat) (bs : List UInt8) (d : Nat) (r : List UInt8) (w w' : World) : Prop where
  at_ : ∃ i, bs.drop i = r ∧ Ps w' g bs i d
  only : Only g w w'
theorem went_of_drew {g i d m : Nat} {bs : List UInt8} {w : World} (h : Ps w g bs i d) : Went g bs d (bs.drop i) w (w.drewN m) := ⟨⟨i, rfl, h.drewN m⟩, (Only.refl w g).drewN m⟩

set_option maxHeartbeats 4000000 in
theorem done_any {g i d : Nat} {bs : List UInt8} {w : World} (h : Ps w g bs i d) :
    Calls Tryd.prog 28 #[.pointer (some ⟨g, 0, none⟩)] w fun e w' => e = .returned (.bool (bs.drop i).isEmpty) ∧ ∃ m, w' = w.drewN m := by
  obtain ⟨c0, c1, c2, cf⟩ := h.cells
  have hl := h.le
  have hm := h.max
  have hsz : (strB bs).size = bs.length := strB_size bs
  have he : ((i : Int) == (bs.length : Int)) = (bs.drop i).isEmpty := by
    rcases Nat.lt_or_ge i bs.length with hlt | hge
    · have : bs.drop i ≠ [] := by simp; omega
      rw [show ((bs.drop i).isEmpty = false) by simpa using this]
      simp; omega
    · rw [List.drop_eq_nil_of_le hge]; simp; omega
  generalize (bs.drop i).isEmpty = b at *
  generalize bs.length = n at *
  go_enter Tryd.func28, Tryd.ntmps28
  go_wp2
  go_quiet (fail)
  go_wp2
  go_ret
  exact ⟨rfl, _, rfl⟩

theorem head_of {bs : List UInt8} {i : Nat} (hl : i < bs.length) : ∃ c, bs[i]? = some c ∧ bs.drop i = c :: bs.drop (i + 1) :=
  ⟨bs[i], List.getElem?_eq_getElem hl, List.drop_eq_getElem_cons hl⟩

set_option maxHeartbeats 4000000 in
theorem next_any {g i d : Nat} {bs : List UInt8} {w : World} (h : Ps w g bs i d) (k : Int) (c : UInt8) (hk : k = (c.toNat : Int)) :
    Calls Tryd.prog 60 #[.pointer (some ⟨g, 0, none⟩), .int .u8 k] w fun e w' => e = .returned (.bool (nx c (bs.drop i))) ∧ ∃ m, w' = w.drewN m := by
  have HD := keepHid (fun n => done_any (h.drewN n))
  obtain ⟨c0, c1, c2, cf⟩ := h.cells
  have hl := h.le
  have hm := h.max
  have hsz : (strB bs).size = bs.length := strB_size bs
  rcases Nat.lt_or_ge i bs.length with hlt | hge
  · obtain ⟨x, hx, hdr⟩ := head_of hlt
    have hix := fun w => run_idx hx (i : Int) rfl w
    have hv : ((x.toNat : Int) == k) = nx c (bs.drop i) := by
      rw [hdr, hk]
      unfold nx
      by_cases hxc : x = c
      · subst hxc; simp
      · have : x.toNat ≠ c.toNat := fun e => hxc (UInt8.toNat_inj.1 e)
        have h2 : ((x.toNat : Int) == (c.toNat : Int)) = false := by simp only [beq_eq_false_iff_ne, ne_eq]; omega
        rw [h2]
        simp [hxc]
    have he : (bs.drop i).isEmpty = false := by rw [hdr]; rfl
    rw [he] at HD
    generalize nx c (bs.drop i) = b at *
    generalize strB bs = S at *
    generalize x.toNat = y at *
    clear hdr he hk
    go_enter Tryd.func60, Tryd.ntmps60
    go_wp2
    go_quiet (first | (go_at_call 28; (with_reducible refine Calls.quiet_of (HD.out _))))
    go_wp2
    go_ret
    exact ⟨rfl, _, rfl⟩
  · have he : (bs.drop i).isEmpty = true := by rw [List.drop_eq_nil_of_le hge]; rfl
    have hv : nx c (bs.drop i) = false := by rw [List.drop_eq_nil_of_le hge]; rfl
    rw [he] at HD
    rw [hv]
    go_enter Tryd.func60, Tryd.ntmps60
    go_wp2
    go_quiet (first | (go_at_call 28; (with_reducible refine Calls.quiet_of (HD.out _))))
    go_wp2
    go_ret
    exact ⟨rfl, _, rfl⟩

end Go.Proofs.YtgidoieppplhpaaDoor
