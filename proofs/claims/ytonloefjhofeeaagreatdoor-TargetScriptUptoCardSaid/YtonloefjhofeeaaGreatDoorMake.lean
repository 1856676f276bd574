/-
  Rows of bytes that a call makes: literals, room, copies; strings of bytes compared.
-/
import Derived.Test.YtonloefjhofeeaaGreatDoorChecked
import Derived.Test.YtonloefjhofeeaaGreatDoorApp
import Derived.Test.YtonloefjhofeeaaGreatDoorBits
import Derived.WalkKit
import Derived.ProofKit
import Derived.WalkLawsBesides
import Derived.IntWalk
import Derived.RegionTactic
import Derived.BigRegion
import Derived.ChangeAlike
import Derived.Deep.QuietTactic
import Derived.BigQuiet
import Derived.Deep.RegionHeld3
import Derived.Deep.DrawnRows
import Derived.Outline
namespace Go.Proofs.YtonloefjhofeeaaGreatDoor
open Go.RowKit
set_option linter.unusedVariables false

theorem byteT : ByteT Tryz.prog 31 5 := ⟨Tryz.underlying31, Tryz.underlying5, by kernel_rfl⟩

theorem ret_int {k : IntKind} {a b : Int} (h : a = b) : Ending.returned (.int k a) = .returned (.int k b) := by rw [h]

/-- The call's own slice of bytes is what it returns. -/
def RetB (w : World) (bs : List UInt8) (e : Ending) (w' : World) : Prop :=
  ∃ A c, e = .returned (.slice A bs.length c) ∧ OwnB w' w.heap.size 5 (.slice A bs.length c) bs.length bs ∧ bs.length ≤ c ∧ c ≤ 9223372036854775807 ∧ Below w.heap.size w w'

theorem own_new (w : World) (base g n : Nat) (bs : List UInt8) (cs : Array Value) (hg : g = w.heap.size) (hb : base ≤ g) (hn : bs.length = n) (hcs : cs = byteVals bs) (hm : n ≤ 9223372036854775807) :
    OwnB (w.alloc (.cells cs 5)) base 5 (.slice (some ⟨g, 0, none⟩) n n) n bs := by
  subst hcs hg
  have h := World.ownsRow_lit (base := base) (e := 5) (size := 1) w (byteVals bs) n hb (by unfold maxLen; omega) (by simp [byteVals, hn])
  have e : (byteVals bs).toList = bs.map byteV := by simp [byteVals, byteV]
  rw [e] at h
  exact h

theorem strB_toList (bs : List UInt8) : (strB bs).toList = bs := ByteArray.toList_mk bs
theorem strB_beq (xs bs : List UInt8) : ((strB xs).toList == (strB bs).toList) = decide (xs = bs) := by
  rw [strB_toList, strB_toList]
  by_cases h : xs = bs
  · subst h; simp
  · rw [decide_eq_false h, beq_eq_false_iff_ne]; exact h
theorem strB_same {xs bs : List UInt8} (h : xs = bs) : ((strB xs).toList == (strB bs).toList) = true := by rw [strB_beq, decide_eq_true h]
theorem strB_diff {xs bs : List UInt8} (h : xs ≠ bs) : ((strB xs).toList == (strB bs).toList) = false := by rw [strB_beq, decide_eq_false h]

/-! ### Room for bytes -/
def zeros (N : Nat) : List UInt8 := List.replicate N 0
def zrow (N : Nat) : Array Value := byteVals (zeros N)
theorem zeros_len (N : Nat) : (zeros N).length = N := List.length_replicate
theorem zrow_size (N : Nat) : (zrow N).size = N := by simp [zrow, byteVals, zeros]
theorem made_bytes (N : Nat) : madeCells #[.int .u8 0] (N * 1) = zrow N := by
  apply Array.ext'
  apply List.ext_getElem?
  intro i
  rcases Nat.lt_or_ge i N with hi | hi
  · simp [madeCells, zrow, zeros, byteVals, hi, Nat.mod_one]
  · simp [madeCells, zrow, zeros, byteVals, hi]
theorem run_mkbs (v u : Int) (n N : Nat) (hu : u = (n : Int)) (hv : v = (N : Int)) (hn : n ≤ N) (hN : N ≤ 65536) (W : World) :
    (Instr.makeSlice 31 (.int .i64 u) (.int .i64 v)).run Tryz.prog W = .ok (.slice (some ⟨W.heap.size, 0, none⟩) n N) (W.alloc (.cells (zrow N) 5)) := by
  subst hv hu
  obtain ⟨i, hi⟩ := Option.isSome_iff_exists.1 (show (Tryz.prog.info? 5).isSome = true by kernel_rfl)
  have h0 : (Tryz.prog.info? 5).map (fun i => (i.zero, i.bytes, i.size)) = some (some (.int .u8 0), 1, 1) := by kernel_rfl
  rw [hi] at h0
  simp only [Option.map_some, Option.some.injEq, Prod.mk.injEq] at h0
  obtain ⟨hz, hb, hs⟩ := h0
  have h := run_make (P := Tryz.prog) W 31 5 i (.int .u8 0) Tryz.underlying31 hi hz .i64 .i64 (n : Int) (N : Int) (by omega) (by omega) (by rw [hb]; omega) (by omega)
  rw [hs] at h
  simp only [Int.toNat_natCast] at h
  rw [← made_bytes]
  exact h
theorem own_room (w : World) (base g N : Nat) (hg : g = w.heap.size) (hb : base ≤ g) (hN : N ≤ 65536) :
    OwnB (w.alloc (.cells (zrow N) 5)) base 5 (.slice (some ⟨g, 0, none⟩) 0 N) 0 [] := by
  subst hg
  exact ⟨rfl, .inr ⟨_, N, zrow N, rfl, hb, heap_alloc_new w _, Nat.zero_le _, by unfold maxLen; omega, by rw [zrow_size, Nat.mul_one], by simp⟩⟩

theorem own_lower {w : World} {base base' n : Nat} {e : TypeId} {v : Value} {bs : List UInt8} (h : OwnB w base e v n bs) (hb : base' ≤ base) : OwnB w base' e v n bs := by
  refine ⟨h.1, ?_⟩
  rcases h.2 with h0 | ⟨g, cap, cur, hv, hg, r⟩
  · exact .inl h0
  · exact .inr ⟨g, cap, cur, hv, Nat.le_trans hb hg, r⟩

theorem byteVals_at {cs : List UInt8} {i : Nat} (hi : i < cs.length) : ∃ c : UInt8, cs[i]? = some c ∧ (byteVals cs)[i]? = some (.int .u8 (c.toNat : Int)) := by
  refine ⟨cs[i], List.getElem?_eq_getElem hi, ?_⟩
  simp [byteVals, hi]
theorem byteVals_set (cs : List UInt8) (i : Nat) (c : UInt8) : (byteVals cs).setIfInBounds i (.int .u8 (c.toNat : Int)) = byteVals (cs.set i c) := by
  simp [byteVals, List.map_set]

theorem own_blk {w : World} {base g n : Nat} {bs : List UInt8} (h : Blk w g 5 (byteVals bs)) (hb : base ≤ g) (hn : bs.length = n) (hm : n ≤ 9223372036854775807) :
    OwnB w base 5 (.slice (some ⟨g, 0, none⟩) n n) n bs := by
  refine ⟨by simpa using hn, .inr ⟨g, n, byteVals bs, rfl, hb, h, Nat.le_refl _, by unfold maxLen; omega, by simp [byteVals, hn], ?_⟩⟩
  have e : (byteVals bs).toList = bs.map byteV := by simp [byteVals, byteV]
  rw [e]
  exact List.take_of_length_le (by simp [hn])

theorem conv_new (w : World) (g : Nat) (hg : g = w.heap.size) (cs : Array Value) (bs : List UInt8) (n : Nat) (hn : bs.length = n) (hcs : cs = byteVals bs) (hm : n ≤ 9223372036854775807) :
    (convert 31 9 (.slice (some ⟨g, 0, none⟩) n n)).run Tryz.prog (w.alloc (.cells cs 5)) = .ok (.string (strB bs)) (w.alloc (.cells cs 5)) :=
  run_str 31 5 9 Tryz.underlying31 Tryz.underlying5 Tryz.underlying9 (bys_new w 5 bs n hn (by unfold maxLen; omega) cs hcs g hg)
end Go.Proofs.YtonloefjhofeeaaGreatDoor
