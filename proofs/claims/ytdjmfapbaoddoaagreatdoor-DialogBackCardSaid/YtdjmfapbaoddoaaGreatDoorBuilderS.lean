/-
  strings.Builder at this program: the library's contract of WriteString, laid by hand (the shelf's own tool does not lay it: its table asks for types that the body does not name).
-/
import Derived.Shelf.Strings.BuilderK
import Derived.Test.YtdjmfapbaoddoaaGreatDoorProg
import Derived.Test.YtdjmfapbaoddoaaGreatDoorShelf
import Derived.Test.YtdjmfapbaoddoaaGreatDoorTurn
import Derived.Test.YtdjmfapbaoddoaaGreatDoorTokenQuote
import Derived.Test.YtdjmfapbaoddoaaGreatDoorManifestPlain
import Derived.Lib.QuietBelow
import Derived.Deep.DeepCutAuto
namespace Go.Proofs.YtdjmfapbaoddoaaGreatDoor
open Go.Shelf Go.RowKit
set_option linter.unusedVariables false

def lays166_ren : Ren := ⟨fun | 166 => 23 | 240 => 32 | 276 => 58 | n => n, fun | 0 => 0 | 3 => 3 | 4 => 4 | 9 => 9 | 20 => 20 | 37 => 55 | 70 => 65 | 72 => 67 | 75 => 28 | 164 => 105 | 5 => 5 | 80 => 70 | n => n, fun | n => n⟩
theorem lays166 : Go.Proofs.Lays.n166 Tryz.prog lays166_ren := {
  mixed := by kernel_rfl
  f166 := Tryz.func23.trans (congrArg some (by kernel_rfl))
  f240 := Tryz.func32.trans (congrArg some (by kernel_rfl))
  f276 := Tryz.func58.trans (congrArg some (by kernel_rfl))
  t0 := Tryz.underlying0
  a0 := Tryz.isAgg0
  z0 := Tryz.sizeOf0
  v0 := Tryz.zeroValue0
  t3 := Tryz.underlying3
  a3 := Tryz.isAgg3
  z3 := Tryz.sizeOf3
  v3 := Tryz.zeroValue3
  t4 := Tryz.underlying4
  a4 := Tryz.isAgg4
  z4 := Tryz.sizeOf4
  v4 := Tryz.zeroValue4
  t9 := Tryz.underlying9
  a9 := Tryz.isAgg9
  z9 := Tryz.sizeOf9
  v9 := Tryz.zeroValue9
  t20 := Tryz.underlying20
  a20 := Tryz.isAgg20
  z20 := Tryz.sizeOf20
  v20 := Tryz.zeroValue20
  t37 := Tryz.underlying55
  a37 := Tryz.isAgg55
  z37 := Tryz.sizeOf55
  v37 := Tryz.zeroValue55
  t70 := Tryz.underlying65
  a70 := Tryz.isAgg65
  z70 := Tryz.sizeOf65
  v70 := Tryz.zeroValue65
  t72 := Tryz.underlying67
  a72 := Tryz.isAgg67
  z72 := Tryz.sizeOf67
  v72 := Tryz.zeroValue67
  t75 := Tryz.underlying28
  a75 := Tryz.isAgg28
  z75 := Tryz.sizeOf28
  v75 := Tryz.zeroValue28
  t164 := Tryz.underlying105
  a164 := Tryz.isAgg105
  z164 := Tryz.sizeOf105
  v164 := Tryz.zeroValue105 }
theorem extra166 : Builder.Extra Tryz.prog lays166_ren := {
  sizeBuilder := by kernel_rfl
  liesBuilder := by kernel_rfl
  t5 := Tryz.underlying5
  a5 := Tryz.isAgg5
  z5 := Tryz.sizeOf5
  v5 := Tryz.zeroValue5
  infoByte := by kernel_rfl
  cellsByte := by kernel_rfl
  sizeByte := by kernel_rfl
  neB5 := by decide }
theorem writeString_any (B b : Nat) (bs : List Value) (s : ByteArray) (w : World) (h : Lib.IsBuilderF 67 5 B b bs w) (hlen : bs.length + s.size ≤ 140737488355328) (hBw : B ≤ w.heap.size) :
    Calls Tryz.prog 23 #[.pointer (some ⟨b, 0, none⟩), .string s] w fun e w' => e = .returned (.tuple #[.int .i64 s.size, .nilIface]) ∧ (Lib.BuilderAtF 67 5 B b (.pointer (some ⟨b, 0, none⟩)) (bs ++ Lib.strCells s) w' ∧ Below B w w' ∧ Lib.OthersKept 5 (some b) w w') :=
  Any.Builder_WriteString_k lays166 extra166 B b bs s w h hlen hBw


theorem quoL_le : ∀ (l q : List UInt8), quoL l = some q → q.length ≤ 2 * l.length
  | [], q, h => by simp [quoL] at h; subst h; simp
  | c :: r, q, h => by
    simp only [quoL] at h
    split at h
    · rename_i x hx
      cases hr : quoL r with
      | none => rw [hr] at h; cases h
      | some y =>
        rw [hr] at h
        cases h
        have h1 := quoL_le r y hr
        have h2 : x.length ≤ 2 := by
          unfold quo1 at hx
          split at hx
          · cases hx; simp
          · split at hx
            · cases hx; simp
            · cases hx
        simp; omega
    · cases h
theorem quoE_len (l : List UInt8) : (quoE l).length ≤ 2 * l.length + 2 := by
  unfold quoE
  cases h : quoL l with
  | none => simp
  | some q => have := quoL_le l q h; simp; omega
theorem quoV_is (l : List UInt8) : ∃ b, quoV l = .tuple #[.string (strB (quoE l)), .bool b] := by
  unfold quoV quoE
  cases quoL l with
  | none => exact ⟨false, rfl⟩
  | some q => exact ⟨true, rfl⟩
theorem num_len {b : Nat} (hb : Base b) {n : Int} (h : -9223372036854775808 ≤ n ∧ n ≤ 9223372036854775807) : (numL b n).length ≤ 65 := by
  have h2 := hb.two
  have hp : (2 : Nat) ^ (63 + 1) ≤ b ^ (63 + 1) := Nat.pow_le_pow_left h2.1 _
  have hq : (2 : Nat) ^ (63 + 1) = 18446744073709551616 := by decide
  unfold numL
  split
  · have := digL_len h2.1 (-n).toNat 63 (Nat.lt_of_lt_of_le (by omega) hp)
    simp; omega
  · have := digL_len h2.1 n.toNat 63 (Nat.lt_of_lt_of_le (by omega) hp)
    omega
/-! ### a text that grows -/
abbrev Bld (w : World) (b : Nat) (l : List UInt8) : Prop := Lib.IsBuilderF 67 5 b b (Lib.byteCells l) w
theorem rowF_below {w w' : World} {base : Nat} {e : TypeId} {size n : Nat} {v : Value} {xs : List Value} (h : w.ownsRowF base e size v n xs) (hb : Below w.heap.size w w') : w'.ownsRowF base e size v n xs := by
  refine ⟨h.1, ?_⟩
  rcases h.2 with h0 | ⟨g, cap, cur, fz, hv, hg, hgg, r⟩
  · exact .inl h0
  · exact .inr ⟨g, cap, cur, fz, hv, hg, by rw [hb.block g (Array.getElem?_eq_some_iff.1 hgg).1]; exact hgg, r⟩
theorem bldAt_below {w w' : World} {b : Nat} {p : Value} {bs : List Value} (h : Lib.BuilderAtF 67 5 b b p bs w) (hb : Below w.heap.size w w') : Lib.BuilderAtF 67 5 b b p bs w' := by
  obtain ⟨hB, v, h1, h2, h3⟩ := h
  exact ⟨hB, v, by rw [hb.block b (Array.getElem?_eq_some_iff.1 h1).1]; exact h1, rowF_below h2 hb, h3⟩
theorem bld_below {w w' : World} {b : Nat} {l : List UInt8} (h : Bld w b l) (hb : Below w.heap.size w w') : Bld w' b l := by
  rcases h with h | h
  · exact .inl (bldAt_below h hb)
  · exact .inr (bldAt_below h hb)
theorem strCells_strB (l : List UInt8) : Lib.strCells (strB l) = Lib.byteCells l := by simp [Lib.strCells, Lib.byteCells, strB]
theorem write_str (b : Nat) (l s : List UInt8) (w : World) (h : Bld w b l) (hl : l.length + s.length ≤ 140737488355328) (hb : b ≤ w.heap.size) :
    Calls Tryz.prog 23 #[.pointer (some ⟨b, 0, none⟩), .string (strB s)] w fun e w' => e = .returned (.tuple #[.int .i64 (s.length : Int), .nilIface]) ∧ Bld w' b (l ++ s) ∧ Below b w w' :=
  (writeString_any b b _ (strB s) w h (by rw [Lib.byteCells_length, strB_size]; exact hl) hb).mono fun e w' ⟨he, h1, h2, _⟩ => ⟨by rw [he, strB_size], by
    show Lib.IsBuilderF _ _ b b (Lib.byteCells (l ++ s)) w'
    rw [Lib.byteCells_append, ← strCells_strB s]; exact Or.inr h1, h2⟩
theorem btext_any (b : Nat) (l : List UInt8) (w : World) (h : Bld w b l) (hb : b ≤ w.heap.size) :
    Calls Tryz.prog 25 #[.pointer (some ⟨b, 0, none⟩)] w fun e w' => e = .returned (.string (strB l)) ∧ Below b w w' :=
  (Tryz.Builder_String_any_k b b l w h hb).mono fun e w' ⟨he, _, h2, _⟩ => ⟨he, h2⟩
end Go.Proofs.YtdjmfapbaoddoaaGreatDoor
