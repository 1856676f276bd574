/-
  A line's words, as the library parts it at single blanks.
-/
import Derived.Test.YtonloefjhofeeaaGreatDoorShelf
import Derived.Test.YtonloefjhofeeaaGreatDoorBoardPlain
import Derived.Shelf.Strings.Split
import Derived.Lib.IndexBytes
import Derived.Lib.SplitLaws
import Derived.WalkKit
import Derived.ProofKit
namespace Go.Proofs.YtonloefjhofeeaaGreatDoor
open Go.RowKit Go.Lib
set_option linter.unusedVariables false

/-! ### Plain: the library's parts are the words -/
theorem index_head (r : List UInt8) : Lib.index (32 :: r) [32] = 0 := by rw [Lib.index_one]; simp [Lib.indexByte]
theorem index_tail (c : UInt8) (r : List UInt8) (h : c ≠ 32) : Lib.index (c :: r) [32] = if Lib.index r [32] = -1 then -1 else Lib.index r [32] + 1 := by
  rw [Lib.index_one, Lib.index_one]
  rw [Lib.indexByte]
  simp [h]
theorem index_none (l : List UInt8) (h : ∀ c ∈ l, c ≠ 32) : Lib.index l [32] = -1 := by
  induction l with
  | nil => rw [Lib.index_one]; rfl
  | cons c r ih => rw [index_tail c r (h c (by simp)), ih (fun x hx => h x (by simp [hx])), if_pos rfl]
theorem index_word (a r : List UInt8) (h : ∀ c ∈ a, c ≠ 32) : Lib.index (a ++ 32 :: r) [32] = (a.length : Int) := by
  induction a with
  | nil => exact index_head r
  | cons c a ih =>
    show Lib.index (c :: (a ++ 32 :: r)) [32] = _
    rw [index_tail c _ (h c (by simp)), ih (fun x hx => h x (by simp [hx])), if_neg (by omega)]
    simp
theorem first_blank (l : List UInt8) : (∀ c ∈ l, c ≠ 32) ∨ ∃ a r, l = a ++ 32 :: r ∧ ∀ c ∈ a, c ≠ 32 := by
  induction l with
  | nil => exact .inl (fun c h => absurd h (by simp))
  | cons c r ih =>
    by_cases hc : c = 32
    · subst hc; exact .inr ⟨[], r, rfl, fun c h => absurd h (by simp)⟩
    · rcases ih with h | ⟨a, q, rfl, h⟩
      · exact .inl (fun x hx => (List.mem_cons.1 hx).elim (fun e => e ▸ hc) (h x))
      · exact .inr ⟨c :: a, q, rfl, fun x hx => (List.mem_cons.1 hx).elim (fun e => e ▸ hc) (h x)⟩
theorem splitK_is : ∀ (n : Nat) (l : List UInt8), l.count 32 = n → Lib.splitK [32] 0 n l = splitW l
  | 0, l, h => by
    rcases first_blank l with h1 | ⟨a, r, rfl, h1⟩
    · rw [splitW_one l h1]; rfl
    · simp at h
  | n + 1, l, h => by
    rcases first_blank l with h1 | ⟨a, r, rfl, h1⟩
    · have : l.count 32 = 0 := List.count_eq_zero.2 (fun hm => h1 32 hm rfl)
      omega
    · have h2 : a.count 32 = 0 := List.count_eq_zero.2 (fun hm => h1 32 hm rfl)
      have h3 : r.count 32 = n := by
        rw [List.count_append, h2, List.count_cons_self] at h; omega
      rw [splitW_word a r h1]
      unfold Lib.splitK
      rw [index_word a r h1, if_neg (by simp only [beq_iff_eq]; omega)]
      have e1 : (a ++ 32 :: r).take ((a.length : Int).toNat + 0) = a := by simp
      have e2 : (a ++ 32 :: r).drop ((a.length : Int).toNat + ([32] : List UInt8).length) = r := by
        show (a ++ 32 :: r).drop (a.length + 1) = r
        rw [← List.drop_drop]
        simp
      rw [e1, e2, splitK_is n r h3]
theorem str_data (b : ByteArray) : strB b.data.toList = b := rfl
theorem splitB_is (l : List UInt8) : (Lib.splitB ⟨#[32]⟩ 0 (Lib.countB (strB l) ⟨#[32]⟩) (strB l)) = (splitW l).map strB := by
  have h1 := Lib.splitB_data ⟨#[32]⟩ 0 (Lib.countB (strB l) ⟨#[32]⟩) (strB l)
  have hc : Lib.countB (strB l) ⟨#[32]⟩ = l.count 32 := by
    show Lib.count (strB l).data.toList [32] = _
    rw [Lib.count_one]
    simp [strB]
  have h2 : Lib.splitK [32] 0 (l.count 32) l = splitW l := splitK_is _ l rfl
  rw [hc] at h1 ⊢
  have e3 : (⟨#[32]⟩ : ByteArray).data.toList = [32] := rfl
  have e4 : (strB l).data.toList = l := by simp [strB]
  rw [e3, e4, h2] at h1
  rw [← h1, List.map_map]
  have : (strB ∘ fun b : ByteArray => b.data.toList) = id := by funext b; exact str_data b
  rw [this, List.map_id]
theorem splitW_count (l : List UInt8) : (splitW l).length = Lib.countB (strB l) ⟨#[32]⟩ + 1 := by
  have h := Lib.splitB_all ⟨#[32]⟩ (by decide) 0 _ (strB l) rfl
  rw [splitB_is, List.length_map] at h
  exact h

/-! ### The library's calls -/
theorem sindex_any (s : ByteArray) (w : World) : Calls Tryz.prog 94 #[.string s, .string ⟨#[32]⟩] w fun e w' => e = .returned (.int .i64 (Lib.indexB s ⟨#[32]⟩)) ∧ w' = w := by
  have H := keepHid (Tryz.stringslite_Index_one s 32 w)
  have e : Lib.indexB s ⟨#[32]⟩ = Lib.indexByte s.data.toList 32 := Lib.index_one s.data.toList 32
  rw [e]
  generalize Lib.indexByte s.data.toList 32 = k at *
  clear e
  go_enter Tryz.func94, Tryz.ntmps94
  go_wp2_with (refine H.out.mono ?_; rintro e w' ⟨rfl, rfl⟩)
  go_ret
  exact ⟨rfl, rfl⟩
theorem scount_any (s : ByteArray) (w : World) : Calls Tryz.prog 93 #[.string s, .string ⟨#[32]⟩] w fun e w' => e = .returned (.int .i64 (Lib.countB s ⟨#[32]⟩ : Nat)) ∧ w' = w := by
  refine (Any.strings_Count_one { Tryz.lays146 with } s 32 w).mono fun e w' ⟨he, hw⟩ => ⟨?_, hw⟩
  rw [he]
  show _ = Ending.returned (Value.int .i64 ((Lib.count s.data.toList [32] : Nat) : Int))
  rw [Lib.count_one]
  rfl
/-- The cells of a line's words. -/
def wordC (l : List UInt8) : Array Value := ((splitW l).map fun x => Value.string (strB x)).toArray
theorem gsplit_any (l : List UInt8) (hl : l.length < 4294967281) (w : World) :
    Calls Tryz.prog 81 #[.string (strB l), .string ⟨#[32]⟩, .int .i64 0, .int .i64 (-1)] w fun e w' =>
      e = .returned (.slice (some ⟨w.heap.size, 0, none⟩) (splitW l).length (splitW l).length) ∧ w' = w.alloc (.cells (wordC l) 9) := by
  have hle := Lib.countB_le ⟨#[32]⟩ (by decide) (strB l).size (strB l) (Nat.le_refl _)
  have hlen := Lib.splitB_all ⟨#[32]⟩ (by decide) 0 _ (strB l) rfl
  have c := Any.strings_genSplit_core { Tryz.lays146 with } (by kernel_rfl) (strB l) ⟨#[32]⟩ 0 (-1) (Lib.countB (strB l) ⟨#[32]⟩ + 1) w (by rw [strB_size]; exact hl) (by decide) (Nat.zero_le _)
    (fun x c _ => sindex_any x _) (scount_any (strB l) w) (by decide) (by decide) (by rw [if_pos (by decide)]; omega)
  rw [Nat.add_sub_cancel, hlen] at c
  refine c.mono fun e w' ⟨h1, h2⟩ => ⟨?_, ?_⟩
  · rw [h1, splitW_count]
  · rw [h2]
    congr 2
    have e2 : Lib.cellsOf (Lib.splitB ⟨#[32]⟩ 0 (Lib.countB (strB l) ⟨#[32]⟩) (strB l)) (Lib.countB (strB l) ⟨#[32]⟩ + 1) = ((Lib.splitB ⟨#[32]⟩ 0 (Lib.countB (strB l) ⟨#[32]⟩) (strB l)).map Value.string).toArray := by rw [← hlen]; exact Lib.cellsOf_full _
    rw [e2, splitB_is, List.map_map]
    rfl
theorem split_any (l : List UInt8) (hl : l.length < 4294967281) (w : World) :
    Calls Tryz.prog 67 #[.string (strB l), .string ⟨#[32]⟩] w fun e w' =>
      e = .returned (.slice (some ⟨w.heap.size, 0, none⟩) (splitW l).length (splitW l).length) ∧ Blk w' w.heap.size 9 (wordC l) ∧ Below w.heap.size w w' := by
  have C := keepHid (gsplit_any l hl w)
  clear hl
  generalize strB l = S at *
  go_enter Tryz.func67, Tryz.ntmps67
  go_wp2_with (refine C.out.mono ?_; rintro e w' ⟨rfl, hw⟩; have HW := keepHid hw; clear hw)
  go_ret
  exact ⟨rfl, by rw [HW.out]; exact Blk.new w _ _, by rw [HW.out]; exact (Below.refl _ _).alloc (Nat.le_refl _) _⟩
end Go.Proofs.YtonloefjhofeeaaGreatDoor
