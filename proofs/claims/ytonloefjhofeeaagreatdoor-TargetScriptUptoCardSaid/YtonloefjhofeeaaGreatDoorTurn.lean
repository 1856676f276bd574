/-
  Worlds in which only some blocks, and what is new, have turned; a circle of bytes, plain.
-/
import Derived.Test.YtonloefjhofeeaaGreatDoorMem
import Derived.Laws.BytesArg
import Derived.Laws.MakeOwn
import Derived.Laws.Concat
namespace Go.Proofs.YtonloefjhofeeaaGreatDoor
open Go.RowKit
set_option linter.unusedVariables false

/-- Only blocks of S, and what is new, have turned. -/
structure Turn (S : Nat → Prop) (a w : World) : Prop where
  os : w.os = a.os
  tape : w.tape = a.tape
  output : w.output = a.output
  size : a.heap.size ≤ w.heap.size
  block : ∀ i, i < a.heap.size → ¬ S i → w.heap[i]? = a.heap[i]?
namespace Turn
variable {S T : Nat → Prop} {a b w w' : World}
theorem refl (S : Nat → Prop) (w : World) : Turn S w w := ⟨rfl, rfl, rfl, Nat.le_refl _, fun _ _ _ => rfl⟩
theorem trans (h : Turn S a b) (k : Turn S b w) : Turn S a w :=
  ⟨k.os.trans h.os, k.tape.trans h.tape, k.output.trans h.output, Nat.le_trans h.size k.size, fun i hi hne => (k.block i (Nat.lt_of_lt_of_le hi h.size) hne).trans (h.block i hi hne)⟩
theorem mono (h : Turn S a w) (hT : ∀ i, S i → T i) : Turn T a w := ⟨h.os, h.tape, h.output, h.size, fun i hi hne => h.block i hi (fun hs => hne (hT i hs))⟩
theorem drew (h : Turn S a w) : Turn S a w.drew := ⟨h.os, h.tape, h.output, Turn.size (w := w) h, h.block⟩
theorem drewN (h : Turn S a w) (n : Nat) : Turn S a (w.drewN n) := ⟨h.os, h.tape, h.output, Turn.size (w := w) h, h.block⟩
theorem alloc (h : Turn S a w) (o : Obj) : Turn S a (w.alloc o) :=
  ⟨h.os, h.tape, h.output, Nat.le_trans h.size (by simp), fun i hi hne => (Below.heap_alloc w o i (Nat.lt_of_lt_of_le hi h.size)).trans (h.block i hi hne)⟩
theorem setCell (h : Turn S a w) {p : Addr} (hp : S p.block ∨ a.heap.size ≤ p.block) (u : Value) : Turn S a (w.setCell p u) :=
  ⟨h.os, h.tape, h.output, by simpa [World.setCell] using h.size, fun i hi hne => (Below.heap_setCell w p u i (by
    rintro rfl
    rcases hp with hp | hp
    · exact hne hp
    · omega)).trans (h.block i hi hne)⟩
theorem of_below (h : Below a.heap.size a w) : Turn S a w := ⟨h.os, h.tape, h.output, h.size, fun i hi _ => h.block i hi⟩
theorem below {B : Nat} (h : Turn S a w) (hB : ∀ i, S i → B ≤ i) (hs : B ≤ a.heap.size) : Below B a w :=
  ⟨h.os, h.tape, h.output, h.size, fun i hi => h.block i (by omega) (fun e => by have := hB i e; omega)⟩
theorem blk {g : Nat} {t : TypeId} {cs : Array Value} (h : Turn S a w) (hb : Blk a g t cs) (hg : ¬ S g) : Blk w g t cs := (h.block g hb.lt hg).trans hb
end Turn

theorem below_drewN {B : Nat} {a w : World} (h : Below B a w) (n : Nat) : Below B a (w.drewN n) := ⟨h.os, h.tape, h.output, h.size, h.block⟩
/-- Where the slice has any bytes they lie in no block of S. -/
def Apart (S : Nat → Prop) (A : Option Addr) (n : Nat) : Prop := 0 < n → ∀ ad, A = some ad → ¬ S ad.block
theorem Apart.zero (S : Nat → Prop) (A : Option Addr) : Apart S A 0 := fun h => absurd h (by omega)
theorem Bys.turn {S : Nat → Prop} {w w' : World} {B n : Nat} {A : Option Addr} {bs : List UInt8} (h : Bys w B A n bs) (ht : Turn S w w') (hB : B ≤ w.heap.size) (hS : Apart S A n) : Bys w' B A n bs :=
  ⟨h.1, h.2.1, fun k c hc => by
    obtain ⟨ad, e, hb, hcell⟩ := h.2.2 k c hc
    have hk : k < bs.length := by
      rcases Nat.lt_or_ge k bs.length with hl | hl
      · exact hl
      · rw [List.getElem?_eq_none hl] at hc; cases hc
    have := h.1
    exact ⟨ad, e, hb, (World.cell?_of_block (ht.block (ad.add k).block (by rw [ad_block]; omega) (by rw [ad_block]; exact hS (by omega) ad e))).trans hcell⟩⟩
theorem Bys.apart {S : Nat → Prop} {w : World} {B n : Nat} {A : Option Addr} {bs : List UInt8} (h : Bys w B A n bs) (hS : ∀ i, S i → B ≤ i) : Apart S A n := fun hn ad e hs => by
  obtain ⟨ad', c, e', hb, _⟩ := h.at_ hn
  rw [e] at e'
  obtain rfl := Option.some.inj e'
  have := hS _ hs
  omega

/-- 'string(b)' of a slice that reads as a list. -/
def strB (bs : List UInt8) : ByteArray := ⟨bs.toArray⟩
theorem strB_size (bs : List UInt8) : (strB bs).size = bs.length := by simp [strB, ByteArray.size]
theorem strB_append (a b : List UInt8) : strB a ++ strB b = strB (a ++ b) := by
  apply ByteArray.ext
  simp [strB, ByteArray.data_append]
theorem strB_take (q : List UInt8) (m : Nat) : (strB q).extract 0 m = strB (q.take m) := by
  apply ByteArray.ext
  simp [strB, ByteArray.data_extract]
theorem strB_drop (q : List UInt8) (m : Nat) : (strB q).extract m q.length = strB (q.drop m) := by
  apply ByteArray.ext
  simp [strB, ByteArray.data_extract]
  exact List.take_of_length_le (by simp)
theorem run_strAdd {P : Program} (a b : List UInt8) (h : a.length + b.length ≤ 9223372036854775807) (w : World) : (Op.stringOp .add (strB a) (strB b)).run P w = .ok (.string (strB (a ++ b))) w := by
  rw [run_string_add_sum w _ _ (by rw [strB_size, strB_size]; exact h), strB_append]
theorem run_str {P : Program} {w : World} {B n c : Nat} {A : Option Addr} {bs : List UInt8} (src e dst : TypeId) (hs : P.underlying src = some (.slice e)) (he : P.underlying e = some (.int .u8)) (hd : P.underlying dst = some .string)
    (h : Bys w B A n bs) : (convert src dst (.slice A n c)).run P w = .ok (.string (strB bs)) w := by
  rcases A with _ | ad
  · have hn : n = 0 := by
      rcases Nat.eq_zero_or_pos n with h0 | h0
      · exact h0
      · obtain ⟨ad, _, e, _⟩ := h.at_ h0
        cases e
    subst hn
    have : bs = [] := List.eq_nil_of_length_eq_zero h.1
    subst this
    rw [run_convert_bytes_nil w src e hs he 0 c dst hd]
    rfl
  · have hl : (loadCells ad n).run P w = .ok ((bs.map fun c => (c.toNat : Int)).map (Value.int .u8)).toArray w := by
      have := run_loadCells_list (P := P) w ad ((bs.map fun c => (c.toNat : Int)).map (Value.int .u8)) (fun j v hj => by
        rw [List.getElem?_map, List.getElem?_map] at hj
        obtain ⟨z, hz, rfl⟩ := Option.map_eq_some_iff.1 hj
        obtain ⟨c, hc, rfl⟩ := Option.map_eq_some_iff.1 hz
        obtain ⟨ad', e, _, hcell⟩ := h.2.2 j c hc
        obtain rfl := Option.some.inj e
        exact hcell)
      simpa [h.1] using this
    rw [run_convert_bytes_string w src dst e _ n c hs he hd, run_bytesToString w _ n c _ hl, foldl_push_bytes]
    have e : ((bs.map fun c => (c.toNat : Int)).map fun n => UInt8.ofNat n.toNat) = bs := by
      rw [List.map_map]
      conv => rhs; rw [← List.map_id bs]
      apply List.map_congr_left
      intro c _
      simp
    rw [e]
    simp [strB, ByteArray.empty, ByteArray.emptyWithCapacity]
    rfl

/-! ### A circle of N places, of which those from f on hold q -/
theorem mod_place {f i N : Nat} (hf : f < N) (hi : i ≤ N) : (f + i) % N = if f + i < N then f + i else f + i - N := by
  split
  · rename_i h; exact Nat.mod_eq_of_lt h
  · rename_i h
    rw [Nat.mod_eq_sub_mod (by omega), Nat.mod_eq_of_lt (by omega)]
theorem place_ne {f i j N : Nat} (hf : f < N) (hi : i < j) (hj : j < N) : (f + i) % N ≠ (f + j) % N := by
  rw [mod_place hf (by omega), mod_place hf (by omega)]
  split <;> split <;> omega
theorem place_lt {f i N : Nat} (hf : f < N) : (f + i) % N < N := Nat.mod_lt _ (by omega)

theorem List.take_succ_of {α : Type} {l : List α} {k : Nat} {c : α} (h : l[k]? = some c) : l.take (k + 1) = l.take k ++ [c] := by
  have hk : k < l.length := by
    rcases Nat.lt_or_ge k l.length with hl | hl
    · exact hl
    · rw [List.getElem?_eq_none hl] at h; cases h
  rw [List.take_succ_eq_append_getElem hk]
  rw [List.getElem?_eq_getElem hk] at h
  rw [Option.some.inj h]
def Holds (f N : Nat) (cs q : List UInt8) : Prop := ∀ i c, q[i]? = some c → cs[(f + i) % N]? = some c
theorem Holds.nil (f N : Nat) (cs : List UInt8) : Holds f N cs [] := fun i c h => by simp at h
theorem Holds.put {f N : Nat} {cs q : List UInt8} (h : Holds f N cs q) (hf : f < N) (hq : q.length < N) (hl : cs.length = N) (c : UInt8) :
    Holds f N (cs.set ((f + q.length) % N) c) (q ++ [c]) := by
  intro i d hd
  have hlt := place_lt (i := q.length) hf
  rcases Nat.lt_trichotomy i q.length with hi | hi | hi
  · rw [List.getElem?_append_left hi] at hd
    rw [List.getElem?_set_ne (Ne.symm (place_ne hf hi hq))]
    exact h i d hd
  · subst hi
    rw [List.getElem?_append_right (Nat.le_refl _)] at hd
    simp at hd
    subst hd
    rw [List.getElem?_set_self (by omega)]
  · rw [List.getElem?_append_right (by omega)] at hd
    have : i - q.length = (i - q.length - 1) + 1 := by omega
    rw [this] at hd
    simp at hd
theorem Holds.drop {f N : Nat} {cs q : List UInt8} (h : Holds f N cs q) (hN : 0 < N) (k : Nat) : Holds ((f + k) % N) N cs (q.drop k) := by
  intro i c hc
  rw [List.getElem?_drop] at hc
  have := h _ _ hc
  rwa [← Nat.add_assoc, ← Nat.mod_add_mod] at this
end Go.Proofs.YtonloefjhofeeaaGreatDoor
