/-
  Plain facts that every stage uses: a slice of bytes that reads as a list; folds over what has been gone over; worlds that only grow.
-/
import Derived.Below
import Derived.Calls
import Derived.Deep.Draws
import Derived.Laws.OwnMore
import Derived.Laws.Rows
import Derived.Lib.SlBytesConst
namespace Go.Proofs.YtonloefjhofeeaaGreatDoor
open Go.RowKit

theorem keepHid {p : Prop} (h : p) : Hid p := h

theorem ad_block (a : Addr) (n : Nat) : (a.add n).block = a.block := by unfold Addr.add; split <;> rfl
theorem ad_add (a : Addr) (i j : Nat) : (a.add i).add j = a.add (i + j) := by
  unfold Addr.add
  by_cases hi : i = 0 <;> by_cases hj : j = 0 <;> simp [hi, hj, Nat.add_assoc]

/-- The slice value '.slice A n _' holds the bytes 'bs' in the world w; where it has any they lie below block B. -/
def Bys (w : World) (B : Nat) (A : Option Addr) (n : Nat) (bs : List UInt8) : Prop :=
  bs.length = n ∧ n ≤ maxLen ∧ ∀ k c, bs[k]? = some c → ∃ ad, A = some ad ∧ ad.block < B ∧ w.cell? (ad.add k) = some (.int .u8 (c.toNat : Int))

namespace Bys
variable {w w' : World} {B B' n : Nat} {A : Option Addr} {bs : List UInt8}
theorem none_ : Bys w B A 0 [] := ⟨rfl, Nat.zero_le _, fun k c h => by simp at h⟩
theorem len (h : Bys w B A n bs) : bs.length = n := h.1
theorem max (h : Bys w B A n bs) : n ≤ 9223372036854775807 := by have := h.2.1; unfold maxLen at this; exact this
theorem at_ {k : Nat} (h : Bys w B A n bs) (hk : k < n) : ∃ ad c, A = some ad ∧ ad.block < B ∧ bs[k]? = some c ∧ w.cell? (ad.add k) = some (.int .u8 (c.toNat : Int)) := by
  have hl : k < bs.length := by have := h.1; omega
  obtain ⟨ad, e, hb, hc⟩ := h.2.2 k _ (List.getElem?_eq_getElem hl)
  exact ⟨ad, _, e, hb, List.getElem?_eq_getElem hl, hc⟩
theorem keep (h : Bys w B A n bs) (hk : ∀ p : Addr, p.block < B → w'.cell? p = w.cell? p) : Bys w' B A n bs :=
  ⟨h.1, h.2.1, fun k c hc => by
    obtain ⟨ad, e, hb, hcell⟩ := h.2.2 k c hc
    exact ⟨ad, e, hb, (hk _ (by rw [ad_block]; exact hb)).trans hcell⟩⟩
theorem more (h : Bys w B A n bs) (hB : B ≤ B') : Bys w B' A n bs :=
  ⟨h.1, h.2.1, fun k c hc => by
    obtain ⟨ad, e, hb, hcell⟩ := h.2.2 k c hc
    exact ⟨ad, e, Nat.lt_of_lt_of_le hb hB, hcell⟩⟩
theorem below (h : Bys w B A n bs) (hb : Below B w w') : Bys w' B A n bs := h.keep fun _ hp => hb.cell hp
theorem drew (h : Bys w B A n bs) : Bys w.drew B A n bs := h
theorem drewN (h : Bys w B A n bs) (k : Nat) : Bys (w.drewN k) B A n bs := h
theorem alloc (h : Bys w B A n bs) (hB : B ≤ w.heap.size) (o : Obj) : Bys (w.alloc o) B A n bs := h.keep fun p hp => World.cell?_alloc_lt w o p (by omega)
theorem setCell (h : Bys w B A n bs) {p : Addr} (hB : B ≤ p.block) (u : Value) : Bys (w.setCell p u) B A n bs :=
  h.keep fun q hq => World.cell?_setCell_other w p q u (fun e => by subst e; omega)
/-- 's[k:]'. -/
theorem cut (h : Bys w B A n bs) {k cap : Nat} (hk : k ≤ n) (hc : n ≤ cap) :
    Bys w B (if cap = k then A else A.map (·.add k)) (n - k) (bs.drop k) := by
  refine ⟨by rw [List.length_drop, h.1], by have := h.2.1; omega, fun j c hj => ?_⟩
  rw [List.getElem?_drop] at hj
  obtain ⟨ad, rfl, hb, hcell⟩ := h.2.2 _ c hj
  have hlt : k + j < bs.length := by
    rcases Nat.lt_or_ge (k + j) bs.length with hl | hl
    · exact hl
    · rw [List.getElem?_eq_none hl] at hj; cases hj
  have := h.1
  rw [if_neg (by omega)]
  exact ⟨ad.add k, rfl, by rw [ad_block]; exact hb, by rw [ad_add]; exact hcell⟩
/-- 's[:k]'. -/
theorem head (h : Bys w B A n bs) {k : Nat} (hk : k ≤ n) : Bys w B A k (bs.take k) := by
  refine ⟨by rw [List.length_take, h.1]; omega, by have := h.2.1; omega, fun j c hj => ?_⟩
  have hjk : j < k := by
    rcases Nat.lt_or_ge j k with hl | hl
    · exact hl
    · rw [List.getElem?_eq_none (by rw [List.length_take]; omega)] at hj; cases hj
  rw [List.getElem?_take_of_lt hjk] at hj
  exact h.2.2 j c hj
end Bys

/-- A row of integers of kind u8 that came in, as the frame's 'IsRow' says it, is bytes. -/
theorem bys_of_ints {w : World} {x : Addr} {len cap : Nat} {zs : List Int} (hl : len ≤ cap) (hm : cap ≤ maxLen) (hz : zs.length = cap)
    (hc : ∀ i, i < zs.length → w.cell? (x.add i) = some (.int .u8 (zs.getD i 0))) (hw : ∀ n ∈ zs, (Lit.int .u8 n).wf = true) :
    Bys w w.heap.size (some x) len ((zs.take len).map fun n => UInt8.ofNat n.toNat) := by
  refine ⟨by rw [List.length_map, List.length_take]; omega, by omega, fun k c hk => ?_⟩
  rw [List.getElem?_map] at hk
  obtain ⟨z, hz1, rfl⟩ := Option.map_eq_some_iff.1 hk
  have hkl : k < len := by
    rcases Nat.lt_or_ge k len with h | h
    · exact h
    · rw [List.getElem?_eq_none (by rw [List.length_take]; omega)] at hz1; cases hz1
  rw [List.getElem?_take_of_lt hkl] at hz1
  have hlt : k < zs.length := by omega
  have hg : zs.getD k 0 = z := by simp [List.getD, hz1]
  have hcell := hc k hlt
  rw [hg] at hcell
  have hwf := hw z (List.mem_of_getElem? hz1)
  have hr : 0 ≤ z ∧ z ≤ 255 := by simpa [Lit.wf, IntKind.min, IntKind.max, IntKind.signed, IntKind.bits] using hwf
  have hn : z.toNat % 256 = z.toNat := Nat.mod_eq_of_lt (by omega)
  have : ((UInt8.ofNat z.toNat).toNat : Int) = z := by
    rw [UInt8.toNat_ofNat']
    show ((z.toNat % 256 : Nat) : Int) = z
    rw [hn]; omega
  exact ⟨x, rfl, by have := World.block_lt_of_cell? _ _ hcell; rwa [ad_block] at this, by rw [this]; exact hcell⟩

/-- A literal's bytes, in the block that was just made. -/
def byteVals (bs : List UInt8) : Array Value := (bs.map fun c => Value.int .u8 (c.toNat : Int)).toArray
theorem bys_newm (w : World) (t : TypeId) (bs : List UInt8) (n : Nat) (hn : bs.length = n) (hm : n ≤ maxLen) (cs : Array Value) (hcs : cs = byteVals bs) (fr : Nat × Nat) (g : Nat) (hg : g = w.heap.size) :
    Bys (w.alloc (.cells cs t fr)) (g + 1) (some ⟨g, 0, none⟩) n bs := by
  subst hcs hg
  refine ⟨hn, hm, fun k c hk => ⟨_, rfl, Nat.lt_succ_self _, ?_⟩⟩
  have e : (⟨w.heap.size, 0, none⟩ : Addr).add k = ⟨w.heap.size, k, none⟩ := by unfold Addr.add; split <;> simp_all
  rw [e, World.cell?_alloc_mark]
  simp [byteVals, hk]
theorem bys_new (w : World) (t : TypeId) (bs : List UInt8) (n : Nat) (hn : bs.length = n) (hm : n ≤ maxLen) (cs : Array Value) (hcs : cs = byteVals bs) (g : Nat) (hg : g = w.heap.size) :
    Bys (w.alloc (.cells cs t)) (g + 1) (some ⟨g, 0, none⟩) n bs := bys_newm w t bs n hn hm cs hcs (0, 0) g hg

/-- A byte's value, as a cell holds it. -/
def byteV (c : UInt8) : Value := .int .u8 (c.toNat : Int)
theorem bys_of_own {w : World} {base : Nat} {e : TypeId} {n g cap : Nat} {bs : List UInt8} (h : w.ownsRow base e 1 (.slice (some ⟨g, 0, none⟩) n cap) n (bs.map byteV)) (hm : n ≤ maxLen) :
    Bys w w.heap.size (some ⟨g, 0, none⟩) n bs := by
  have hl := h.1
  refine ⟨by simpa using hl, hm, fun k c hk => ⟨_, rfl, (h.lt g rfl).2, ?_⟩⟩
  exact h.cells rfl k _ (by rw [List.getElem?_map, hk]; rfl)
theorem own_form {w : World} {base : Nat} {e : TypeId} {n : Nat} {v : Value} {xs : List Value} (h : w.ownsRow base e 1 v n xs) (hn : 0 < n) :
    ∃ g cap, v = .slice (some ⟨g, 0, none⟩) n cap ∧ base ≤ g ∧ g < w.heap.size ∧ n ≤ cap ∧ cap ≤ maxLen := by
  rcases h.2 with ⟨_, h0⟩ | ⟨g, cap, cur, rfl, hb, hg, hnc, hcm, _⟩
  · omega
  · exact ⟨g, cap, rfl, hb, (Array.getElem?_eq_some_iff.1 hg).1, hnc, hcm⟩
theorem byteV_one (bs : List UInt8) : ∀ u ∈ bs.map byteV, u.oneCell' = true := by
  intro u hu
  obtain ⟨c, _, rfl⟩ := List.mem_map.1 hu
  rfl

/-- A call that leaves the world alone, in a region that draws its order. -/
theorem quietL {P : Program} {f : FuncId} {args : Array Value} {w : World} {n : Nat} {v : Value}
    (h : Calls P f args (w.drewN n) fun e w' => e = .returned v ∧ w.drewN n = w') : Calls P f args (w.drewN n) fun e w'' => e = .returned v ∧ ∃ m, w'' = w.drewN m :=
  h.mono fun _ _ ⟨he, hm⟩ => ⟨he, n, hm.symm⟩

/-! ### Folds over what has been gone over -/
theorem fold_take {α β : Type} (f : β → α → β) (a : β) (l : List α) (k : Nat) (c : α) (h : l[k]? = some c) :
    (l.take (k + 1)).foldl f a = f ((l.take k).foldl f a) c := by
  have hk : k < l.length := by
    rcases Nat.lt_or_ge k l.length with hl | hl
    · exact hl
    · rw [List.getElem?_eq_none hl] at h; cases h
  rw [List.take_succ_eq_append_getElem hk, List.foldl_append]
  have : l[k] = c := by rw [List.getElem?_eq_getElem hk] at h; exact Option.some.inj h
  simp [this]
theorem u8lt (c : UInt8) : c.toNat < 256 := c.toNat_lt

/-! ### A block that is known whole; a world in which only one block, and what is new, has turned -/
def Blk (w : World) (g : Nat) (t : TypeId) (cs : Array Value) : Prop := w.heap[g]? = some (.cells cs t (0, 0))
namespace Blk
variable {w w' : World} {g : Nat} {t : TypeId} {cs : Array Value}
theorem lt (h : Blk w g t cs) : g < w.heap.size := by
  rcases Nat.lt_or_ge g w.heap.size with hlt | hge
  · exact hlt
  · unfold Blk at h; rw [Array.getElem?_eq_none hge] at h; cases h
theorem cell (h : Blk w g t cs) (i : Nat) : w.cell? ⟨g, i, none⟩ = cs[i]? := cell_of_row w g i cs t (0, 0) h
theorem frozen (h : Blk w g t cs) (i : Nat) : w.frozen? ⟨g, i, none⟩ = false := by
  unfold Blk at h; simp [World.frozen?, h]
theorem new (w : World) (t : TypeId) (cs : Array Value) : Blk (w.alloc (.cells cs t)) w.heap.size t cs := heap_alloc_new w _
theorem drew (h : Blk w g t cs) : Blk w.drew g t cs := h
theorem drewN (h : Blk w g t cs) (n : Nat) : Blk (w.drewN n) g t cs := h
theorem alloc (h : Blk w g t cs) (o : Obj) : Blk (w.alloc o) g t cs := (Below.heap_alloc w o g h.lt).trans h
theorem put (h : Blk w g t cs) (i : Nat) (u : Value) : Blk (w.setCell ⟨g, i, none⟩ u) g t (cs.setIfInBounds i u) := by
  unfold Blk at h ⊢
  simp [World.setCell, Array.getElem?_modify, h]
theorem far (h : Blk w g t cs) {p : Addr} (hp : g ≠ p.block) (u : Value) : Blk (w.setCell p u) g t cs := (Below.heap_setCell w p u g hp).trans h
theorem below {B : Nat} (h : Blk w g t cs) (hb : Below B w w') (hg : g < B) : Blk w' g t cs := (hb.block g hg).trans h
theorem only {row : Option Nat} (h : Blk w g t cs) (hb : w.grownBy w' row) (hg : some g ≠ row) : Blk w' g t cs := (hb.block g h.lt hg).trans h
theorem row (h : Blk w g t cs) (cs' : Array Value) : Blk (w.setRow g cs') g t cs' := setRow_heap w g cs cs' t (0, 0) h
theorem rowFar (h : Blk w g t cs) {g' : Nat} (hne : g ≠ g') (cs' : Array Value) : Blk (w.setRow g' cs') g t cs := (setRow_other w g' g cs' hne).trans h
end Blk
theorem below_row {B g : Nat} {w0 w : World} (hb : Below B w0 w) (hBg : B ≤ g) (cs : Array Value) : Below B w0 (w.setRow g cs) :=
  hb.trans ⟨rfl, rfl, rfl, by simp, fun k hk => setRow_other w g k cs (by omega)⟩

/-- Only block g, and what is new, has turned. -/
def Only (g : Nat) (a w : World) : Prop := a.grownBy w (some g)
namespace Only
variable {a b w w' : World} {g : Nat}
theorem refl (w : World) (g : Nat) : Only g w w := ⟨rfl, rfl, rfl, Nat.le_refl _, fun _ _ _ => rfl⟩
theorem size (h : Only g a w) : a.heap.size ≤ w.heap.size := World.grownBy.size h
theorem trans (h : Only g a b) (k : Only g b w) : Only g a w :=
  ⟨k.os.trans h.os, k.tape.trans h.tape, k.output.trans h.output, Nat.le_trans h.size k.size, fun i hi hne => (k.block i (Nat.lt_of_lt_of_le hi h.size) hne).trans (h.block i hi hne)⟩
theorem drew (h : Only g a w) : Only g a w.drew := ⟨h.os, h.tape, h.output, Only.size (w := w) h, h.block⟩
theorem drewN (h : Only g a w) (n : Nat) : Only g a (w.drewN n) := ⟨h.os, h.tape, h.output, Only.size (w := w) h, h.block⟩
theorem alloc (h : Only g a w) (o : Obj) : Only g a (w.alloc o) :=
  ⟨h.os, h.tape, h.output, Nat.le_trans h.size (by simp), fun i hi hne => (Below.heap_alloc w o i (Nat.lt_of_lt_of_le hi h.size)).trans (h.block i hi hne)⟩
theorem setCell (h : Only g a w) {p : Addr} (hp : p.block = g ∨ a.heap.size ≤ p.block) (u : Value) : Only g a (w.setCell p u) :=
  ⟨h.os, h.tape, h.output, by simpa [World.setCell] using World.grownBy.size h, fun i hi hne => (Below.heap_setCell w p u i (by
    rintro rfl
    rcases hp with hp | hp
    · exact hne (by rw [hp])
    · omega)).trans (h.block i hi hne)⟩
theorem of_below (h : Below a.heap.size a w) : Only g a w := ⟨h.os, h.tape, h.output, h.size, fun i hi _ => h.block i hi⟩
/-- What turned is at or above B: below B all is as it was. -/
theorem below {B : Nat} (h : Only g a w) (hB : B ≤ g) (hs : B ≤ a.heap.size) : Below B a w :=
  ⟨h.os, h.tape, h.output, h.size, fun i hi => h.block i (by omega) (fun e => by injection e; omega)⟩
end Only
theorem Bys.only {w w' : World} {B n g : Nat} {A : Option Addr} {bs : List UInt8} (h : Bys w B A n bs) (ho : Only g w w') (hB : B ≤ g) (hs : B ≤ w.heap.size) : Bys w' B A n bs :=
  h.below (ho.below hB hs)
end Go.Proofs.YtonloefjhofeeaaGreatDoor
