/-
  A receiver that a law made, and rows that live beside it.
-/
import Derived.Test.YtjdjbdedfohfbaaDoorReceiverAwake
import Derived.Test.YtjdjbdedfohfbaaDoorBlockData
namespace Go.Proofs.YtjdjbdedfohfbaaDoor
open Go.RowKit
set_option linter.unusedVariables false

/-- A receiver made by the call itself. -/
structure RAt (w0 : World) (G : Nat) (O : Nat → Prop) (crc cl : Bool) (W : Nat) (s : Rd) (w : World) : Prop where
  mem : ∃ B, Rcv w B G O crc cl W s
  ge : ∀ i, O i → w0.heap.size ≤ i
  bel : Below w0.heap.size w0 w
theorem RAt.g {w0 w : World} {G W : Nat} {O : Nat → Prop} {crc cl : Bool} {s : Rd} (h : RAt w0 G O crc cl W s w) : O G := by obtain ⟨_, h⟩ := h.mem; exact h.g
theorem RAt.lt {w0 w : World} {G W : Nat} {O : Nat → Prop} {crc cl : Bool} {s : Rd} (h : RAt w0 G O crc cl W s w) : ∀ i, O i → i < w.heap.size := by obtain ⟨_, h⟩ := h.mem; exact h.lt
theorem RAt.below {w0 w w' : World} {G W : Nat} {O : Nat → Prop} {crc cl : Bool} {s : Rd} (h : RAt w0 G O crc cl W s w) (hb : Below w.heap.size w w') : RAt w0 G O crc cl W s w' :=
  ⟨by obtain ⟨_, k⟩ := h.mem; exact ⟨_, k.below hb⟩, h.ge, h.bel.trans (hb.mono h.bel.size)⟩
/-- What turns nothing of the receiver's, and nothing that was there before. -/
theorem RAt.turns {S : Nat → Prop} {w0 w w' : World} {G W : Nat} {O : Nat → Prop} {crc cl : Bool} {s : Rd} (h : RAt w0 G O crc cl W s w) (ht : Turn S w w') (hS : ∀ i, S i → ¬ O i ∧ w0.heap.size ≤ i) : RAt w0 G O crc cl W s w' :=
  ⟨by obtain ⟨_, k⟩ := h.mem; exact ⟨_, k.turns ht (fun i hi hs => (hS i hs).1 hi)⟩, h.ge, h.bel.trans (ht.below (fun i hi => (hS i hi).2) h.bel.size)⟩
/-- Bytes that lie apart from the receiver. -/
structure Lies (w : World) (O : Nat → Prop) (A : Option Addr) (n : Nat) (b : List UInt8) : Prop where
  bys : Bys w w.heap.size A n b
  ap : Apart O A n
theorem Lies.below {w w' : World} {O : Nat → Prop} {A : Option Addr} {n : Nat} {b : List UInt8} (h : Lies w O A n b) (hb : Below w.heap.size w w') : Lies w' O A n b := ⟨(h.bys.below hb).more hb.size, h.ap⟩
theorem Lies.drew {w : World} {O : Nat → Prop} {A : Option Addr} {n : Nat} {b : List UInt8} (h : Lies w O A n b) : Lies w.drew O A n b := ⟨h.bys, h.ap⟩
theorem Lies.none_ (w : World) (O : Nat → Prop) : Lies w O none 0 [] := ⟨Bys.none_, Apart.zero _ _⟩
theorem Lies.str {w : World} {O : Nat → Prop} {A : Option Addr} {n : Nat} {b : List UInt8} (h : Lies w O A n b) (c : Nat) : (convert 27 9 (.slice A n c)).run Tryd.prog w = .ok (.string (strB b)) w :=
  run_str 27 5 9 Tryd.underlying27 Tryd.underlying5 Tryd.underlying9 h.bys
theorem Lies.head {w : World} {O : Nat → Prop} {A : Option Addr} {n : Nat} {b : List UInt8} (h : Lies w O A n b) {k : Nat} (hk : k ≤ n) : Lies w O A k (b.take k) := ⟨h.bys.head hk, fun h0 => h.ap (by omega)⟩
theorem Lies.cut {w : World} {O : Nat → Prop} {A : Option Addr} {n : Nat} {b : List UInt8} (h : Lies w O A n b) {k cap : Nat} (hk : k ≤ n) (hc : n ≤ cap) : Lies w O (if cap = k then A else A.map (·.add k)) (n - k) (b.drop k) := by
  refine ⟨h.bys.cut hk hc, fun h0 ad e => ?_⟩
  rw [if_neg (by omega)] at e
  cases A with
  | none => cases e
  | some a0 =>
    obtain rfl := Option.some.inj e
    show ¬ O (a0.add k).block
    rw [ad_block]
    exact h.ap (by omega) a0 rfl
/-- A row just made. -/
theorem RAt.lies {w0 w w' : World} {G W n c : Nat} {O : Nat → Prop} {crc cl : Bool} {s : Rd} {A : Option Addr} {b : List UInt8} (h : RAt w0 G O crc cl W s w) (ho : OwnB w' w.heap.size 5 (.slice A n c) n b) (hc : n ≤ c) (hm : c ≤ 9223372036854775807) : Lies w' O A n b :=
  ⟨ho.bys (by omega), apart_own ho h.lt⟩
/-- A literal's row. -/
theorem RAt.lit {w0 w : World} {G W : Nat} {O : Nat → Prop} {crc cl : Bool} {s : Rd} (h : RAt w0 G O crc cl W s w) (b : List UInt8) (n : Nat) (hn : b.length = n) (hm : n ≤ 1000000) (cs : Array Value) (hcs : cs = byteVals b) (g : Nat) (hg : g = w.heap.size) :
    Lies (w.alloc (.cells cs 5)) O (some ⟨g, 0, none⟩) n b := by
  refine ⟨(bys_new w _ b n hn (by unfold maxLen; omega) cs hcs g hg).more (by rw [hg]; simp), fun _ ad e hh => ?_⟩
  obtain rfl := Option.some.inj e
  have := h.lt _ hh
  simp only at this
  omega
theorem RAt.alloc {w0 w : World} {G W : Nat} {O : Nat → Prop} {crc cl : Bool} {s : Rd} (h : RAt w0 G O crc cl W s w) (o : Obj) : RAt w0 G O crc cl W s (w.alloc o) := h.below ((Below.refl _ _).alloc (Nat.le_refl _) _)
theorem RAt.drew {w0 w : World} {G W : Nat} {O : Nat → Prop} {crc cl : Bool} {s : Rd} (h : RAt w0 G O crc cl W s w) : RAt w0 G O crc cl W s w.drew := h.below (Below.drew (Below.refl _ _))
/-- What a call of a law's receiver leaves. -/
def AtPost (w0 : World) (G : Nat) (O : Nat → Prop) (crc cl : Bool) (W : Nat) (r : List UInt8 × Rd) (w : World) (e : Ending) (w' : World) : Prop :=
  ∃ A c O', e = .returned (.slice A r.1.length c) ∧ RAt w0 G O' crc cl W r.2 w' ∧ Lies w' O' A r.1.length r.1 ∧ (∀ A n b, Lies w O A n b → Lies w' O' A n b) ∧ r.1.length ≤ c ∧ c ≤ 9223372036854775807
theorem AtPost.of {w0 w w' : World} {B G W : Nat} {O : Nat → Prop} {crc cl : Bool} {s : Rd} {r : List UInt8 × Rd} {e : Ending} (hat : RAt w0 G O crc cl W s w) (h : RPost B G O crc cl W r w e w') : AtPost w0 G O crc cl W r w e w' := by
  obtain ⟨A, c, O', e1, e2, e3, e4, e5, e6, e7, e8⟩ := h
  have hge : ∀ i, O' i → w0.heap.size ≤ i := fun i hi => by
    rcases e7 i hi with h | h
    · exact hat.ge i h
    · exact Nat.le_trans hat.bel.size h
  refine ⟨A, c, O', e1, ⟨⟨B, e6⟩, hge, hat.bel.trans (e5.below hat.ge hat.bel.size)⟩, ⟨e2.bys (by omega), e8⟩, fun A2 n b hl => ?_, e3, e4⟩
  refine ⟨(hl.bys.turn e5 (Nat.le_refl _) hl.ap).more e5.size, fun hn ad ea hh => ?_⟩
  rcases e7 _ hh with h | h
  · exact hl.ap hn ad ea h
  · obtain ⟨ad', _, ea', hlt, _⟩ := hl.bys.at_ hn
    rw [ea] at ea'
    obtain rfl := Option.some.inj ea'
    omega
theorem put_at {w0 w : World} {G W : Nat} {O : Nat → Prop} {crc cl : Bool} {s : Rd} (h : RAt w0 G O crc cl W s w) (A : Option Addr) (n c : Nat) (b : List UInt8) (hb : Lies w O A n b) (hn : s.da.length ≤ 1000000) (hbl : -1000000 ≤ s.bl) (hbm : s.bu.length + n ≤ 1000000) :
    Calls Tryd.prog 13 #[.pointer (some ⟨G, 0, none⟩), .slice A n c] w (AtPost w0 G O crc cl W (putR crc cl W s b) w) := by
  obtain ⟨B, k⟩ := h.mem
  exact (put_rcv k A n c w.heap.size b hb.bys (Nat.le_refl _) (fun h0 ad e hh => hb.ap h0 ad e (by rw [hh]; exact k.g)) (by omega) (by omega) (by omega)).mono fun _ _ h2 => AtPost.of h h2
theorem tick_at {w0 w : World} {G W : Nat} {O : Nat → Prop} {crc cl : Bool} {s : Rd} (h : RAt w0 G O crc cl W s w) :
    Calls Tryd.prog 7 #[.pointer (some ⟨G, 0, none⟩)] w (AtPost w0 G O crc cl W (tickR crc W s) w) := by
  obtain ⟨B, k⟩ := h.mem
  exact (tick_rcv k).mono fun _ _ h2 => AtPost.of h h2
theorem done_at {w0 w : World} {G W : Nat} {O : Nat → Prop} {crc cl : Bool} {s : Rd} (h : RAt w0 G O crc cl W s w) :
    Calls Tryd.prog 8 #[.pointer (some ⟨G, 0, none⟩)] w fun e w' => e = .returned (.tuple #[.bool s.ov, errV s.er]) ∧ w' = w.drew := by
  obtain ⟨B, k⟩ := h.mem
  exact done_rcv k
/-- A row that a call made. -/
def RowPost (w0 : World) (G : Nat) (O : Nat → Prop) (crc cl : Bool) (W : Nat) (s : Rd) (d : List UInt8) (w : World) (e : Ending) (w' : World) : Prop :=
  ∃ A c, e = .returned (.slice A d.length c) ∧ RAt w0 G O crc cl W s w' ∧ Lies w' O A d.length d ∧ Below w.heap.size w w' ∧ d.length ≤ c ∧ c ≤ 9223372036854775807
theorem data_at {w0 w : World} {G W : Nat} {O : Nat → Prop} {crc cl : Bool} {s : Rd} (h : RAt w0 G O crc cl W s w) (hn : s.da.length ≤ 1000000) :
    Calls Tryd.prog 10 #[.pointer (some ⟨G, 0, none⟩)] w (RowPost w0 G O crc cl W s s.da w) := by
  obtain ⟨B, k⟩ := h.mem
  refine (data_rcv k (by omega)).mono ?_
  rintro e w' ⟨A, c, rfl, ho, h1, h2, hb⟩
  exact ⟨A, c, rfl, h.below hb, h.lies ho h1 h2, hb, h1, h2⟩
theorem of_at (z1 z2 : Int) (number : UInt8) (crc cl : Bool) (many : Int) (w0 w : World) (hm : many ≤ 9223372036854775807) (hb : Below w0.heap.size w0 w) :
    Calls Tryd.prog 6 #[.agg #[.int .i64 z1, .int .i64 z2], .int .u8 (number.toNat : Int), .bool crc, .bool cl, .int .i64 many] w fun e w' => ∃ G O, e = .returned (.pointer (some ⟨G, 0, none⟩)) ∧ RAt w0 G O crc cl (capZ z2 99) (newR number many (capZ z1 9)) w' ∧ Below w.heap.size w w' := by
  refine (of_rcv z1 z2 number crc cl many w hm).mono ?_
  rintro e w' ⟨G, rfl, hg, hr, hb'⟩
  exact ⟨G, _, rfl, ⟨⟨_, hr⟩, fun i hi => by rw [hi]; exact Nat.le_trans hb.size hg, hb.trans (hb'.mono hb.size)⟩, hb'⟩
/-- The law's data, and a block of them. -/
theorem dat_at {w0 w : World} {G W : Nat} {O : Nat → Prop} {crc cl : Bool} {s : Rd} (h : RAt w0 G O crc cl W s w) (A : Option Addr) (n c : Nat) (b : List UInt8) (long : Bool) (hy : Bys w0 w0.heap.size A n b) :
    Calls Tryd.prog 12 #[.slice A n c, .bool long] w (RowPost w0 G O crc cl W s (dat b (longN long)) w) := by
  refine (data_any A n c w0.heap.size b long w (hy.below h.bel) h.bel.size).mono ?_
  rintro e w' ⟨A', c', rfl, ho, h1, h2, hb⟩
  exact ⟨A', c', rfl, h.below hb, h.lies ho h1 h2, hb, h1, h2⟩
theorem make_at' {w0 w : World} {G W : Nat} {O : Nat → Prop} {crc cl : Bool} {s : Rd} (h : RAt w0 G O crc cl W s w) (num : UInt8) (A : Option Addr) (n c : Nat) (d : List UInt8) (crc' : Bool) (hn : n = 128 ∨ n = 1024) (hy : Lies w O A n d) :
    Calls Tryd.prog 11 #[.agg #[.int .u8 (num.toNat : Int), .slice A n c], .bool crc'] w fun e w' => ∃ A' c', e = .returned (.tuple #[.slice A' (enc num d crc').length c', .bool true]) ∧ RAt w0 G O crc cl W s w' ∧ Lies w' O A' (enc num d crc').length (enc num d crc') ∧ Below w.heap.size w w' ∧ (enc num d crc').length ≤ c' ∧ c' ≤ 9223372036854775807 := by
  refine (make_any num A n c w.heap.size d crc' hn w hy.bys (Nat.le_refl _)).mono ?_
  rintro e w' ⟨A', c', rfl, ho, h1, h2, hb⟩
  exact ⟨A', c', rfl, h.below hb, h.lies ho h1 h2, hb, h1, h2⟩
theorem dat_len' (b : List UInt8) (long : Bool) : (dat b (longN long)).length = 128 ∨ (dat b (longN long)).length = 1024 := by
  rw [dat_len]
  rcases longN_or long with h | h
  · exact .inl h
  · exact .inr h
end Go.Proofs.YtjdjbdedfohfbaaDoor
