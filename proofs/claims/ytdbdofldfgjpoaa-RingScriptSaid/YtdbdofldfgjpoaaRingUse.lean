/-
  Rings in use: the contracts of package ring as laws walk them, block numbers as letters; the document's examples.
-/
import Derived.Test.YtdbdofldfgjpoaaRingTake
namespace Go.Proofs.Ytdbdofldfgjpoaa
open Go.RowKit
set_option linter.unusedVariables false

/-- The blocks of a ring. -/
def Own (g h : Nat) : Nat → Prop := fun i => i = g ∨ i = h

namespace Ring
variable {w w' : World} {g h N : Nat} {q : List UInt8} {l : Int}
theorem ltg (r : Ring w g h N q l) : g < w.heap.size := by obtain ⟨f, cs, h1, h2, h3, h4, h5, h6, h7, h8⟩ := r; exact Blk.lt h6
theorem lth (r : Ring w g h N q l) : h < w.heap.size := by obtain ⟨f, cs, h1, h2, h3, h4, h5, h6, h7, h8⟩ := r; exact h7.lt
theorem len (r : Ring w g h N q l) : q.length ≤ N := by obtain ⟨f, cs, h1, h2, h3, h4, h5, h6, h7, h8⟩ := r; exact h5
theorem most (r : Ring w g h N q l) : N ≤ 4096 := by obtain ⟨f, cs, h1, h2, h3, h4, h5, h6, h7, h8⟩ := r; exact h3
theorem turn (r : Ring w g h N q l) {S : Nat → Prop} (ht : Turn S w w') (hg : ¬ S g) (hh : ¬ S h) : Ring w' g h N q l := by
  obtain ⟨f, cs, h1, h2, h3, h4, h5, h6, h7, h8⟩ := r
  exact ⟨f, cs, h1, h2, h3, h4, h5, ht.blk h6 hg, ht.blk h7 hh, h8⟩
theorem drew (r : Ring w g h N q l) : Ring w.drew g h N q l := r
theorem drewN (r : Ring w g h N q l) (n : Nat) : Ring (w.drewN n) g h N q l := r
theorem alloc (r : Ring w g h N q l) (o : Obj) : Ring (w.alloc o) g h N q l := r.turn ((Turn.refl (fun _ => False) w).alloc o) id id
theorem setCell (r : Ring w g h N q l) {p : Addr} (hg : ¬ p.block = g) (hh : ¬ p.block = h) (u : Value) : Ring (w.setCell p u) g h N q l :=
  r.turn ((Turn.refl (fun i => i = p.block) w).setCell (.inl rfl) u) (fun e => hg e.symm) (fun e => hh e.symm)
end Ring

def OfPost (w : World) (N : Nat) (e : Ending) (w' : World) : Prop :=
  ∃ g h, e = .returned (.pointer (some ⟨g, 0, none⟩)) ∧ Ring w' g h N [] 0 ∧ w.heap.size ≤ g ∧ w.heap.size ≤ h ∧ Below w.heap.size w w'
theorem of_ring (z : Int) (N : Nat) (hz : OfN z N) (w : World) : Calls Try.prog 10 #[.int .i64 z] w (OfPost w N) :=
  (of_any z N hz w).mono fun e w' ⟨he, hrs, hbk, hb, hs⟩ =>
    ⟨_, _, he, ⟨0, zeros N, by omega, by rcases hz with h | h | h <;> omega, by rcases hz with h | h | h <;> omega, zeros_len N, Nat.zero_le _, hrs, hbk, Holds.nil _ _ _⟩, by omega, Nat.le_refl _, hb⟩

def PutPost (w : World) (g h N : Nat) (q : List UInt8) (l : Int) (m : Nat) (d : Int) (b : List UInt8) (e : Ending) (w' : World) : Prop :=
  e = .returned (.int .i64 (m : Int)) ∧ Ring w' g h N (q ++ b) (lostBy l d) ∧ Turn (Own g h) w w'
theorem put_ring (g h N : Nat) (q : List UInt8) (l : Int) (A : Option Addr) (n c B m : Nat) (bs : List UInt8) (w : World) (hr : Ring w g h N q l) (hb : Bys w B A n bs) (hB : B ≤ w.heap.size) (hc : n ≤ c) (hc2 : c ≤ 9223372036854775807)
    (ha : Apart (Own g h) A n) (hm : (n ≤ N - q.length ∧ m = n) ∨ (N - q.length < n ∧ m = N - q.length)) :
    Calls Try.prog 11 #[.pointer (some ⟨g, 0, none⟩), .slice A n c] w (PutPost w g h N q l m ((n : Int) - (m : Int)) (bs.take m)) :=
  (put_any g h N q l A n c B m bs w hr hb hB hc hc2 ha hm).mono fun e w' hh => hh

def TakePost (w : World) (g h N : Nat) (q : List UInt8) (l : Int) (m : Nat) (e : Ending) (w' : World) : Prop :=
  ∃ t, e = .returned (.slice (some ⟨t, 0, none⟩) m m) ∧ Ring w' g h N (q.drop m) l ∧ Blk w' t 5 (byteVals (q.take m)) ∧ w.heap.size ≤ t ∧ Turn (Own g h) w w'
theorem take_ring (g h N : Nat) (q : List UInt8) (l : Int) (z : Int) (m : Nat) (w : World) (hr : Ring w g h N q l) (hm : (z < 1 ∧ m = 0) ∨ (1 ≤ z ∧ z ≤ q.length ∧ z = (m : Int)) ∨ ((q.length : Int) < z ∧ m = q.length)) :
    Calls Try.prog 12 #[.pointer (some ⟨g, 0, none⟩), .int .i64 z] w (TakePost w g h N q l m) :=
  (take_any g h N q l z m w hr hm).mono fun e w' ⟨he, hr, hb, ht⟩ => ⟨_, he, hr, hb, Nat.le_refl _, ht⟩

theorem len_ring (g h N : Nat) (q : List UInt8) (l : Int) (w : World) (hr : Ring w g h N q l) :
    Calls Try.prog 13 #[.pointer (some ⟨g, 0, none⟩)] w fun e w' => e = .returned (.int .i64 (q.length : Int)) ∧ w = w' := by
  obtain ⟨f, cs, h1, h2, h3, h4, h5, h6, h7, h8⟩ := hr
  exact len_any _ _ _ _ _ _ _ h6
theorem lost_ring (g h N : Nat) (q : List UInt8) (l : Int) (w : World) (hr : Ring w g h N q l) :
    Calls Try.prog 15 #[.pointer (some ⟨g, 0, none⟩)] w fun e w' => e = .returned (.int .i64 l) ∧ w = w' := by
  obtain ⟨f, cs, h1, h2, h3, h4, h5, h6, h7, h8⟩ := hr
  exact lost_any _ _ _ _ _ _ _ h6
theorem room_ring (g h N : Nat) (q : List UInt8) (l : Int) (r : Nat) (hq : q.length + r = N) (w : World) (hr : Ring w g h N q l) :
    Calls Try.prog 14 #[.pointer (some ⟨g, 0, none⟩)] w fun e w' => e = .returned (.int .i64 (r : Int)) ∧ ∃ m, w' = w.drewN m := by
  obtain ⟨f, cs, h1, h2, h3, h4, h5, h6, h7, h8⟩ := hr
  exact room_at _ _ _ _ _ _ _ hq h3 _ h6

theorem lostBy_in {l d : Int} (h1 : -9223372036854775808 ≤ l + d) (h2 : l + d ≤ 9223372036854775807) : lostBy l d = l + d := by unfold lostBy wrap64; omega
theorem bys_of_blk {w : World} {t n : Nat} {ty : TypeId} {bs : List UInt8} (h : Blk w t ty (byteVals bs)) (hn : bs.length = n) (hm : n ≤ 4096) : Bys w (t + 1) (some ⟨t, 0, none⟩) n bs := by
  refine ⟨hn, by unfold maxLen; omega, fun k c hk => ⟨_, rfl, Nat.lt_succ_self _, ?_⟩⟩
  have e : (⟨t, 0, none⟩ : Addr).add k = ⟨t, k, none⟩ := by unfold Addr.add; split <;> simp_all
  rw [e, h.cell]
  simp [byteVals, hk]

theorem awake_any (w : World) :
    Calls Try.prog 9 #[] w fun e w' => e = .returned (.bool true) ∧ Below w.heap.size w w' := by
  have b1 : ∀ (W : World) (g : Nat), g = W.heap.size → Bys (W.alloc (.cells #[.int .u8 1, .int .u8 2] 5)) (g + 1) (some ⟨g, 0, none⟩) 2 [1, 2] := fun W g hg => bys_new W _ [1, 2] 2 rfl (by decide) _ rfl g hg
  have b2 : ∀ (W : World) (g : Nat), g = W.heap.size → Bys (W.alloc (.cells #[.int .u8 3, .int .u8 4] 5)) (g + 1) (some ⟨g, 0, none⟩) 2 [3, 4] := fun W g hg => bys_new W _ [3, 4] 2 rfl (by decide) _ rfl g hg
  have B1 := keepHid b1
  have B2 := keepHid b2
  clear b1 b2
  go_enter Try.func9, Try.ntmps9
  go_wp2_with fail
  refine (of_ring 3 3 (.inr (.inl (by omega))) _).mono ?_
  rintro e w1 ⟨g, h, rfl, hr1, hg, hh, hb1⟩
  have HR1 := keepHid (hr1.alloc (.cells #[.int .u8 1, .int .u8 2] 5))
  have hlg := hr1.ltg
  have hlh := hr1.lth
  have HW1 := keepHid (hb1.alloc hb1.size (.cells #[.int .u8 1, .int .u8 2] 5))
  clear hr1 hb1
  go_wp2_with fail
  refine (put_ring g h 3 [] 0 _ 2 2 _ 2 _ _ HR1.out (B1.out _ _ rfl) (by simp) (by omega) (by omega) (by intro _ ad e; obtain rfl := Option.some.inj e; simp [Own]; omega) (by simp)).mono ?_
  rintro e w2 ⟨rfl, hr2, ht2⟩
  have e2 : lostBy 0 (((2 : Nat) : Int) - ((2 : Nat) : Int)) = 0 := lostBy_in (by omega) (by omega)
  rw [e2] at hr2
  have hs2 := ht2.size
  have HR2 := keepHid (hr2.alloc (.cells #[.int .u8 3, .int .u8 4] 5))
  have hlg2 := hr2.ltg
  have hlh2 := hr2.lth
  have HW2 := keepHid ((HW1.out.trans (ht2.below (B := w.heap.size) (by intro i hi; rcases hi with rfl | rfl <;> assumption) HW1.out.size)))
  clear hr2 ht2 e2
  go_wp2_with fail
  refine (put_ring g h 3 [1, 2] 0 _ 2 2 _ 1 _ _ HR2.out (B2.out _ _ rfl) (by simp) (by omega) (by omega) (by intro _ ad e; obtain rfl := Option.some.inj e; simp [Own]; omega) (by simp)).mono ?_
  rintro e w3 ⟨rfl, hr3, ht3⟩
  have e3 : lostBy 0 (((2 : Nat) : Int) - ((1 : Nat) : Int)) = 1 := lostBy_in (by omega) (by omega)
  rw [e3] at hr3
  have HR3 := keepHid hr3
  have HW3 := keepHid (((HW2.out.alloc HW2.out.size _).trans (ht3.below (B := w.heap.size) (by intro i hi; rcases hi with rfl | rfl <;> assumption) (by have := HW2.out.size; simp; omega))))
  clear hr3 ht3 e3
  go_wp2_with fail
  refine (take_ring g h 3 [1, 2, 3] 1 _ 2 _ HR3.out (by simp)).mono ?_
  rintro e w4 ⟨t, rfl, hr4, hk4, ht, ht4⟩
  have HR4 := keepHid hr4
  have hcv : (convert 27 9 (.slice (some ⟨t, 0, none⟩) 2 2)).run Try.prog w4 = .ok (.string ⟨#[1, 2]⟩) w4 := run_str 27 5 9 Try.underlying27 Try.underlying5 Try.underlying9 (bys_of_blk hk4 (n := 2) rfl (by decide))
  have HW4 := keepHid ((HW3.out.trans (ht4.below (B := w.heap.size) (by intro i hi; rcases hi with rfl | rfl <;> assumption) HW3.out.size)))
  clear hr4 hk4 ht4
  go_wp2_with fail
  refine (lost_ring g h 3 _ 1 _ HR4.out).mono ?_
  rintro e w' ⟨rfl, rfl⟩
  go_wp2_with fail
  refine (len_ring g h 3 _ 1 _ HR4.out).mono ?_
  rintro e w' ⟨rfl, rfl⟩
  go_wp2
  go_ret
  exact ⟨rfl, HW4.out⟩
end Go.Proofs.Ytdbdofldfgjpoaa
