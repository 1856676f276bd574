/-
  A sender and a receiver of files whom nobody answers, in memory.
-/
import Derived.Test.YtgdjopiejmdbnaaGreatDoorBatchAwake
import Derived.Test.YtgdjopiejmdbnaaGreatDoorBatchEnds
namespace Go.Proofs.YtgdjopiejmdbnaaGreatDoor
open Go.RowKit
set_option linter.unusedVariables false

theorem aloneS_succ {φ : Type} {p : BP φ} (k : Nat) (b : Bs) : aloneS p (k + 1) b = (tickBS p (aloneS p k b)).2 := by rw [aloneS_add k 1]; rfl
theorem aloneR_succ {φ : Type} {p : BP φ} (k : Nat) (b : Br φ) : aloneR p (k + 1) b = (tickBR p (aloneR p k b)).2 := by rw [aloneR_add k 1]; rfl
/-- What is fixed. -/
structure AFix (p : BP Fl) (w0 : World) (Lb Hb B : Nat) (z1 z2 : Int) : Prop where
  rd : Rdr p
  l : w0.heap.size ≤ Lb
  lh : Lb ≤ Hb
  h : Hb ≤ B
  t1 : 1 ≤ p.T
  t9 : p.T ≤ 9
  w1 : 1 ≤ p.W
  w99 : p.W ≤ 99
/-- Both behind i and j ticks. -/
structure Aln (p : BP Fl) (w0 : World) (Lb Hb G1 B G2 : Nat) (z1 z2 : Int) (i j : Nat) (w : World) : Prop where
  fix : AFix p w0 Lb Hb B z1 z2
  sn : Bsn w Lb Hb G1 p (aloneS p i (newBS p))
  rc : ∃ O, Brv w B G2 O p z1 z2 (aloneR p j (newBR p))
  rb : Rb 0 0 0 (aloneR p j (newBR p)).r
  std : Std w0 w
section
variable {p : BP Fl} {w0 w w' : World} {Lb Hb G1 B G2 : Nat} {z1 z2 : Int} {i j : Nat}
theorem Aln.below (h : Aln p w0 Lb Hb G1 B G2 z1 z2 i j w) (hb : Below w.heap.size w w') : Aln p w0 Lb Hb G1 B G2 z1 z2 i j w' := by
  obtain ⟨O, hr⟩ := h.rc
  exact ⟨h.fix, h.sn.below hb, ⟨O, hr.below hb⟩, h.rb, h.std.below hb⟩
theorem Aln.tickS (h : Aln p w0 Lb Hb G1 B G2 z1 z2 i j w) :
    Calls Tryz.prog 23 #[.pointer (some ⟨G1, 0, none⟩)] w fun e w' => ∃ A n c, e = .returned (.slice A n c) ∧ Aln p w0 Lb Hb G1 B G2 z1 z2 (i + 1) j w' := by
  refine (btick_any h.sn).mono ?_
  rintro e w' ⟨A, c, rfl, ho, h1, h2, ht, hs⟩
  obtain ⟨O, hr⟩ := h.rc
  have hf := h.fix
  exact ⟨A, _, c, rfl, hf, by rw [aloneS_succ]; exact hs, ⟨O, hr.turns ht (fun x hx hh => by have := hr.ge x hx; have := hf.h; omega)⟩, h.rb, h.std.turn ht (fun x hx => Nat.le_trans hf.l hx.1)⟩
theorem Aln.tickR (h : Aln p w0 Lb Hb G1 B G2 z1 z2 i j w) :
    Calls Tryz.prog 29 #[.pointer (some ⟨G2, 0, none⟩)] w fun e w' => ∃ A n c, e = .returned (.slice A n c) ∧ Aln p w0 Lb Hb G1 B G2 z1 z2 i (j + 1) w' := by
  obtain ⟨O, hr⟩ := h.rc
  have hf := h.fix
  have hB : w0.heap.size ≤ B := Nat.le_trans hf.l (Nat.le_trans hf.lh hf.h)
  refine (brtick_any hf.rd hr h.std hB (by have := (h.rb.tick true p.W).da; omega)).mono ?_
  rintro e w' ⟨A, c, O', rfl, ho, h1, h2, ht, hr', hO, hA⟩
  have hge := hr.ge
  exact ⟨A, _, c, rfl, hf, h.sn.turns ht (fun x hx => Nat.le_trans hf.h (hge x hx)), ⟨O', by rw [aloneR_succ]; exact hr'⟩, by rw [aloneR_succ]; exact rb_tick h.rb, h.std.turn ht (fun x hx => Nat.le_trans hB (hge x hx))⟩
/-- Both have given up. -/
theorem Aln.sdone (h : Aln p w0 Lb Hb G1 B G2 z1 z2 893 893 w) :
    Calls Tryz.prog 15 #[.pointer (some ⟨G1, 0, none⟩)] w fun e w' => e = .returned (.tuple #[.bool true, .iface 71 (.int .i64 10)]) ∧ w' = w.drew ∧ Aln p w0 Lb Hb G1 B G2 z1 z2 893 893 w' := by
  have hf := h.fix
  have ha := (alone_both (p := p) hf.t1 hf.t9 hf.w1 hf.w99 (N := 893) (by decide)).1
  refine (bdone_any h.sn).mono ?_
  rintro e w' ⟨rfl, rfl⟩
  rw [ha.1, ha.2]
  exact ⟨rfl, rfl, h.below (Below.drew (Below.refl _ _))⟩
theorem Aln.rdone (h : Aln p w0 Lb Hb G1 B G2 z1 z2 893 893 w) :
    Calls Tryz.prog 16 #[.pointer (some ⟨G2, 0, none⟩)] w fun e w' => e = .returned (.tuple #[.bool true, .iface 71 (.int .i64 10)]) ∧ w' = w.drew ∧ Aln p w0 Lb Hb G1 B G2 z1 z2 893 893 w' := by
  have hf := h.fix
  have ha := (alone_both (p := p) hf.t1 hf.t9 hf.w1 hf.w99 (N := 893) (by decide)).2
  obtain ⟨O, hr⟩ := h.rc
  refine (brdone_any hr).mono ?_
  rintro e w' ⟨rfl, rfl⟩
  rw [ha.1, ha.2.1]
  exact ⟨rfl, rfl, h.below (Below.drew (Below.refl _ _))⟩
theorem Aln.data (h : Aln p w0 Lb Hb G1 B G2 z1 z2 893 893 w) :
    Calls Tryz.prog 18 #[.pointer (some ⟨G2, 0, none⟩)] w fun e w' => ∃ A c, e = .returned (.slice A 0 c) ∧ Below w.heap.size w w' ∧ Aln p w0 Lb Hb G1 B G2 z1 z2 893 893 w' := by
  have hf := h.fix
  have ha := (alone_both (p := p) hf.t1 hf.t9 hf.w1 hf.w99 (N := 893) (by decide)).2
  obtain ⟨O, hr⟩ := h.rc
  refine (brdata_any hr).mono ?_
  rintro e w' ⟨A, c, rfl, _, _, _, hb⟩
  rw [ha.2.2.2]
  exact ⟨A, c, rfl, hb, h.below hb⟩
theorem Aln.file (h : Aln p w0 Lb Hb G1 B G2 z1 z2 893 893 w) :
    Calls Tryz.prog 17 #[.pointer (some ⟨G2, 0, none⟩)] w fun e w' => e = .returned (.agg #[.string ⟨#[]⟩, .int .i64 0, .int .i64 0, .int .i64 0]) ∧ Below w.heap.size w w' := by
  have hf := h.fix
  have ha := (alone_both (p := p) hf.t1 hf.t9 hf.w1 hf.w99 (N := 893) (by decide)).2
  obtain ⟨O, hr⟩ := h.rc
  refine (brfile_any hr).mono ?_
  rintro e w' ⟨rfl, hb⟩
  rw [ha.2.2.1]
  exact ⟨rfl, hb⟩
end
theorem Two.aln {w0 w : World} {f : Fl} {bs : List UInt8} {z1 z2 : Int} {G1 G2 : Nat} (h : Two w0 f bs z1 z2 G1 G2 w) : ∃ p Lb Hb B, Aln p w0 Lb Hb G1 B G2 z1 z2 0 0 w := by
  obtain ⟨⟨Lb, Hb, B, p, O, g, hr, hp, t1, t9, w1, w99, hs, hrv, hcw⟩, hS, hm, hz⟩ := h
  exact ⟨p, Lb, Hb, B, ⟨hr, g.l, g.lh, g.h, t1, t9, w1, w99⟩, hs, ⟨O, hrv⟩, rb_new _ _ _ _ _, hS⟩
end Go.Proofs.YtgdjopiejmdbnaaGreatDoor
