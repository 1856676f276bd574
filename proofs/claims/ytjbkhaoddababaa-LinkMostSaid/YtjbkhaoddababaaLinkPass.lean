/-
  Noise in memory; what arrives of bytes.
-/
import Derived.Test.YtjbkhaoddababaaLinkPlain
import Derived.Test.YtjbkhaoddababaaSmall
namespace Go.Proofs.Ytjbkhaoddababaa
open Go.RowKit
set_option linter.unusedVariables false

/-- A slice of noise, wherever it lies. -/
structure NzS (w : World) (A : Option Addr) (n : Nat) (ns : List Nz) : Prop where
  len : ns.length = n
  max : n ≤ 9223372036854775807
  at_ : ∀ (j : Nat) (z : Nz), ns[j]? = some z → ∃ ad, A = some ad ∧ ad.block < w.heap.size ∧ w.cell? (ad.add (j * 3)) = some (.bool z.lost) ∧ w.cell? (ad.add (j * 3 + 1)) = some (.int .i64 z.at_) ∧ w.cell? (ad.add (j * 3 + 2)) = some (.int .u8 (z.by_.toNat : Int)) ∧
    -9223372036854775808 ≤ z.at_ ∧ z.at_ ≤ 9223372036854775807
theorem NzS.none_ (w : World) : NzS w none 0 [] := ⟨rfl, by omega, fun j z h => by simp at h⟩
/-- Noise lies apart from some blocks. -/
def NzAp (S : Nat → Prop) (A : Option Addr) (n : Nat) : Prop := Apart S A n
theorem NzS.turn {S : Nat → Prop} {w w' : World} {A : Option Addr} {n : Nat} {ns : List Nz} (h : NzS w A n ns) (ht : Turn S w w') (hS : Apart S A n) : NzS w' A n ns :=
  ⟨h.len, h.max, fun j z hz => by
    obtain ⟨ad, e1, e2, e3, e4, e5, e6⟩ := h.at_ j z hz
    have hn : 0 < n := by
      have := (List.getElem?_eq_some_iff.1 hz).1
      have := h.len
      omega
    have hc : ∀ i, w'.cell? (ad.add i) = w.cell? (ad.add i) := fun i => by
      have hb : w'.heap[(ad.add i).block]? = w.heap[(ad.add i).block]? := by rw [ad_block]; exact ht.block _ e2 (hS hn ad e1)
      unfold World.cell?
      rw [hb]
    exact ⟨ad, e1, Nat.lt_of_lt_of_le e2 ht.size, (hc _).trans e3, (hc _).trans e4, (hc _).trans e5, e6⟩⟩
theorem NzS.below {w w' : World} {A : Option Addr} {n : Nat} {ns : List Nz} (h : NzS w A n ns) (hb : Below w.heap.size w w') : NzS w' A n ns := h.turn (S := fun _ => False) (Turn.of_below hb) (fun _ _ _ h => h)

theorem tmod_hit (a : Int) (L : Nat) (hL : 0 < L) : ∃ (t : Int) (i : Nat), (a % (L : Int)).toNat = i ∧ i < L ∧ a.tmod (L : Int) = t ∧ -(L : Int) ≤ t ∧ t < L ∧ ((t < 0 ∧ t + (L : Int) = (i : Int)) ∨ t = (i : Int)) := by
  have h1 := Int.emod_nonneg a (b := (L : Int)) (by omega)
  have h2 := Int.emod_lt_of_pos a (b := (L : Int)) (by omega)
  refine ⟨_, _, rfl, by omega, rfl, ?_⟩
  have h3 : a.tmod (L : Int) = a % (L : Int) ∨ a.tmod (L : Int) = a % (L : Int) - L := by
    rw [Int.tmod_eq_emod]
    split
    · left; omega
    · right; simp
  rcases h3 with h3 | h3 <;> rw [h3] <;> omega
/-- What arrives, in the row that was sent. -/
def PassPost (g : Nat) (y : List UInt8) (w : World) (e : Ending) (w' : World) : Prop :=
  ∃ A c, e = .returned (.slice A y.length c) ∧ Bys w' w'.heap.size A y.length y ∧ (∀ ad, A = some ad → ad.block = g) ∧ Turn (fun b => b = g) w w'
set_option maxRecDepth 100000 in
set_option maxHeartbeats 4000000 in
theorem pass_any {w : World} {base g n c : Nat} {x : List UInt8} (hx : OwnB w base 5 (.slice (some ⟨g, 0, none⟩) n c) n x) (hn : 0 < n) (hn2 : n ≤ 1000000) (A : Option Addr) (m cm : Nat) (ns : List Nz) (hns : NzS w A m ns) (j : Nat) (hj : j ≤ 1000000) :
    Calls Try.prog 29 #[.slice (some ⟨g, 0, none⟩) n c, .slice A m cm, .int .i64 (j : Int)] w (PassPost g (arr ns j x) w) := by
  have hlen := hx.len
  have hm := hns.max
  have hml := hns.len
  have hg : g < w.heap.size := by
    obtain ⟨g', _, e1, _, e2, _⟩ := hx.some_form hn
    obtain rfl : g = g' := by injection e1 with e1; injection e1 with e1; injection e1
    exact e2
  unfold arr
  by_cases hjm : m ≤ j
  · rw [List.getElem?_eq_none (by omega)]
    have HP : Hid (PassPost g x w (.returned (.slice (some ⟨g, 0, none⟩) n c)) w) := keepHid ⟨_, c, by rw [hlen], by rw [hlen]; exact hx.bys (by omega), fun ad e => by obtain rfl := Option.some.inj e; rfl, Turn.refl _ _⟩
    have i1 : (j : Int) ≥ (m : Int) := by omega
    clear hx hlen hns hml hg
    go_enter Try.func29, Try.ntmps29
    go_wp2
    go_ret
    exact HP.out
  · obtain ⟨z, hz⟩ : ∃ z, ns[j]? = some z := ⟨_, List.getElem?_eq_getElem (by omega)⟩
    rw [hz]
    obtain ⟨lost, a, by_⟩ := z
    obtain ⟨ad, rfl, had, c0, c1, c2, ha1, ha2⟩ := hns.at_ j _ hz
    simp only at c0 c1 c2 ha1 ha2
    have e1 : ∀ k, (⟨(ad.add (j * 3)).block, (ad.add (j * 3)).off + k, none⟩ : Addr) = ad.add (j * 3 + k) ∨ k = 0 := fun k => by
      by_cases hk : k = 0
      · exact .inr hk
      · refine .inl ?_
        rw [← ad_add]
        obtain ⟨k', rfl⟩ : ∃ k', k = k' + 1 := ⟨k - 1, by omega⟩
        rw [Addr.add_succ' (ad.add (j * 3)) k']
    have c1' : w.cell? ⟨(ad.add (j * 3)).block, (ad.add (j * 3)).off + 1, none⟩ = some (.int .i64 a) := by
      rcases e1 1 with e | e
      · rw [e]; exact c1
      · omega
    have c2' : w.cell? ⟨(ad.add (j * 3)).block, (ad.add (j * 3)).off + 2, none⟩ = some (.int .u8 (by_.toNat : Int)) := by
      rcases e1 2 with e | e
      · rw [e]; exact c2
      · omega
    have hjm2 : (j : Int) < (m : Int) := by omega
    obtain ⟨w1, hw1⟩ : ∃ w1, w.alloc (.cells #[.bool lost, .int .i64 a, .int .u8 (by_.toNat : Int)] 48) = w1 := ⟨_, rfl⟩
    have hk1 : Blk w1 w.heap.size 48 #[.bool lost, .int .i64 a, .int .u8 (by_.toNat : Int)] := by rw [← hw1]; exact Blk.new w _ _
    have hb1 : Below w.heap.size w w1 := by rw [← hw1]; exact (Below.refl _ _).alloc (Nat.le_refl _) _
    have hx1 : OwnB w1 base 5 (.slice (some ⟨g, 0, none⟩) n c) n x := by rw [← hw1]; exact hx.alloc _
    have d0 : w1.cell? ⟨w.heap.size, 0, none⟩ = some (.bool lost) := hk1.cell 0
    have d1 : w1.cell? ⟨w.heap.size, 1, none⟩ = some (.int .i64 a) := hk1.cell 1
    have d2 : w1.cell? ⟨w.heap.size, 2, none⟩ = some (.int .u8 (by_.toNat : Int)) := hk1.cell 2
    cases lost
    · obtain ⟨t, i, hi, hiL, ht, ht1, ht2, hor⟩ := tmod_hit a n hn
      obtain ⟨b, hb⟩ : ∃ b, x[i]? = some b := ⟨_, List.getElem?_eq_getElem (by omega)⟩
      have hb1' : w1.cell? ⟨g, i, none⟩ = some (.int .u8 (b.toNat : Int)) := hx1.cell hb
      have hf1 : w1.frozen? ⟨g, i, none⟩ = false := hx1.frozen i
      have hzn : ((n : Int) == 0) = false := by simp; omega
      obtain ⟨y, hy⟩ : ∃ y : UInt8, b ^^^ by_ = y := ⟨_, rfl⟩
      have hxor : bits .xor .u8 (b.toNat : Int) (by_.toNat : Int) = (y.toNat : Int) := by rw [xor8 rfl rfl (u8lt b) (u8lt by_), ← hy, UInt8.toNat_xor]
      have hres : hitL x ⟨false, a, by_⟩ = x.set i y := by
        unfold hitL hitI
        simp only [hlen, hi]
        rw [List.getD_eq_getElem?_getD, hb, ← hy]
        rfl
      have HP : Hid (PassPost g (hitL x ⟨false, a, by_⟩) w (.returned (.slice (some ⟨g, 0, none⟩) n c)) (w1.drew.setCell ⟨g, i, none⟩ (.int .u8 (y.toNat : Int)))) := keepHid (by
        have hs := hx1.drew.stored i y
        rw [hres]
        refine ⟨_, c, by rw [List.length_set, hlen], by rw [List.length_set, hlen]; exact hs.bys (by omega), fun ad e => by obtain rfl := Option.some.inj e; rfl, turnAt _ _ ((Turn.refl _ w).trans (Turn.of_below hb1)).drew⟩)
      have hi2 : (i : Int) < (n : Int) := by omega
      have hi0 : ¬ (i : Int) < 0 := by omega
      have hn3 : (n : Int) ≤ 1000000 := by omega
      clear hx hlen hns hml hz hk1 hb1 hx1 hres hi hb hy e1 c1 c2
      show Calls _ _ _ _ (PassPost g (hitL x ⟨false, a, by_⟩) w)
      rcases hor with ⟨h1, h2⟩ | rfl
      · go_enter Try.func29, Try.ntmps29
        go_upto_region 9 with fail
        go_region
        go_wp2
        go_ret
        exact HP.out
      · go_enter Try.func29, Try.ntmps29
        go_upto_region 9 with fail
        go_region
        go_wp2
        go_ret
        exact HP.out
    · have HP : Hid (PassPost g [] w (.returned (.slice none 0 0)) w1) := keepHid ⟨none, 0, rfl, Bys.none_, (fun ad e => by cases e), (Turn.refl _ w).trans (Turn.of_below hb1)⟩
      clear hx hlen hns hml hz hk1 hb1 hx1 e1 c1 c2
      show Calls _ _ _ _ (PassPost g [] w)
      go_enter Try.func29, Try.ntmps29
      go_wp2
      go_ret
      exact HP.out
end Go.Proofs.Ytjbkhaoddababaa
