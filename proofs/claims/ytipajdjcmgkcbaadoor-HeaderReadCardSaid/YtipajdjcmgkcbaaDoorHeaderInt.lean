/-
  What 'ParseInt' and 'value' make of a text, in base 8 and 10.
-/
import Derived.Test.YtipajdjcmgkcbaaDoorHeaderTen
import Derived.WalkKit
import Derived.ProofKit
import Derived.WalkLawsBesides
import Derived.IntWalk
import Derived.RegionTactic
import Derived.BigRegion
import Derived.ChangeAlike
import Derived.Deep.QuietTactic
import Derived.BigQuiet
import Derived.Deep.RegionHeld3
import Derived.Deep.DrawnRows
import Derived.Outline
namespace Go.Proofs.YtipajdjcmgkcbaaDoor
open Go.RowKit
set_option linter.unusedVariables false

theorem valL_lt {b : Nat} : ∀ (l : List UInt8) (acc n : Nat), valL b l acc = some n → acc < 9223372036854775808 → n < 9223372036854775808
  | [], acc, n, h, ha => by rw [valL] at h; have := Option.some.inj h; omega
  | c :: r, acc, n, h, _ => by
    obtain ⟨_, _, h3, h4⟩ := valL_cons h
    exact valL_lt r _ n h4 h3
theorem good_lt {b : Nat} {bs : List UInt8} {n : Nat} (h : Good b bs n) : n < 9223372036854775808 := valL_lt bs 0 n h.2 (by omega)
theorem good_head {b : Nat} {c : UInt8} {r : List UInt8} {n : Nat} (h : Good b (c :: r) n) : 48 ≤ c.toNat := (valL_cons h.2).1
theorem run_drop1 (c : UInt8) (r : List UInt8) (W : World) : (Instr.slice 9 (.string (strB (c :: r))) (some (.int .i64 1)) none none).run Tryd.prog W = .ok (.string (strB r)) W := by
  rw [run_slice_string_l W 9 (strB (c :: r)) Tryd.underlying9 .i64 1 (by omega) (by rw [strB_size]; simp; omega)]
  have h := strB_drop (c :: r) 1
  rw [strB_size]
  show Result.ok (Value.string ((strB (c :: r)).extract 1 _)) W = _
  rw [h]; rfl

/-- What the library's reading of a number answers. -/
def IPost (b : Nat) (bs : List UInt8) (w : World) (e : Ending) (w' : World) : Prop :=
  ((∃ v : Int, e = .returned (.tuple #[.int .i64 v, .nilIface]) ∧ -9223372036854775808 ≤ v ∧ v ≤ 9223372036854775807 ∧ ∀ n, Good b bs n → v = (n : Int)) ∨
   (∃ v k : Int, e = .returned (.tuple #[.int .i64 v, .iface 73 (.int .i64 k)]) ∧ (k = 1 ∨ k = 2) ∧ ∀ n, ¬ Good b bs n)) ∧ Below w.heap.size w w'
theorem neq11 (W : World) : (binOp .neq 53 (.iface 73 (.int .i64 1)) (.iface 73 (.int .i64 1))).run Tryd.prog W = .ok (.bool false) W := Lib.run_neq_iface_int W 1 1 Tryd.underlying53 (by kernel_rfl) Tryd.underlying73
theorem neq21 (W : World) : (binOp .neq 53 (.iface 73 (.int .i64 2)) (.iface 73 (.int .i64 1))).run Tryd.prog W = .ok (.bool true) W := Lib.run_neq_iface_int W 2 1 Tryd.underlying53 (by kernel_rfl) Tryd.underlying73

set_option maxHeartbeats 32000000 in
set_option maxRecDepth 100000 in
theorem parseInt8_any (bs : List UInt8) (hl : bs.length ≤ 65536) (w : World) :
    Calls Tryd.prog 38 #[.string (strB bs), .int .i64 8, .int .i64 64] w (IPost 8 bs w) := by
  have q11 := neq11
  have q21 := neq21
  rcases bs with _ | ⟨c, r⟩
  · have hemp : (strB []).toList.isEmpty = true := by rw [strB_toList]; rfl
    go_enter Tryd.func38, Tryd.ntmps38
    go_wp2
    go_ret2
    exact ⟨.inr ⟨0, 2, rfl, .inr rfl, fun n h => h.1 rfl⟩, Below.refl _ _⟩
  · have hdrop := run_drop1 c r
    have HHEAD : Hid (∀ n, Good 8 (c :: r) n → 48 ≤ c.toNat) := keepHid fun n hn => good_head hn
    have hlr : r.length + 1 ≤ 65536 := by simpa using hl
    obtain ⟨bs, hbs⟩ : ∃ bs, c :: r = bs := ⟨_, rfl⟩
    have hemp : (strB (c :: r)).toList.isEmpty = false := by rw [strB_toList]; rfl
    have hidx := fun w => run_idx (l := c :: r) (k := 0) (c := c) rfl 0 rfl w
    rw [hbs] at hdrop HHEAD hl hemp hidx ⊢
    clear hbs
    obtain ⟨x, hx⟩ : ∃ x, c.toNat = x := ⟨_, rfl⟩
    have hx256 : x < 256 := by rw [← hx]; exact c.toNat_lt
    rw [hx] at HHEAD hidx
    clear hx
    by_cases hp : x = 43
    · subst hp
      have HSIGN : Hid (∀ n, ¬ Good 8 bs n) := keepHid fun n hn => by have := HHEAD.out n hn; omega
      clear HHEAD
      go_enter Tryd.func38, Tryd.ntmps38
      go_wp2_with fail
      refine (parseUint8_any r (by omega) _).mono ?_
      rintro e w1 ⟨⟨u, rfl, u0, u1, hgood⟩ | ⟨u, k, rfl, hk, hno⟩, hb⟩
      · have HB := keepHid hb
        have HG := keepHid hgood
        clear hb hgood
        by_cases hu : 9223372036854775808 ≤ u
        · have HNO : Hid (∀ n, ¬ Good 8 bs n) := keepHid HSIGN.out
          go_wp2
          go_ret2
          exact ⟨.inr ⟨_, 1, rfl, .inl rfl, HNO.out⟩, HB.out⟩
        · have HYES : Hid (∀ n, Good 8 bs n → u = (n : Int)) := keepHid fun n hn => absurd hn (HSIGN.out n)
          have hlt : u < 9223372036854775808 := by omega
          have hwr : IntKind.i64.wrap u = u := by rw [IntKind.wrap_i64]; omega
          go_wp2
          go_ret2
          exact ⟨.inl ⟨_, rfl, by omega, by omega, HYES.out⟩, HB.out⟩
      · have HB := keepHid hb
        have HNO : Hid (∀ n, ¬ Good 8 bs n) := keepHid (HSIGN.out)
        clear hb hno
        rcases hk with ⟨rfl, rfl⟩ | ⟨rfl, rfl⟩
        · go_wp2
          go_ret2
          exact ⟨.inr ⟨_, 1, rfl, .inl rfl, HNO.out⟩, HB.out⟩
        · go_wp2
          go_ret2
          exact ⟨.inr ⟨0, 2, rfl, .inr rfl, HNO.out⟩, HB.out⟩
    · by_cases hm : x = 45
      · subst hm
        have HSIGN : Hid (∀ n, ¬ Good 8 bs n) := keepHid fun n hn => by have := HHEAD.out n hn; omega
        clear HHEAD
        go_enter Tryd.func38, Tryd.ntmps38
        go_wp2_with fail
        refine (parseUint8_any r (by omega) _).mono ?_
        rintro e w1 ⟨⟨u, rfl, u0, u1, hgood⟩ | ⟨u, k, rfl, hk, hno⟩, hb⟩
        · have HB := keepHid hb
          have HG := keepHid hgood
          clear hb hgood
          by_cases hu : 9223372036854775808 < u
          · have HNO : Hid (∀ n, ¬ Good 8 bs n) := keepHid HSIGN.out
            go_wp2
            go_ret2
            exact ⟨.inr ⟨_, 1, rfl, .inl rfl, HNO.out⟩, HB.out⟩
          · have HYES : Hid (∀ (v : Int) n, Good 8 bs n → v = (n : Int)) := keepHid fun v n hn => absurd hn (HSIGN.out n)
            have hle : u ≤ 9223372036854775808 := by omega
            go_wp2
            go_ret2
            exact ⟨.inl ⟨_, rfl, by unfold wrap64; omega, by unfold wrap64; omega, HYES.out _⟩, HB.out⟩
        · have HB := keepHid hb
          have HNO : Hid (∀ n, ¬ Good 8 bs n) := keepHid (HSIGN.out)
          clear hb hno
          rcases hk with ⟨rfl, rfl⟩ | ⟨rfl, rfl⟩
          · go_wp2
            go_ret2
            exact ⟨.inr ⟨_, 1, rfl, .inl rfl, HNO.out⟩, HB.out⟩
          · go_wp2
            go_ret2
            exact ⟨.inr ⟨0, 2, rfl, .inr rfl, HNO.out⟩, HB.out⟩
      · have n43 : ((x : Int) == 43) = false := by simp; omega
        have n45 : ((x : Int) == 45) = false := by simp; omega
        clear HHEAD
        go_enter Tryd.func38, Tryd.ntmps38
        go_wp2_with fail
        refine (parseUint8_any bs (by omega) _).mono ?_
        rintro e w1 ⟨⟨u, rfl, u0, u1, hgood⟩ | ⟨u, k, rfl, hk, hno⟩, hb⟩
        · have HB := keepHid hb
          have HG := keepHid hgood
          clear hb hgood
          by_cases hu : 9223372036854775808 ≤ u
          · have HNO : Hid (∀ n, ¬ Good 8 bs n) := keepHid fun n hn => by have h1 := HG.out n hn; have h2 := good_lt hn; omega
            go_wp2
            go_ret2
            exact ⟨.inr ⟨_, 1, rfl, .inl rfl, HNO.out⟩, HB.out⟩
          · have HYES : Hid (∀ n, Good 8 bs n → u = (n : Int)) := keepHid HG.out
            have hlt : u < 9223372036854775808 := by omega
            have hwr : IntKind.i64.wrap u = u := by rw [IntKind.wrap_i64]; omega
            go_wp2
            go_ret2
            exact ⟨.inl ⟨_, rfl, by omega, by omega, HYES.out⟩, HB.out⟩
        · have HB := keepHid hb
          have HNO : Hid (∀ n, ¬ Good 8 bs n) := keepHid (hno)
          clear hb hno
          rcases hk with ⟨rfl, rfl⟩ | ⟨rfl, rfl⟩
          · go_wp2
            go_ret2
            exact ⟨.inr ⟨_, 1, rfl, .inl rfl, HNO.out⟩, HB.out⟩
          · go_wp2
            go_ret2
            exact ⟨.inr ⟨0, 2, rfl, .inr rfl, HNO.out⟩, HB.out⟩

set_option maxHeartbeats 32000000 in
set_option maxRecDepth 100000 in
theorem parseInt10_any (bs : List UInt8) (hl : bs.length ≤ 65536) (w : World) :
    Calls Tryd.prog 38 #[.string (strB bs), .int .i64 10, .int .i64 64] w (IPost 10 bs w) := by
  have q11 := neq11
  have q21 := neq21
  rcases bs with _ | ⟨c, r⟩
  · have hemp : (strB []).toList.isEmpty = true := by rw [strB_toList]; rfl
    go_enter Tryd.func38, Tryd.ntmps38
    go_wp2
    go_ret2
    exact ⟨.inr ⟨0, 2, rfl, .inr rfl, fun n h => h.1 rfl⟩, Below.refl _ _⟩
  · have hdrop := run_drop1 c r
    have HHEAD : Hid (∀ n, Good 10 (c :: r) n → 48 ≤ c.toNat) := keepHid fun n hn => good_head hn
    have hlr : r.length + 1 ≤ 65536 := by simpa using hl
    obtain ⟨bs, hbs⟩ : ∃ bs, c :: r = bs := ⟨_, rfl⟩
    have hemp : (strB (c :: r)).toList.isEmpty = false := by rw [strB_toList]; rfl
    have hidx := fun w => run_idx (l := c :: r) (k := 0) (c := c) rfl 0 rfl w
    rw [hbs] at hdrop HHEAD hl hemp hidx ⊢
    clear hbs
    obtain ⟨x, hx⟩ : ∃ x, c.toNat = x := ⟨_, rfl⟩
    have hx256 : x < 256 := by rw [← hx]; exact c.toNat_lt
    rw [hx] at HHEAD hidx
    clear hx
    by_cases hp : x = 43
    · subst hp
      have HSIGN : Hid (∀ n, ¬ Good 10 bs n) := keepHid fun n hn => by have := HHEAD.out n hn; omega
      clear HHEAD
      go_enter Tryd.func38, Tryd.ntmps38
      go_wp2_with fail
      refine (parseUint10_any r (by omega) _).mono ?_
      rintro e w1 ⟨⟨u, rfl, u0, u1, hgood⟩ | ⟨u, k, rfl, hk, hno⟩, hb⟩
      · have HB := keepHid hb
        have HG := keepHid hgood
        clear hb hgood
        by_cases hu : 9223372036854775808 ≤ u
        · have HNO : Hid (∀ n, ¬ Good 10 bs n) := keepHid HSIGN.out
          go_wp2
          go_ret2
          exact ⟨.inr ⟨_, 1, rfl, .inl rfl, HNO.out⟩, HB.out⟩
        · have HYES : Hid (∀ n, Good 10 bs n → u = (n : Int)) := keepHid fun n hn => absurd hn (HSIGN.out n)
          have hlt : u < 9223372036854775808 := by omega
          have hwr : IntKind.i64.wrap u = u := by rw [IntKind.wrap_i64]; omega
          go_wp2
          go_ret2
          exact ⟨.inl ⟨_, rfl, by omega, by omega, HYES.out⟩, HB.out⟩
      · have HB := keepHid hb
        have HNO : Hid (∀ n, ¬ Good 10 bs n) := keepHid (HSIGN.out)
        clear hb hno
        rcases hk with ⟨rfl, rfl⟩ | ⟨rfl, rfl⟩
        · go_wp2
          go_ret2
          exact ⟨.inr ⟨_, 1, rfl, .inl rfl, HNO.out⟩, HB.out⟩
        · go_wp2
          go_ret2
          exact ⟨.inr ⟨0, 2, rfl, .inr rfl, HNO.out⟩, HB.out⟩
    · by_cases hm : x = 45
      · subst hm
        have HSIGN : Hid (∀ n, ¬ Good 10 bs n) := keepHid fun n hn => by have := HHEAD.out n hn; omega
        clear HHEAD
        go_enter Tryd.func38, Tryd.ntmps38
        go_wp2_with fail
        refine (parseUint10_any r (by omega) _).mono ?_
        rintro e w1 ⟨⟨u, rfl, u0, u1, hgood⟩ | ⟨u, k, rfl, hk, hno⟩, hb⟩
        · have HB := keepHid hb
          have HG := keepHid hgood
          clear hb hgood
          by_cases hu : 9223372036854775808 < u
          · have HNO : Hid (∀ n, ¬ Good 10 bs n) := keepHid HSIGN.out
            go_wp2
            go_ret2
            exact ⟨.inr ⟨_, 1, rfl, .inl rfl, HNO.out⟩, HB.out⟩
          · have HYES : Hid (∀ (v : Int) n, Good 10 bs n → v = (n : Int)) := keepHid fun v n hn => absurd hn (HSIGN.out n)
            have hle : u ≤ 9223372036854775808 := by omega
            go_wp2
            go_ret2
            exact ⟨.inl ⟨_, rfl, by unfold wrap64; omega, by unfold wrap64; omega, HYES.out _⟩, HB.out⟩
        · have HB := keepHid hb
          have HNO : Hid (∀ n, ¬ Good 10 bs n) := keepHid (HSIGN.out)
          clear hb hno
          rcases hk with ⟨rfl, rfl⟩ | ⟨rfl, rfl⟩
          · go_wp2
            go_ret2
            exact ⟨.inr ⟨_, 1, rfl, .inl rfl, HNO.out⟩, HB.out⟩
          · go_wp2
            go_ret2
            exact ⟨.inr ⟨0, 2, rfl, .inr rfl, HNO.out⟩, HB.out⟩
      · have n43 : ((x : Int) == 43) = false := by simp; omega
        have n45 : ((x : Int) == 45) = false := by simp; omega
        clear HHEAD
        go_enter Tryd.func38, Tryd.ntmps38
        go_wp2_with fail
        refine (parseUint10_any bs (by omega) _).mono ?_
        rintro e w1 ⟨⟨u, rfl, u0, u1, hgood⟩ | ⟨u, k, rfl, hk, hno⟩, hb⟩
        · have HB := keepHid hb
          have HG := keepHid hgood
          clear hb hgood
          by_cases hu : 9223372036854775808 ≤ u
          · have HNO : Hid (∀ n, ¬ Good 10 bs n) := keepHid fun n hn => by have h1 := HG.out n hn; have h2 := good_lt hn; omega
            go_wp2
            go_ret2
            exact ⟨.inr ⟨_, 1, rfl, .inl rfl, HNO.out⟩, HB.out⟩
          · have HYES : Hid (∀ n, Good 10 bs n → u = (n : Int)) := keepHid HG.out
            have hlt : u < 9223372036854775808 := by omega
            have hwr : IntKind.i64.wrap u = u := by rw [IntKind.wrap_i64]; omega
            go_wp2
            go_ret2
            exact ⟨.inl ⟨_, rfl, by omega, by omega, HYES.out⟩, HB.out⟩
        · have HB := keepHid hb
          have HNO : Hid (∀ n, ¬ Good 10 bs n) := keepHid (hno)
          clear hb hno
          rcases hk with ⟨rfl, rfl⟩ | ⟨rfl, rfl⟩
          · go_wp2
            go_ret2
            exact ⟨.inr ⟨_, 1, rfl, .inl rfl, HNO.out⟩, HB.out⟩
          · go_wp2
            go_ret2
            exact ⟨.inr ⟨0, 2, rfl, .inr rfl, HNO.out⟩, HB.out⟩

/-! ### The public one, and 'value' -/
def PPost (b : Nat) (bs : List UInt8) (w : World) (e : Ending) (w' : World) : Prop :=
  ((∃ v : Int, e = .returned (.tuple #[.int .i64 v, .nilIface]) ∧ -9223372036854775808 ≤ v ∧ v ≤ 9223372036854775807 ∧ ∀ n, Good b bs n → v = (n : Int)) ∨
   (∃ (v : Int) (te : TypeId) (pe : Value), e = .returned (.tuple #[.int .i64 v, .iface te pe]) ∧ ∀ n, ¬ Good b bs n)) ∧ Below w.heap.size w w'
def VPost (b : Nat) (bs : List UInt8) (w : World) (e : Ending) (w' : World) : Prop :=
  (∃ v : Int, e = .returned (.int .i64 v) ∧ -9223372036854775808 ≤ v ∧ v ≤ 9223372036854775807 ∧ ∀ n, Good b bs n → v = (n : Int)) ∧ Below w.heap.size w w'

set_option maxHeartbeats 4000000 in
theorem pubInt8_any (bs : List UInt8) (hl : bs.length ≤ 65536) (w : World) (hE : Errs w) :
    Calls Tryd.prog 32 #[.string (strB bs), .int .i64 8, .int .i64 64] w (PPost 8 bs w) := by
  have HE := keepHid hE
  clear hE
  go_enter Tryd.func32, Tryd.ntmps32
  go_wp2_with fail
  refine (parseInt8_any bs hl _).mono ?_
  rintro e w1 ⟨⟨v, rfl, v0, v1, hgood⟩ | ⟨v, k, rfl, hk, hno⟩, hb⟩
  · have HB := keepHid hb
    have HG := keepHid hgood
    clear hb hgood
    go_wp2
    go_ret2
    exact ⟨.inl ⟨v, rfl, v0, v1, HG.out⟩, HB.out⟩
  · have HB := keepHid hb
    have HNO := keepHid hno
    obtain ⟨⟨te, pe, h2⟩, tr, pr, h3⟩ := HE.out.below hb (Nat.le_refl _)
    clear hb hno
    have hlim : (strB bs).size ≤ 281474976710656 := by rw [strB_size]; omega
    rcases hk with rfl | rfl
    · go_wp2_with fail
      refine (Tryd.strconv_toError_range _ _ _ _ _ _ hlim h3 (.inr ⟨_, _, rfl⟩)).mono ?_
      rintro e w2 ⟨N, rfl, _, _, hb2⟩
      have HB2 := keepHid (HB.out.trans (hb2.mono HB.out.size))
      clear hb2
      go_wp2
      go_ret2
      exact ⟨.inr ⟨v, _, _, rfl, HNO.out⟩, HB2.out⟩
    · go_wp2_with fail
      refine (Tryd.strconv_toError_syntax _ _ _ _ _ _ hlim h2 (.inr ⟨_, _, rfl⟩)).mono ?_
      rintro e w2 ⟨N, rfl, _, _, hb2⟩
      have HB2 := keepHid (HB.out.trans (hb2.mono HB.out.size))
      clear hb2
      go_wp2
      go_ret2
      exact ⟨.inr ⟨v, _, _, rfl, HNO.out⟩, HB2.out⟩
theorem value8_any (bs : List UInt8) (hl : bs.length ≤ 65536) (w : World) (hE : Errs w) :
    Calls Tryd.prog 29 #[.string (strB bs), .int .i64 8] w (VPost 8 bs w) := by
  have HE := keepHid hE
  clear hE
  go_enter Tryd.func29, Tryd.ntmps29
  go_wp2_with fail
  refine (pubInt8_any bs hl _ HE.out).mono ?_
  rintro e w1 ⟨⟨v, rfl, v0, v1, hgood⟩ | ⟨v, te, pe, rfl, hno⟩, hb⟩
  · have HB := keepHid hb
    have HG := keepHid hgood
    clear hb hgood
    go_wp2
    go_ret
    exact ⟨⟨v, rfl, v0, v1, HG.out⟩, HB.out⟩
  · have HB := keepHid hb
    have HNO := keepHid hno
    clear hb hno
    go_wp2
    go_ret
    exact ⟨⟨0, rfl, by omega, by omega, fun n hn => absurd hn (HNO.out n)⟩, HB.out⟩

set_option maxHeartbeats 4000000 in
theorem pubInt10_any (bs : List UInt8) (hl : bs.length ≤ 65536) (w : World) (hE : Errs w) :
    Calls Tryd.prog 32 #[.string (strB bs), .int .i64 10, .int .i64 64] w (PPost 10 bs w) := by
  have HE := keepHid hE
  clear hE
  go_enter Tryd.func32, Tryd.ntmps32
  go_wp2_with fail
  refine (parseInt10_any bs hl _).mono ?_
  rintro e w1 ⟨⟨v, rfl, v0, v1, hgood⟩ | ⟨v, k, rfl, hk, hno⟩, hb⟩
  · have HB := keepHid hb
    have HG := keepHid hgood
    clear hb hgood
    go_wp2
    go_ret2
    exact ⟨.inl ⟨v, rfl, v0, v1, HG.out⟩, HB.out⟩
  · have HB := keepHid hb
    have HNO := keepHid hno
    obtain ⟨⟨te, pe, h2⟩, tr, pr, h3⟩ := HE.out.below hb (Nat.le_refl _)
    clear hb hno
    have hlim : (strB bs).size ≤ 281474976710656 := by rw [strB_size]; omega
    rcases hk with rfl | rfl
    · go_wp2_with fail
      refine (Tryd.strconv_toError_range _ _ _ _ _ _ hlim h3 (.inr ⟨_, _, rfl⟩)).mono ?_
      rintro e w2 ⟨N, rfl, _, _, hb2⟩
      have HB2 := keepHid (HB.out.trans (hb2.mono HB.out.size))
      clear hb2
      go_wp2
      go_ret2
      exact ⟨.inr ⟨v, _, _, rfl, HNO.out⟩, HB2.out⟩
    · go_wp2_with fail
      refine (Tryd.strconv_toError_syntax _ _ _ _ _ _ hlim h2 (.inr ⟨_, _, rfl⟩)).mono ?_
      rintro e w2 ⟨N, rfl, _, _, hb2⟩
      have HB2 := keepHid (HB.out.trans (hb2.mono HB.out.size))
      clear hb2
      go_wp2
      go_ret2
      exact ⟨.inr ⟨v, _, _, rfl, HNO.out⟩, HB2.out⟩
theorem value10_any (bs : List UInt8) (hl : bs.length ≤ 65536) (w : World) (hE : Errs w) :
    Calls Tryd.prog 29 #[.string (strB bs), .int .i64 10] w (VPost 10 bs w) := by
  have HE := keepHid hE
  clear hE
  go_enter Tryd.func29, Tryd.ntmps29
  go_wp2_with fail
  refine (pubInt10_any bs hl _ HE.out).mono ?_
  rintro e w1 ⟨⟨v, rfl, v0, v1, hgood⟩ | ⟨v, te, pe, rfl, hno⟩, hb⟩
  · have HB := keepHid hb
    have HG := keepHid hgood
    clear hb hgood
    go_wp2
    go_ret
    exact ⟨⟨v, rfl, v0, v1, HG.out⟩, HB.out⟩
  · have HB := keepHid hb
    have HNO := keepHid hno
    clear hb hno
    go_wp2
    go_ret
    exact ⟨⟨0, rfl, by omega, by omega, fun n hn => absurd hn (HNO.out n)⟩, HB.out⟩
end Go.Proofs.YtipajdjcmgkcbaaDoor
