/-
  A deed of bytes, as a law makes it: a block, turned or cut now and then, or any bytes.
-/
import Derived.Test.YtonloefjhofeeaaGreatDoorBlockData
import Derived.Test.YtonloefjhofeeaaGreatDoorSmall
import Derived.Test.YtonloefjhofeeaaGreatDoorBits
import Derived.Deep.DeepCutAuto
import Derived.Deep.RegionWith
import Derived.Handy
import Derived.Test.YtonloefjhofeeaaGreatDoorBoardExec
import Derived.Test.YtonloefjhofeeaaGreatDoorConv
namespace Go.Proofs.YtonloefjhofeeaaGreatDoor
open Go.RowKit
set_option linter.unusedVariables false

/-- A deed: what it is of, a number, bytes, a place, a byte. -/
structure Bka where
  op : Nat
  nb : Nat
  bs : List UInt8
  pl : Nat
  xr : Nat
structure BkaF (a : Bka) : Prop where
  op : a.op ≤ 255
  nb : a.nb ≤ 255
  pl : a.pl ≤ 65535
  xr : a.xr ≤ 255
def numA (a : Bka) (next : UInt8) : UInt8 := if a.nb = 250 then UInt8.ofNat a.pl else if a.nb % 8 = 7 then next - 1 else next
def encA (a : Bka) (next : UInt8) (crc : Bool) : List UInt8 := enc (numA a next) (dat a.bs (longN (decide (a.nb % 5 = 4)))) crc
def xorA (a : Bka) (l : List UInt8) : List UInt8 := if a.op % 8 = 3 then l.set (a.pl % l.length) (UInt8.ofNat ((l.getD (a.pl % l.length) 0).toNat ^^^ a.xr)) else l
def cutA (a : Bka) (l : List UInt8) : List UInt8 := if a.op % 16 = 12 then l.take (a.pl % l.length) else l
def bkB (a : Bka) (next : UInt8) (crc : Bool) : List UInt8 :=
  if a.op % 8 = 0 then [([4, 24, 6, 21, 1] : List UInt8).getD (a.nb % 5) 0]
  else if a.op % 8 = 1 then [24, 24]
  else if a.op % 8 = 2 then a.bs
  else cutA a (xorA a (encA a next crc))
theorem enc_few (num : UInt8) (d : List UInt8) (crc : Bool) (hd : d.length = 128 ∨ d.length = 1024) : 3 ≤ (enc num d crc).length ∧ (enc num d crc).length ≤ 1032 := by
  rw [enc_len]
  have := szT_pos crc
  have : szT crc ≤ 2 := by unfold szT; split <;> omega
  omega
theorem encA_few (a : Bka) (next : UInt8) (crc : Bool) : 3 ≤ (encA a next crc).length ∧ (encA a next crc).length ≤ 1032 := enc_few _ _ _ (by rw [dat_len]; exact longN_or _)
/-- What a deed's bytes are, in memory: the argument's own, or a new row. -/
def BkP (A : Option Addr) (n c : Nat) (bs : List UInt8) (w : World) (e : Ending) (w' : World) : Prop :=
  ∃ A' n' c', e = .returned (.slice A' n' c') ∧ Bys w' w'.heap.size A' n' bs ∧ n' ≤ c' ∧ c' ≤ 9223372036854775807 ∧ Below w.heap.size w w' ∧ ((A' = A ∧ n' = n) ∨ ∀ ad, A' = some ad → w.heap.size ≤ ad.block)
def actV (a : Bka) (A : Option Addr) (n c : Nat) : Value := .agg #[.int .u8 (a.op : Int), .int .u8 (a.nb : Int), .slice A n c, .int .u16 (a.pl : Int), .int .u8 (a.xr : Int)]
theorem bys_blk1 {w : World} {g n : Nat} {bs : List UInt8} {t : TypeId} (h : Blk w g t (byteVals bs)) (hn : bs.length = n) (hm : n ≤ 9223372036854775807) : Bys w (g + 1) (some ⟨g, 0, none⟩) n bs := by
  refine ⟨hn, by unfold maxLen; omega, fun k c hk => ⟨_, rfl, Nat.lt_succ_self _, ?_⟩⟩
  have e : (⟨g, 0, none⟩ : Addr).add k = ⟨g, k, none⟩ := by unfold Addr.add; split <;> simp_all
  rw [e, h.cell]
  unfold byteVals
  simp only [List.getElem?_toArray, List.getElem?_map, hk]
  rfl
theorem five_get {k : Nat} (h : k < 5) : ([4, 24, 6, 21, 1] : List UInt8)[k]? = some (([4, 24, 6, 21, 1] : List UInt8).getD k 0) := by
  rw [List.getD_eq_getElem?_getD, List.getElem?_eq_getElem (by simpa using h)]; rfl
theorem BkP.own {A : Option Addr} {n c L c3 g3 B : Nat} {bs : List UInt8} {w w3 : World} (ho : OwnB w3 B 5 (.slice (some ⟨g3, 0, none⟩) L c3) L bs) (hg : w.heap.size ≤ g3) (h1 : L ≤ c3) (h2 : c3 ≤ 9223372036854775807) (hb : Below w.heap.size w w3) : BkP A n c bs w (.returned (.slice (some ⟨g3, 0, none⟩) L c3)) w3 :=
  ⟨_, L, c3, rfl, ho.bys (by omega), h1, h2, hb, .inr fun ad e => by obtain rfl := Option.some.inj e; exact hg⟩
theorem BkP.cut {A : Option Addr} {n c L c3 g3 j : Nat} {bs : List UInt8} {w w3 : World} (h : BkP A n c bs w (.returned (.slice (some ⟨g3, 0, none⟩) L c3)) w3) (hj : j ≤ L) (hg : w.heap.size ≤ g3) : BkP A n c (bs.take j) w (.returned (.slice (some ⟨g3, 0, none⟩) j c3)) w3 := by
  obtain ⟨A', n', c', e, h1, h2, h3, h4, h5⟩ := h
  injection e with e; injection e with e1 e2 e3
  subst e1 e2 e3
  exact ⟨_, j, c3, rfl, h1.head hj, by omega, h3, h4, .inr fun ad e => by obtain rfl := Option.some.inj e; exact hg⟩
theorem BkP.drew {A : Option Addr} {n c : Nat} {bs : List UInt8} {w w3 : World} {e : Ending} (h : BkP A n c bs w e w3) : BkP A n c bs w e w3.drew := by
  obtain ⟨A', n', c', e, h1, h2, h3, h4, h5⟩ := h
  exact ⟨A', n', c', e, h1.drew, h2, h3, h4.drew, h5⟩
set_option maxRecDepth 100000 in
set_option maxHeartbeats 8000000 in
theorem bk_any (a : Bka) (hF : BkaF a) (next : UInt8) (crc : Bool) (A : Option Addr) (n c : Nat) (w : World) (hy : Bys w w.heap.size A n a.bs) (hc : n ≤ c) (hm : c ≤ 9223372036854775807) :
    Calls Tryz.prog 27 #[actV a A n c, .int .u8 (next.toNat : Int), .bool crc] w (BkP A n c (bkB a next crc) w) := by
  obtain ⟨op, nb, bs, pl, xr⟩ := a
  obtain ⟨f1, f2, f3, f4⟩ := hF
  simp only at f1 f2 f3 f4 hy
  have p1 : (op : Int) ≤ 255 := by omega
  have p2 : (nb : Int) ≤ 255 := by omega
  have p3 : (pl : Int) ≤ 65535 := by omega
  have p4 : (xr : Int) ≤ 255 := by omega
  obtain ⟨w1, hw1⟩ : ∃ w1, w.alloc (.cells #[.int .u8 (op : Int), .int .u8 (nb : Int), .slice A n c, .int .u16 (pl : Int), .int .u8 (xr : Int)] 40) = w1 := ⟨_, rfl⟩
  have hb1 : Below w.heap.size w w1 := by rw [← hw1]; exact (Below.refl _ _).alloc (Nat.le_refl _) _
  have hk1 : Blk w1 w.heap.size 40 #[.int .u8 (op : Int), .int .u8 (nb : Int), .slice A n c, .int .u16 (pl : Int), .int .u8 (xr : Int)] := by rw [← hw1]; exact Blk.new w _ _
  have c0 : w1.cell? ⟨w.heap.size, 0, none⟩ = some (.int .u8 (op : Int)) := hk1.cell 0
  have c1 : w1.cell? ⟨w.heap.size, 1, none⟩ = some (.int .u8 (nb : Int)) := hk1.cell 1
  have c2 : w1.cell? ⟨w.heap.size, 2, none⟩ = some (.slice A n c) := hk1.cell 2
  have c3 : w1.cell? ⟨w.heap.size, 3, none⟩ = some (.int .u16 (pl : Int)) := hk1.cell 3
  have c4 : w1.cell? ⟨w.heap.size, 4, none⟩ = some (.int .u8 (xr : Int)) := hk1.cell 4
  have t8 : Int.tmod (op : Int) 8 = (op : Int) % 8 := Int.tmod_eq_emod_of_nonneg (by omega)
  have t16 : Int.tmod (op : Int) 16 = (op : Int) % 16 := Int.tmod_eq_emod_of_nonneg (by omega)
  have n8 : Int.tmod (nb : Int) 8 = (nb : Int) % 8 := Int.tmod_eq_emod_of_nonneg (by omega)
  have n5 : Int.tmod (nb : Int) 5 = (nb : Int) % 5 := Int.tmod_eq_emod_of_nonneg (by omega)
  have HB1 := keepHid hb1
  have HK1 := keepHid hk1
  have HY1 := keepHid ((hy.below hb1).more hb1.size)
  unfold actV
  by_cases h0 : op % 8 = 0
  · have e0 : (op : Int) % 8 = 0 := by omega
    obtain ⟨k, hk⟩ : ∃ k, nb % 5 = k := ⟨_, rfl⟩
    have hk5 : k < 5 := by omega
    have hkI : (nb : Int) % 5 = (k : Int) := by omega
    have hkI5 : (k : Int) < 5 := by omega
    obtain ⟨w2, hw2⟩ : ∃ w2, w1.alloc (.cells #[.int .u8 4, .int .u8 24, .int .u8 6, .int .u8 21, .int .u8 1] 5) = w2 := ⟨_, rfl⟩
    have hb2 : Below w1.heap.size w1 w2 := by rw [← hw2]; exact (Below.refl _ _).alloc (Nat.le_refl _) _
    have hk2 : Blk w2 w1.heap.size 5 (byteVals [4, 24, 6, 21, 1]) := by rw [← hw2]; exact Blk.new w1 _ _
    obtain ⟨v, hv⟩ : ∃ v, ([4, 24, 6, 21, 1] : List UInt8).getD k 0 = v := ⟨_, rfl⟩
    have hcell : w2.cell? ⟨w1.heap.size, k, none⟩ = some (.int .u8 (v.toNat : Int)) := by
      rw [hk2.cell]
      have := five_get hk5
      rw [hv] at this
      unfold byteVals
      simp only [List.getElem?_toArray, List.getElem?_map, this]
      rfl
    obtain ⟨w3, hw3⟩ : ∃ w3, w2.alloc (.cells #[.int .u8 (v.toNat : Int)] 5) = w3 := ⟨_, rfl⟩
    have hb3 : Below w2.heap.size w2 w3 := by rw [← hw3]; exact (Below.refl _ _).alloc (Nat.le_refl _) _
    have hk3 : Blk w3 w2.heap.size 5 (byteVals [v]) := by rw [← hw3]; exact Blk.new w2 _ _
    have HP : Hid (BkP A n c (bkB ⟨op, nb, bs, pl, xr⟩ next crc) w (.returned (.slice (some ⟨w2.heap.size, 0, none⟩) 1 1)) w3) := keepHid (by
      unfold bkB
      simp only
      rw [if_pos h0, hk, hv]
      refine ⟨_, 1, 1, rfl, (bys_blk1 (n := 1) hk3 rfl (by omega)).more hk3.lt, Nat.le_refl _, by omega, HB1.out.trans ((hb2.trans (hb3.mono hb2.size)).mono HB1.out.size), .inr fun ad e => ?_⟩
      obtain rfl := Option.some.inj e
      exact Nat.le_trans HB1.out.size hb2.size)
    have c1' : w2.cell? ⟨w.heap.size, 1, none⟩ = some (.int .u8 (nb : Int)) := (hb2.cell (p := ⟨w.heap.size, 1, none⟩) hk1.lt).trans c1
    generalize (v.toNat : Int) = vi at *
    generalize (next.toNat : Int) = nx at *
    clear h0 hk hk5 hk1 hb1 hb2 hb3 hk2 hk3 hv
    go_enter Tryz.func27, Tryz.ntmps27
    go_wp2
    go_ret
    exact HP.out
  by_cases h1 : op % 8 = 1
  · have e1 : (op : Int) % 8 = 1 := by omega
    obtain ⟨w3, hw3⟩ : ∃ w3, w1.alloc (.cells #[.int .u8 24, .int .u8 24] 5) = w3 := ⟨_, rfl⟩
    have hb3 : Below w1.heap.size w1 w3 := by rw [← hw3]; exact (Below.refl _ _).alloc (Nat.le_refl _) _
    have hk3 : Blk w3 w1.heap.size 5 (byteVals [24, 24]) := by rw [← hw3]; exact Blk.new w1 _ _
    have HP : Hid (BkP A n c (bkB ⟨op, nb, bs, pl, xr⟩ next crc) w (.returned (.slice (some ⟨w1.heap.size, 0, none⟩) 2 2)) w3) := keepHid (by
      unfold bkB
      simp only
      rw [if_neg h0, if_pos h1]
      refine ⟨_, 2, 2, rfl, (bys_blk1 (n := 2) hk3 rfl (by omega)).more hk3.lt, Nat.le_refl _, by omega, HB1.out.trans (hb3.mono HB1.out.size), .inr fun ad e => ?_⟩
      obtain rfl := Option.some.inj e
      exact HB1.out.size)
    generalize (next.toNat : Int) = nx at *
    clear h0 h1 hk1 hb1 hb3 hk3
    go_enter Tryz.func27, Tryz.ntmps27
    go_wp2
    go_ret
    exact HP.out
  by_cases h2 : op % 8 = 2
  · have e2 : (op : Int) % 8 = 2 := by omega
    have HP : Hid (BkP A n c (bkB ⟨op, nb, bs, pl, xr⟩ next crc) w (.returned (.slice A n c)) w1) := keepHid (by
      unfold bkB
      rw [if_neg h0, if_neg h1, if_pos h2]
      exact ⟨A, n, c, rfl, HY1.out, hc, hm, HB1.out, .inl ⟨rfl, rfl⟩⟩)
    generalize (next.toNat : Int) = nx at *
    clear h0 h1 h2 hk1 hb1
    go_enter Tryz.func27, Tryz.ntmps27
    go_wp2
    try rw [hw1]
    go_ret
    exact HP.out
  have hB : bkB ⟨op, nb, bs, pl, xr⟩ next crc = cutA ⟨op, nb, bs, pl, xr⟩ (xorA ⟨op, nb, bs, pl, xr⟩ (encA ⟨op, nb, bs, pl, xr⟩ next crc)) := by unfold bkB; rw [if_neg h0, if_neg h1, if_neg h2]
  obtain ⟨y, hy0⟩ : ∃ y, numA ⟨op, nb, bs, pl, xr⟩ next = y := ⟨_, rfl⟩
  obtain ⟨lg, hlg⟩ : ∃ lg, decide (nb % 5 = 4) = lg := ⟨_, rfl⟩
  have hlg2 : (((nb : Int) % 5) == 4) = lg := by rw [← hlg]; by_cases h : nb % 5 = 4 <;> simp [h] <;> omega
  obtain ⟨E, hE⟩ : ∃ E, encA ⟨op, nb, bs, pl, xr⟩ next crc = E := ⟨_, rfl⟩
  have hEl : 3 ≤ E.length ∧ E.length ≤ 1032 := by rw [← hE]; exact encA_few _ _ _
  have HD : Hid (Calls Tryz.prog 44 #[.slice A n c, .bool lg] w1 (fun e w2 => ∃ A2 L2 c2, e = .returned (.slice A2 L2 c2) ∧ Calls Tryz.prog 43 #[.agg #[.int .u8 (y.toNat : Int), .slice A2 L2 c2], .bool crc] w2 (fun e w3 => ∃ g3 c3, e = .returned (.tuple #[.slice (some ⟨g3, 0, none⟩) E.length c3, .bool true]) ∧ OwnB w3 w1.heap.size 5 (.slice (some ⟨g3, 0, none⟩) E.length c3) E.length E ∧ w1.heap.size ≤ g3 ∧ g3 < w3.heap.size ∧ E.length ≤ c3 ∧ c3 ≤ 9223372036854775807 ∧ Below w1.heap.size w1 w3))) := keepHid (by
    refine (data_any A n c w1.heap.size bs lg w1 HY1.out (Nat.le_refl _)).mono ?_
    rintro e w2 ⟨A2, c2, rfl, ho2, q1, q2, hb2⟩
    refine ⟨A2, _, c2, rfl, ?_⟩
    refine (make_any y A2 _ c2 w2.heap.size _ crc (by rw [dat_len]; exact longN_or _) w2 (ho2.bys (by omega)) (Nat.le_refl _)).mono ?_
    rintro e w3 ⟨A3, c3, rfl, ho3, q3, q4, hb3⟩
    have hEE : enc y (dat bs (longN lg)) crc = E := by rw [← hE, ← hy0, ← hlg]; rfl
    rw [hEE] at ho3 q3 ⊢
    have ho3' := own_lower ho3 hb2.size
    obtain ⟨g3, c3', hv, g1, g2, g4, g5⟩ := ho3'.some_form (by omega)
    injection hv with hv _ hv2
    subst hv hv2
    exact ⟨g3, c3, rfl, ho3', g1, g2, q3, q4, hb2.trans (hb3.mono hb2.size)⟩)
  obtain ⟨m, hm8⟩ : ∃ m, op % 8 = m := ⟨_, rfl⟩
  have m8 : (op : Int) % 8 = (m : Int) := by omega
  obtain ⟨u, hm16⟩ : ∃ u, op % 16 = u := ⟨_, rfl⟩
  have m16 : (op : Int) % 16 = (u : Int) := by omega
  obtain ⟨i8, hi8⟩ : ∃ i, nb % 8 = i := ⟨_, rfl⟩
  have i8' : (nb : Int) % 8 = (i8 : Int) := by omega
  have a0 : ((m : Int) == 0) = false := by simp; omega
  have a1 : ((m : Int) == 1) = false := by simp; omega
  have a2 : ((m : Int) == 2) = false := by simp; omega
  have ynx : ∀ x : UInt8, (x.toNat : Int) < 256 := fun x => by have := u8lt x; omega
  obtain ⟨L, hL⟩ : ∃ L, E.length = L := ⟨_, rfl⟩
  have HE := keepHid hEl
  have HLL := keepHid hL
  rw [hL] at hEl HD
  obtain ⟨j, hj⟩ : ∃ j, pl % L = j := ⟨_, rfl⟩
  have hjL : j < L := by rw [← hj]; exact Nat.mod_lt _ (by omega)
  have tL : Int.tmod (pl : Int) (L : Int) = (pl : Int) % (L : Int) := Int.tmod_eq_emod_of_nonneg (by omega)
  have jL : (pl : Int) % (L : Int) = (j : Int) := by rw [← hj]; rfl
  have hL0 : ((L : Int) == 0) = false := by simp; omega
  have hLI : (L : Int) ≤ 1032 := by omega
  have NUM : (((nb : Int) == 250) = true ∧ ((i8 : Int) == 7) = false ∧ IntKind.u8.wrap (pl : Int) = (y.toNat : Int)) ∨ (((nb : Int) == 250) = false ∧ ((i8 : Int) == 7) = true ∧ IntKind.u8.wrap ((next.toNat : Int) - 1) = (y.toNat : Int)) ∨ (((nb : Int) == 250) = false ∧ ((i8 : Int) == 7) = false ∧ (next.toNat : Int) = (y.toNat : Int)) := by
    unfold numA at hy0
    simp only at hy0
    by_cases n1 : nb = 250
    · rw [if_pos n1] at hy0
      refine .inl ⟨by simp; omega, by simp; omega, ?_⟩
      rw [← hy0, UInt8.toNat_ofNat']
      show (pl : Int) % 256 = _
      omega
    · rw [if_neg n1] at hy0
      by_cases n2 : nb % 8 = 7
      · rw [if_pos n2] at hy0
        refine .inr (.inl ⟨by simp; omega, by simp; omega, ?_⟩)
        rw [← hy0, UInt8.toNat_sub]
        show ((next.toNat : Int) - 1) % 256 = _
        have := u8lt next
        simp
        omega
      · rw [if_neg n2] at hy0
        exact .inr (.inr ⟨by simp; omega, by simp; omega, by rw [hy0]⟩)
  have c3' := c3
  clear c3
  have hsz1 : w1.heap.size = w.heap.size + 1 := by rw [← hw1, World.size_alloc]
  rcases NUM with ⟨u1, u2, u3⟩ | ⟨u1, u2, u3⟩ | ⟨u1, u2, u3⟩
  all_goals
    by_cases h3 : op % 8 = 3
    · have b3 : ((m : Int) == 3) = true := by simp; omega
      have b12 : ((u : Int) == 12) = false := by simp; omega
      have HP : Hid (∀ g3 c3 w3, OwnB w3 w1.heap.size 5 (.slice (some ⟨g3, 0, none⟩) L c3) L E → w1.heap.size ≤ g3 → L ≤ c3 → c3 ≤ 9223372036854775807 → Below w1.heap.size w1 w3 → ∃ x z : UInt8, bits .xor .u8 (x.toNat : Int) (xr : Int) = (z.toNat : Int) ∧ w3.cell? ⟨g3, j, none⟩ = some (.int .u8 (x.toNat : Int)) ∧ w3.frozen? ⟨g3, j, none⟩ = false ∧ BkP A n c (bkB ⟨op, nb, bs, pl, xr⟩ next crc) w (.returned (.slice (some ⟨g3, 0, none⟩) L c3)) (w3.setCell ⟨g3, j, none⟩ (.int .u8 (z.toNat : Int)))) := keepHid (by
        intro g3 c3 w3 ho hg hc3 hm3 hb
        obtain ⟨x, hx⟩ : ∃ x, E[j]? = some x := ⟨_, List.getElem?_eq_getElem (by rw [hL]; exact hjL)⟩
        have hxl := u8lt x
        have hz : x.toNat ^^^ xr < 256 := Nat.xor_lt_two_pow (n := 8) hxl (by omega)
        refine ⟨x, UInt8.ofNat (x.toNat ^^^ xr), ?_, ho.cell hx, ho.frozen j, ?_⟩
        · rw [xor8 (a := x.toNat) (b := xr) rfl rfl hxl (by omega), UInt8.toNat_ofNat', Nat.mod_eq_of_lt hz]
        · have hbb : bkB ⟨op, nb, bs, pl, xr⟩ next crc = E.set j (UInt8.ofNat (x.toNat ^^^ xr)) := by
            rw [hB, hE]
            unfold cutA xorA
            simp only
            rw [if_neg (by omega), if_pos h3, hL, hj, List.getD_eq_getElem?_getD, hx]
            rfl
          rw [hbb]
          exact BkP.own (ho.stored j _) (by omega) hc3 hm3 ((HB1.out.trans (hb.mono HB1.out.size)).setCell (by show w.heap.size ≤ g3; omega) _))
      generalize bkB ⟨op, nb, bs, pl, xr⟩ next crc = R at *
      generalize (y.toNat : Int) = yi at *
      generalize (next.toNat : Int) = nx at *
      clear h0 h1 h2 h3 hB hy0 hlg hE hEl hm8 hm16 hi8 hL hj hk1 hb1
      go_enter Tryz.func27, Tryz.ntmps27
      go_wp2_with (go_at_call 44; (with_reducible refine HD.out.mono ?_); rintro e w2 ⟨A2, L2, c2, rfl, hmk⟩; have HMK := keepHid hmk; clear hmk)
      go_wp2_with (go_at_call 43; (with_reducible refine HMK.out.mono ?_); rintro e w3 ⟨g3, c3, rfl, ho3, hg3, hl3, hc3, hm3, hb3⟩; have HO3 := keepHid ho3; have HB3 := keepHid hb3; have d0 : w3.cell? ⟨w.heap.size, 0, none⟩ = some (.int .u8 (op : Int)) := (hb3.cell (p := ⟨w.heap.size, 0, none⟩) (by show w.heap.size < w1.heap.size; omega)).trans c0; have d3 : w3.cell? ⟨w.heap.size, 3, none⟩ = some (.int .u16 (pl : Int)) := (hb3.cell (p := ⟨w.heap.size, 3, none⟩) (by show w.heap.size < w1.heap.size; omega)).trans c3'; have d4 : w3.cell? ⟨w.heap.size, 4, none⟩ = some (.int .u8 (xr : Int)) := (hb3.cell (p := ⟨w.heap.size, 4, none⟩) (by show w.heap.size < w1.heap.size; omega)).trans c4; clear ho3 hb3 HMK)
      obtain ⟨x, z, hxz, hcx, hfx, hp⟩ := HP.out g3 c3 w3 HO3.out hg3 hc3 hm3 HB3.out
      have HPP := keepHid hp
      have hxl : (x.toNat : Int) < 256 := by have := u8lt x; omega
      have d0s : ∀ v, (w3.setCell ⟨g3, j, none⟩ v).cell? ⟨w.heap.size, 0, none⟩ = some (.int .u8 (op : Int)) := fun v => ((((Below.refl w1.heap.size w3).setCell (p := ⟨g3, j, none⟩) (by show w1.heap.size ≤ g3; omega) v).cell (p := ⟨w.heap.size, 0, none⟩) (by show w.heap.size < w1.heap.size; omega)).trans d0)
      clear hp HP HD
      generalize (x.toNat : Int) = xi at *
      generalize (z.toNat : Int) = zi at *
      go_wp2
      go_region
      all_goals
        go_wp2
        go_ret
        first | exact HPP.out | exact HPP.out.drew | exact HPP.out.drew.drew
    · by_cases h12 : op % 16 = 12
      · have b3 : ((m : Int) == 3) = false := by simp; omega
        have b12 : ((u : Int) == 12) = true := by simp; omega
        have HP : Hid (∀ g3 c3 w3, OwnB w3 w1.heap.size 5 (.slice (some ⟨g3, 0, none⟩) L c3) L E → w1.heap.size ≤ g3 → L ≤ c3 → c3 ≤ 9223372036854775807 → Below w1.heap.size w1 w3 → BkP A n c (bkB ⟨op, nb, bs, pl, xr⟩ next crc) w (.returned (.slice (some ⟨g3, 0, none⟩) j c3)) w3) := keepHid (by
          intro g3 c3 w3 ho hg hc3 hm3 hb
          have hbb : bkB ⟨op, nb, bs, pl, xr⟩ next crc = E.take j := by
            rw [hB, hE]
            unfold cutA xorA
            simp only
            rw [if_pos h12, if_neg h3, hL, hj]
          rw [hbb]
          exact BkP.cut (BkP.own ho (by omega) hc3 hm3 (HB1.out.trans (hb.mono HB1.out.size))) (by omega) (by omega))
        generalize bkB ⟨op, nb, bs, pl, xr⟩ next crc = R at *
        generalize (y.toNat : Int) = yi at *
        generalize (next.toNat : Int) = nx at *
        clear h0 h1 h2 h3 h12 hB hy0 hlg hE hEl hm8 hm16 hi8 hL hj hk1 hb1
        go_enter Tryz.func27, Tryz.ntmps27
        go_wp2_with (go_at_call 44; (with_reducible refine HD.out.mono ?_); rintro e w2 ⟨A2, L2, c2, rfl, hmk⟩; have HMK := keepHid hmk; clear hmk)
        go_wp2_with (go_at_call 43; (with_reducible refine HMK.out.mono ?_); rintro e w3 ⟨g3, c3, rfl, ho3, hg3, hl3, hc3, hm3, hb3⟩; have HO3 := keepHid ho3; have HB3 := keepHid hb3; have d0 : w3.cell? ⟨w.heap.size, 0, none⟩ = some (.int .u8 (op : Int)) := (hb3.cell (p := ⟨w.heap.size, 0, none⟩) (by show w.heap.size < w1.heap.size; omega)).trans c0; have d3 : w3.cell? ⟨w.heap.size, 3, none⟩ = some (.int .u16 (pl : Int)) := (hb3.cell (p := ⟨w.heap.size, 3, none⟩) (by show w.heap.size < w1.heap.size; omega)).trans c3'; have d4 : w3.cell? ⟨w.heap.size, 4, none⟩ = some (.int .u8 (xr : Int)) := (hb3.cell (p := ⟨w.heap.size, 4, none⟩) (by show w.heap.size < w1.heap.size; omega)).trans c4; clear ho3 hb3 HMK)
        have hp := HP.out g3 c3 w3 HO3.out hg3 hc3 hm3 HB3.out
        have HPP := keepHid hp
        have hjc : (j : Int) ≤ (c3 : Int) := by omega
        clear hp HP HD
        go_wp2
        try go_region
        all_goals
          go_wp2
          go_ret
          first | exact HPP.out | exact HPP.out.drew | exact HPP.out.drew.drew
      · have b3 : ((m : Int) == 3) = false := by simp; omega
        have b12 : ((u : Int) == 12) = false := by simp; omega
        have HP : Hid (∀ g3 c3 w3, OwnB w3 w1.heap.size 5 (.slice (some ⟨g3, 0, none⟩) L c3) L E → w1.heap.size ≤ g3 → L ≤ c3 → c3 ≤ 9223372036854775807 → Below w1.heap.size w1 w3 → BkP A n c (bkB ⟨op, nb, bs, pl, xr⟩ next crc) w (.returned (.slice (some ⟨g3, 0, none⟩) L c3)) w3) := keepHid (by
          intro g3 c3 w3 ho hg hc3 hm3 hb
          have hbb : bkB ⟨op, nb, bs, pl, xr⟩ next crc = E := by
            rw [hB, hE]
            unfold cutA xorA
            simp only
            rw [if_neg h12, if_neg h3]
          rw [hbb]
          exact BkP.own ho (by omega) hc3 hm3 (HB1.out.trans (hb.mono HB1.out.size)))
        generalize bkB ⟨op, nb, bs, pl, xr⟩ next crc = R at *
        generalize (y.toNat : Int) = yi at *
        generalize (next.toNat : Int) = nx at *
        clear h0 h1 h2 h3 h12 hB hy0 hlg hE hEl hm8 hm16 hi8 hL hj hk1 hb1
        go_enter Tryz.func27, Tryz.ntmps27
        go_wp2_with (go_at_call 44; (with_reducible refine HD.out.mono ?_); rintro e w2 ⟨A2, L2, c2, rfl, hmk⟩; have HMK := keepHid hmk; clear hmk)
        go_wp2_with (go_at_call 43; (with_reducible refine HMK.out.mono ?_); rintro e w3 ⟨g3, c3, rfl, ho3, hg3, hl3, hc3, hm3, hb3⟩; have HO3 := keepHid ho3; have HB3 := keepHid hb3; have d0 : w3.cell? ⟨w.heap.size, 0, none⟩ = some (.int .u8 (op : Int)) := (hb3.cell (p := ⟨w.heap.size, 0, none⟩) (by show w.heap.size < w1.heap.size; omega)).trans c0; have d3 : w3.cell? ⟨w.heap.size, 3, none⟩ = some (.int .u16 (pl : Int)) := (hb3.cell (p := ⟨w.heap.size, 3, none⟩) (by show w.heap.size < w1.heap.size; omega)).trans c3'; have d4 : w3.cell? ⟨w.heap.size, 4, none⟩ = some (.int .u8 (xr : Int)) := (hb3.cell (p := ⟨w.heap.size, 4, none⟩) (by show w.heap.size < w1.heap.size; omega)).trans c4; clear ho3 hb3 HMK)
        have hp := HP.out g3 c3 w3 HO3.out hg3 hc3 hm3 HB3.out
        have HPP := keepHid hp
        clear hp HP HD
        go_wp2
        go_ret
        exact HPP.out


/-- An act's numbers. -/
structure Tac where
  op : Nat
  way : Nat
  ad : Nat
  sz : Nat
  raw : List UInt8
  blk : Bka
structure TacF (a : Tac) : Prop where
  op : a.op ≤ 255
  way : a.way ≤ 255
  ad : a.ad ≤ 65535
  sz : a.sz ≤ 65535
  blk : BkaF a.blk
def tacL (a : Tac) (R B : Value) : Array Value := #[.int .u8 (a.op : Int), .int .u8 (a.way : Int), .int .u16 (a.ad : Int), .int .u16 (a.sz : Int), R, .int .u8 (a.blk.op : Int), .int .u8 (a.blk.nb : Int), B, .int .u16 (a.blk.pl : Int), .int .u8 (a.blk.xr : Int)]
def sixL : List (List UInt8) := [[13], [108, 111, 97, 100, 32, 120, 32, 49, 13], [115, 117, 109, 32, 49, 13], [108, 111, 97, 100, 32, 99, 114, 99, 32, 48, 49, 13], [115, 117, 109, 32, 32, 49, 32, 50, 13], [108, 111, 97, 100, 32, 99, 104, 101, 99, 107, 32, 49, 48, 48, 13]]
def sixV : Array Value := #[.string ⟨#[13]⟩, .string ⟨#[108, 111, 97, 100, 32, 120, 32, 49, 13]⟩, .string ⟨#[115, 117, 109, 32, 49, 13]⟩, .string ⟨#[108, 111, 97, 100, 32, 99, 114, 99, 32, 48, 49, 13]⟩, .string ⟨#[115, 117, 109, 32, 32, 49, 32, 50, 13]⟩, .string ⟨#[108, 111, 97, 100, 32, 99, 104, 101, 99, 107, 32, 49, 48, 48, 13]⟩]
theorem six_get (k : Nat) (h : k < 6) : sixV[k]? = some (.string (strB (sixL.getD k []))) := by
  rcases (by omega : k = 0 ∨ k = 1 ∨ k = 2 ∨ k = 3 ∨ k = 4 ∨ k = 5) with rfl | rfl | rfl | rfl | rfl | rfl <;> rfl
theorem six_le (k : Nat) : (sixL.getD k []).length ≤ 15 := by
  rcases Nat.lt_or_ge k 6 with h | h
  · rcases (by omega : k = 0 ∨ k = 1 ∨ k = 2 ∨ k = 3 ∨ k = 4 ∨ k = 5) with rfl | rfl | rfl | rfl | rfl | rfl <;> decide
  · rw [List.getD_eq_getElem?_getD, List.getElem?_eq_none (show sixL.length ≤ k from h)]; exact Nat.zero_le _
def bytesT (a : Tac) (next : UInt8) : List UInt8 :=
  if a.op % 8 = 0 then loadL (((a.way % 4 : Nat)) : Int) (a.ad % 17000) ++ [13]
  else if a.op % 8 = 1 then askL (a.ad % 17000) (a.sz % 300) ++ [13]
  else if a.op % 8 = 2 then a.raw
  else if a.op % 8 = 3 then sixL.getD (a.way % 6) []
  else bkB a.blk next (decide (0 < a.way % 4))
/-- Bytes: those of an argument, below H, or new ones. -/
def BytP (H : Nat) (bs : List UInt8) (w : World) (e : Ending) (w' : World) : Prop :=
  ∃ A n c, e = .returned (.slice A n c) ∧ Bys w' w'.heap.size A n bs ∧ n ≤ c ∧ c ≤ 9223372036854775807 ∧ Below w.heap.size w w' ∧ ∀ ad, A = some ad → 0 < n → ad.block < H ∨ w.heap.size ≤ ad.block
theorem BytP.str {H : Nat} {l : List UInt8} {w w1 w2 : World} {c : Nat} (hb1 : Below w.heap.size w w1) (hr : StrRow w1 w2 w1.heap.size l c) : BytP H l w (.returned (.slice (some ⟨w1.heap.size, 0, none⟩) l.length c)) w2 :=
  ⟨_, _, c, rfl, hr.bys.more hr.lt, hr.cap.1, hr.cap.2, hb1.trans (hr.below.mono hb1.size), fun ad e _ => by obtain rfl := Option.some.inj e; exact .inr hb1.size⟩
set_option maxRecDepth 100000 in
set_option maxHeartbeats 8000000 in
theorem bytes_any20 (a : Tac) (hF : TacF a) (next : UInt8) (A B : Option Addr) (n c m d H : Nat) (w : World) (hS : Sup w) (hA : Bys w H A n a.raw) (hB : Bys w H B m a.blk.bs) (hH : H ≤ w.heap.size) (hn : n ≤ c) (hc : c ≤ 9223372036854775807) (hm : m ≤ d) (hd : d ≤ 9223372036854775807) :
    Calls Tryz.prog 15 #[.agg (tacL a (.slice A n c) (.slice B m d)), .int .u8 (next.toNat : Int)] w (BytP H (bytesT a next) w) := by
  obtain ⟨op, way, ad, sz, raw, ⟨bo, bn, bb, bp, bx⟩⟩ := a
  obtain ⟨f1, f2, f3, f4, f5⟩ := hF
  have f5' := f5
  obtain ⟨g1, g2, g3, g4⟩ := f5'
  simp only at f1 f2 f3 f4 g1 g2 g3 g4 hA hB
  obtain ⟨w1, hw1⟩ : ∃ w1, w.alloc (.cells (tacL ⟨op, way, ad, sz, raw, ⟨bo, bn, bb, bp, bx⟩⟩ (.slice A n c) (.slice B m d)) 42) = w1 := ⟨_, rfl⟩
  have hb1 : Below w.heap.size w w1 := by rw [← hw1]; exact (Below.refl _ _).alloc (Nat.le_refl _) _
  have hk1 : Blk w1 w.heap.size 42 (tacL ⟨op, way, ad, sz, raw, ⟨bo, bn, bb, bp, bx⟩⟩ (.slice A n c) (.slice B m d)) := by rw [← hw1]; exact Blk.new w _ _
  have q0 : w1.cell? ⟨w.heap.size, 0, none⟩ = some (.int .u8 (op : Int)) := hk1.cell 0
  have q1 : w1.cell? ⟨w.heap.size, 1, none⟩ = some (.int .u8 (way : Int)) := hk1.cell 1
  have q2 : w1.cell? ⟨w.heap.size, 2, none⟩ = some (.int .u16 (ad : Int)) := hk1.cell 2
  have q3 : w1.cell? ⟨w.heap.size, 3, none⟩ = some (.int .u16 (sz : Int)) := hk1.cell 3
  have q4 : w1.cell? ⟨w.heap.size, 4, none⟩ = some (.slice A n c) := hk1.cell 4
  have q5 : w1.cell? ⟨w.heap.size, 5, none⟩ = some (.int .u8 (bo : Int)) := hk1.cell 5
  have q6 : w1.cell? ⟨w.heap.size, 6, none⟩ = some (.int .u8 (bn : Int)) := hk1.cell 6
  have q7 : w1.cell? ⟨w.heap.size, 7, none⟩ = some (.slice B m d) := hk1.cell 7
  have q8 : w1.cell? ⟨w.heap.size, 8, none⟩ = some (.int .u16 (bp : Int)) := hk1.cell 8
  have q9 : w1.cell? ⟨w.heap.size, 9, none⟩ = some (.int .u8 (bx : Int)) := hk1.cell 9
  have t8 : Int.tmod (op : Int) 8 = (op : Int) % 8 := Int.tmod_eq_emod_of_nonneg (by omega)
  obtain ⟨x, hx⟩ : ∃ x, ad % 17000 = x := ⟨_, rfl⟩
  obtain ⟨y, hy⟩ : ∃ y, sz % 300 = y := ⟨_, rfl⟩
  have hx2 : x < 17000 := by omega
  have hy2 : y < 300 := by omega
  have tx : Int.tmod (ad : Int) 17000 = (x : Int) := by rw [Int.tmod_eq_emod_of_nonneg (by omega)]; omega
  have ty : Int.tmod (sz : Int) 300 = (y : Int) := by rw [Int.tmod_eq_emod_of_nonneg (by omega)]; omega
  have vx : IntKind.i64.wrap (ad : Int) = (ad : Int) := by rw [IntKind.wrap_i64]; omega
  have vy : IntKind.i64.wrap (sz : Int) = (sz : Int) := by rw [IntKind.wrap_i64]; omega
  obtain ⟨k4, hk4⟩ : ∃ y, way % 4 = y := ⟨_, rfl⟩
  obtain ⟨k6, hk6⟩ : ∃ y, way % 6 = y := ⟨_, rfl⟩
  have hk42 : k4 < 4 := by omega
  have hk62 : k6 < 6 := by omega
  have t4 : Int.tmod (way : Int) 4 = (k4 : Int) := by rw [Int.tmod_eq_emod_of_nonneg (by omega)]; omega
  have t6 : Int.tmod (way : Int) 6 = (k6 : Int) := by rw [Int.tmod_eq_emod_of_nonneg (by omega)]; omega
  have v4 : IntKind.i64.wrap (k4 : Int) = (k4 : Int) := by rw [IntKind.wrap_i64]; omega
  have HS1 := keepHid (hS.below hb1 (Nat.le_refl _))
  have HB1 := keepHid hb1
  have HA := keepHid hA
  have HB := keepHid hB
  have HF5 := keepHid f5
  have hw2 := hw1
  unfold tacL at hw2 ⊢
  simp only at hw2 ⊢
  unfold bytesT
  simp only
  rw [hx, hy, hk4, hk6]
  clear hS hA hB hk1 hb1 hw1 hx hy hk4 hk6 f5
  by_cases h0 : op % 8 = 0
  · have e0 : (op : Int) % 8 = 0 := by omega
    rw [if_pos h0]
    have HLO := keepHid (load_any20 (k4 : Int) x (by omega) (by omega) w1 HS1.out.four)
    rw [show way20 (k4 : Int) = (k4 : Int) by unfold way20; omega] at HLO
    have hlen : (loadL (k4 : Int) x ++ [13]).length ≤ 100 := by
      have l1 := dig_sixteen (n := x) (by omega)
      have l2 := (way_noblank (k4 : Int)).2
      unfold loadL wLoad
      simp only [List.length_append, List.length_cons, List.length_nil]
      omega
    generalize loadL (k4 : Int) x ++ [13] = LL at *
    generalize (next.toNat : Int) = nx at *
    clear h0
    go_enter Tryz.func15, Tryz.ntmps15
    go_wp2_with fail
    with_reducible refine HLO.out.mono ?_
    rintro e w2 ⟨rfl, hb2⟩
    have hb02 := HB1.out.trans (hb2.mono HB1.out.size)
    obtain ⟨cp, w3, hcv, hrow⟩ := run_str_bytes (P := Tryz.prog) w2 9 31 5 LL Tryz.underlying9 Tryz.underlying31 Tryz.underlying5 (by omega)
    have HP := keepHid (BytP.str (H := H) hb02 hrow)
    clear hb2 hb02 hrow hlen
    go_wp2
    go_ret
    exact HP.out
  rw [if_neg h0]
  by_cases h1 : op % 8 = 1
  · have e0 : (op : Int) % 8 = 1 := by omega
    rw [if_pos h1]
    have HLO := keepHid (ask_any20 x y (by omega) (by omega) w1 HS1.out.four)
    have hlen : (askL x y ++ [13]).length ≤ 100 := by
      have l1 := dig_eight (n := x) (by omega)
      have l2 := dig_eight (n := y) (by omega)
      unfold askL wSum
      simp only [List.length_append, List.length_cons, List.length_nil]
      omega
    generalize askL x y ++ [13] = LL at *
    generalize (next.toNat : Int) = nx at *
    clear h0 h1
    go_enter Tryz.func15, Tryz.ntmps15
    go_wp2_with fail
    with_reducible refine HLO.out.mono ?_
    rintro e w2 ⟨rfl, hb2⟩
    have hb02 := HB1.out.trans (hb2.mono HB1.out.size)
    obtain ⟨cp, w3, hcv, hrow⟩ := run_str_bytes (P := Tryz.prog) w2 9 31 5 LL Tryz.underlying9 Tryz.underlying31 Tryz.underlying5 (by omega)
    have HP := keepHid (BytP.str (H := H) hb02 hrow)
    clear hb2 hb02 hrow hlen
    go_wp2
    go_ret
    exact HP.out
  rw [if_neg h1]
  by_cases h2 : op % 8 = 2
  · have e0 : (op : Int) % 8 = 2 := by omega
    rw [if_pos h2]
    have HP : Hid (BytP H raw w (.returned (.slice A n c)) w1) := keepHid ⟨A, n, c, rfl, (HA.out.below (HB1.out.mono hH)).more (Nat.le_trans hH HB1.out.size), hn, hc, HB1.out, fun ad e h => by
      obtain ⟨ad2, _, e2, hlt, _⟩ := HA.out.at_ h
      obtain rfl : ad = ad2 := by rw [e] at e2; exact Option.some.inj e2
      exact .inl hlt⟩
    generalize (next.toNat : Int) = nx at *
    clear h0 h1 h2
    go_enter Tryz.func15, Tryz.ntmps15
    go_wp2
    go_ret
    exact HP.out
  rw [if_neg h2]
  by_cases h3 : op % 8 = 3
  · have e0 : (op : Int) % 8 = 3 := by omega
    rw [if_pos h3]
    have hlen := six_le k6
    obtain ⟨w2, hw22⟩ : ∃ w2, w1.alloc (.cells sixV 9) = w2 := ⟨_, rfl⟩
    have hb2 : Below w1.heap.size w1 w2 := by rw [← hw22]; exact (Below.refl _ _).alloc (Nat.le_refl _) _
    have hc6 : w2.cell? ⟨w1.heap.size, k6, none⟩ = some (.string (strB (sixL.getD k6 []))) := by
      have hk : Blk w2 w1.heap.size 9 sixV := by rw [← hw22]; exact Blk.new w1 _ _
      rw [hk.cell]; exact six_get k6 hk62
    have q1' : w2.cell? ⟨w.heap.size, 1, none⟩ = some (.int .u8 (way : Int)) := (hb2.cell (p := ⟨w.heap.size, 1, none⟩) (World.block_lt_of_cell? _ _ q1)).trans q1
    have hb02 := HB1.out.trans (hb2.mono HB1.out.size)
    have hk6i : (k6 : Int) < 6 := by omega
    generalize sixL.getD k6 [] = LL at *
    obtain ⟨cp, w3, hcv, hrow⟩ := run_str_bytes (P := Tryz.prog) w2 9 31 5 LL Tryz.underlying9 Tryz.underlying31 Tryz.underlying5 (by omega)
    have HP := keepHid (BytP.str (H := H) hb02 hrow)
    unfold sixV at hw22
    generalize (next.toNat : Int) = nx at *
    clear h0 h1 h2 h3 hb2 hb02 hrow hlen hk62
    go_enter Tryz.func15, Tryz.ntmps15
    go_wp2
    go_ret
    exact HP.out
  rw [if_neg h3]
  obtain ⟨z, hz⟩ : ∃ z, op % 8 = z := ⟨_, rfl⟩
  have e0 : (op : Int) % 8 = (z : Int) := by omega
  have a0 : ((z : Int) == 0) = false := by simp; omega
  have a1 : ((z : Int) == 1) = false := by simp; omega
  have a2 : ((z : Int) == 2) = false := by simp; omega
  have a3 : ((z : Int) == 3) = false := by simp; omega
  obtain ⟨crc, hcrc⟩ : ∃ crc, decide (0 < k4) = crc := ⟨_, rfl⟩
  have HBK : Hid (Calls Tryz.prog 27 #[.agg #[.int .u8 (bo : Int), .int .u8 (bn : Int), .slice B m d, .int .u16 (bp : Int), .int .u8 (bx : Int)], .int .u8 (next.toNat : Int), .bool crc] w1 (BytP H (bkB ⟨bo, bn, bb, bp, bx⟩ next crc) w)) := keepHid (by
    refine (show Calls Tryz.prog 27 #[.agg #[.int .u8 (bo : Int), .int .u8 (bn : Int), .slice B m d, .int .u16 (bp : Int), .int .u8 (bx : Int)], .int .u8 (next.toNat : Int), .bool crc] w1 _ from bk_any ⟨bo, bn, bb, bp, bx⟩ HF5.out next crc B m d w1 ((HB.out.below (HB1.out.mono hH)).more (Nat.le_trans hH HB1.out.size)) hm hd).mono ?_
    rintro e w' ⟨A', n', c', rfl, r1, r2, r3, r4, r5⟩
    refine ⟨A', n', c', rfl, r1, r2, r3, HB1.out.trans (r4.mono HB1.out.size), fun ad e h => ?_⟩
    rcases r5 with ⟨rfl, rfl⟩ | r5
    · obtain ⟨ad2, _, e2, hlt, _⟩ := HB.out.at_ h
      obtain rfl : ad = ad2 := by rw [e] at e2; exact Option.some.inj e2
      exact .inl hlt
    · exact .inr (Nat.le_trans HB1.out.size (r5 ad e)))
  rw [hcrc]
  generalize bkB ⟨bo, bn, bb, bp, bx⟩ next crc = LL at *
  generalize (next.toNat : Int) = nx at *
  clear h0 h1 h2 h3 hz
  go_enter Tryz.func15, Tryz.ntmps15
  go_wp2_with fail
  with_reducible refine HBK.out.mono ?_
  intro e w2 h
  have HP := keepHid h
  obtain ⟨A', n', c', rfl, _⟩ := h
  go_wp2
  go_ret
  exact HP.out
end Go.Proofs.YtonloefjhofeeaaGreatDoor
