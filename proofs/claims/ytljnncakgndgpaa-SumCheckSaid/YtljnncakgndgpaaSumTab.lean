/-
  The table of what is left of each byte, in plain numbers and as cells; by it bytes are gone over as bit by bit.
-/
import Derived.Test.YtljnncakgndgpaaSumPlain
namespace Go.Proofs.Ytljnncakgndgpaa
open Go.RowKit
set_option linter.unusedVariables false

/-- A table of 256 registers lies at 'ad'. -/
def Tab (w : World) (B : Nat) (ad : Addr) (t : List Nat) : Prop :=
  t.length = 256 ∧ (∀ x ∈ t, x < 65536) ∧ ad.block < B ∧ ∀ (j x : Nat), t[j]? = some x → w.cell? (ad.add j) = some (.int .u16 (x : Int))
theorem Tab.keep {w w' : World} {B : Nat} {ad : Addr} {t : List Nat} (h : Tab w B ad t) (hk : ∀ p : Addr, p.block < B → w'.cell? p = w.cell? p) : Tab w' B ad t :=
  ⟨h.1, h.2.1, h.2.2.1, fun j x hj => (hk _ (by rw [ad_block]; exact h.2.2.1)).trans (h.2.2.2 j x hj)⟩
theorem Tab.below {w w' : World} {B : Nat} {ad : Addr} {t : List Nat} (h : Tab w B ad t) (hb : Below B w w') : Tab w' B ad t := h.keep fun _ hp => hb.cell hp
theorem Tab.alloc {w : World} {B : Nat} {ad : Addr} {t : List Nat} (h : Tab w B ad t) (hB : B ≤ w.heap.size) (o : Obj) : Tab (w.alloc o) B ad t := h.keep fun p hp => World.cell?_alloc_lt w o p (by omega)
theorem Tab.drew {w : World} {B : Nat} {ad : Addr} {t : List Nat} (h : Tab w B ad t) : Tab w.drew B ad t := h
theorem Tab.of_vals {w : World} {g : Nat} {ty : TypeId} {t : List Nat} (h : Blk w g ty ((t.map fun x : Nat => Value.int .u16 (x : Int)).toArray)) (hl : t.length = 256) (ht : ∀ x ∈ t, x < 65536) : Tab w (g + 1) ⟨g, 0, none⟩ t := by
  refine ⟨hl, ht, Nat.lt_succ_self _, fun j x hj => ?_⟩
  have e : (⟨g, 0, none⟩ : Addr).add j = ⟨g, j, none⟩ := by unfold Addr.add; split <;> simp_all
  rw [e, h.cell]
  simp [hj]
theorem Tab.at_ {w : World} {B : Nat} {ad : Addr} {t : List Nat} (h : Tab w B ad t) {j : Nat} (hj : j < 256) :
    ∃ x, t[j]? = some x ∧ x < 65536 ∧ w.cell? (ad.add j) = some (.int .u16 (x : Int)) := by
  have hl : j < t.length := by rw [h.1]; exact hj
  exact ⟨t[j], List.getElem?_eq_getElem hl, h.2.1 _ (List.getElem_mem hl), h.2.2.2 j _ (List.getElem?_eq_getElem hl)⟩

/-- The table as far as it is filled. -/
def tabN (n k : Nat) : Array Value := ((List.range n).map fun j => Value.int .u16 (if j < k then (crcL [UInt8.ofNat j] : Int) else 0)).toArray
def tabLN (n : Nat) : List Nat := (List.range n).map fun j => crcL [UInt8.ofNat j]
theorem tabN_size (n k : Nat) : (tabN n k).size = n := by simp [tabN]
theorem tabN_get (n k j : Nat) (hj : j < n) : (tabN n k)[j]? = some (.int .u16 (if j < k then (crcL [UInt8.ofNat j] : Int) else 0)) := by
  simp [tabN, List.getElem?_range hj]
theorem tabN_set (n k : Nat) (hk : k < n) : (tabN n k).setIfInBounds k (.int .u16 (crcL [UInt8.ofNat k] : Int)) = tabN n (k + 1) := by
  apply Array.ext
  · simp [tabN]
  · intro i h1 h2
    have hi : i < n := by simpa [tabN] using h2
    have hi' : i < (tabN n k).size := by rw [tabN_size]; exact hi
    rw [Array.getElem_setIfInBounds hi']
    have e1 : (tabN n k)[i] = .int .u16 (if i < k then (crcL [UInt8.ofNat i] : Int) else 0) := by simp [tabN]
    have e2 : (tabN n (k + 1))[i] = .int .u16 (if i < k + 1 then (crcL [UInt8.ofNat i] : Int) else 0) := by simp [tabN]
    rw [e1, e2]
    by_cases h : k = i
    · subst h; simp
    · by_cases h3 : i < k
      · simp [h, h3, show i < k + 1 by omega]
      · simp [h, h3, show ¬ i < k + 1 by omega]
theorem tabN_one (n k : Nat) : (tabN n k).all (·.oneCell') = true := by
  simp [tabN, Value.oneCell']
theorem tabLN_get (n x : Nat) (hx : x < n) : (tabLN n)[x]? = some (crcL [UInt8.ofNat x]) := by simp [tabLN, List.getElem?_range hx]
theorem tabLN_lt (n : Nat) : ∀ x ∈ tabLN n, x < 65536 := by
  intro x hx
  unfold tabLN at hx
  obtain ⟨j, _, rfl⟩ := List.mem_map.1 hx
  exact crc_lt _
theorem tabLN_len (n : Nat) : (tabLN n).length = n := by simp [tabLN]
def tabAt (k : Nat) : Array Value := tabN 256 k
def tabL : List Nat := tabLN 256
theorem tabAt_size (k : Nat) : (tabAt k).size = 256 := tabN_size 256 k
theorem tabAt_get (k j : Nat) (hj : j < 256) : (tabAt k)[j]? = some (.int .u16 (if j < k then (crcL [UInt8.ofNat j] : Int) else 0)) := tabN_get 256 k j hj
theorem tabAt_old (k : Nat) (hk : k < 256) : (tabAt k)[k]? = some (.int .u16 0) := by rw [tabAt_get k k hk, if_neg (Nat.lt_irrefl _)]
theorem tabAt_set (k : Nat) (hk : k < 256) : (tabAt k).setIfInBounds k (.int .u16 (crcL [UInt8.ofNat k] : Int)) = tabAt (k + 1) := tabN_set 256 k hk
theorem tabAt_one (k : Nat) : (tabAt k).all (·.oneCell') = true := tabN_one 256 k
/-! ### By the table of what is left of each byte all is as bit by bit -/
theorem bitsN_small : ∀ (k r : Nat), k ≤ 8 → r < 256 → bitsN k r = r * 2 ^ k
  | 0, r, _, _ => by simp [bitsN]
  | k + 1, r, hk, hr => by
    have ih := bitsN_small k r (by omega) hr
    have hp : 2 ^ k ≤ 2 ^ 7 := Nat.pow_le_pow_right (by omega) (by omega)
    have hm : r * 2 ^ k ≤ 255 * 2 ^ 7 := Nat.mul_le_mul (by omega) hp
    rw [bitsN, ih, bitStep, if_neg (by omega), Nat.pow_succ]
    rw [Nat.mul_comm 2, Nat.mul_assoc]
theorem shl_xor (a b : Nat) : (a ^^^ b) * 256 = a * 256 ^^^ b * 256 := by
  have h := Nat.shiftLeft_xor_distrib (a := a) (b := b) (i := 8)
  simpa [Nat.shiftLeft_eq] using h
theorem split_xor (r : Nat) : r = (r / 256 * 256) ^^^ (r % 256) := by
  have h : (r / 256 * 256) ^^^ (r % 256) = r / 256 * 256 + r % 256 := by
    apply Nat.eq_of_testBit_eq
    intro i
    rw [Nat.testBit_xor]
    have e1 : r / 256 * 256 = 2 ^ 8 * (r / 256) := by omega
    have e2 : r / 256 * 256 + r % 256 = 2 ^ 8 * (r / 256) + r % 2 ^ 8 := by
      have p8 : (2 : Nat) ^ 8 = 256 := rfl
      rw [p8, Nat.mul_comm]
    rw [e2, e1, Nat.testBit_two_pow_mul_add _ (Nat.mod_lt _ (Nat.two_pow_pos 8)), Nat.testBit_two_pow_mul]
    have e3 : r % 256 = r % 2 ^ 8 := rfl
    rw [e3, Nat.testBit_mod_two_pow]
    by_cases hi : i < 8
    · have h8 : ¬ 8 ≤ i := by omega
      simp [hi, h8]
    · have h8 : 8 ≤ i := by omega
      simp [hi, h8]
  have e4 : r / 256 * 256 + r % 256 = r := by omega
  exact (h.trans e4).symm
theorem tabL_get {x : Nat} (hx : x < 256) : tabL[x]? = some (bitsN 8 (x * 256)) := by
  have e : crcL [UInt8.ofNat x] = bitsN 8 (x * 256) := by
    unfold crcL crcByte
    simp only [List.foldl_cons, List.foldl_nil, Nat.zero_xor]
    rw [UInt8.toNat_ofNat', Nat.mod_eq_of_lt (by omega)]
  have h := tabLN_get 256 x hx
  rw [e] at h
  exact h
theorem tabL_lt : ∀ x ∈ tabL, x < 65536 := by
  intro x hx
  exact tabLN_lt 256 x hx
theorem tabL_len : tabL.length = 256 := tabLN_len 256
theorem byStep_tab {r : Nat} (hr : r < 65536) (c : UInt8) : byStep tabL r c = crcByte r c := by
  have hc := u8lt c
  have hx : (r / 256) ^^^ c.toNat < 256 := Nat.xor_lt_two_pow (n := 8) (by omega) hc
  have hsmall := bitsN_small 8 (r % 256) (by omega) (by omega)
  unfold byStep crcByte
  rw [tabL_get hx]
  have hl : ((r / 256) ^^^ c.toNat) * 256 < 65536 := by omega
  have e : r ^^^ (c.toNat * 256) = (((r / 256) ^^^ c.toNat) * 256) ^^^ (r % 256) := by
    rw [shl_xor]
    conv => lhs; rw [split_xor r]
    rw [Nat.xor_assoc, Nat.xor_comm (r % 256), ← Nat.xor_assoc]
  rw [e, bitsN_xor hl (by omega), hsmall, Nat.xor_comm (bitsN 8 _)]
  simp only [Option.getD_some]
  have e5 : r * 256 % 65536 = r % 256 * 2 ^ 8 := by omega
  rw [e5]
theorem by_tab_from (bs : List UInt8) : ∀ (r : Nat), r < 65536 → bs.foldl (byStep tabL) r = bs.foldl crcByte r := by
  induction bs with
  | nil => intro r _; rw [List.foldl_nil, List.foldl_nil]
  | cons c bs ih => intro r hr; rw [List.foldl_cons, List.foldl_cons, byStep_tab hr c]; exact ih _ (crcByte_lt c hr)
theorem by_tab (bs : List UInt8) : byL tabL bs = crcL bs := by
  exact by_tab_from bs 0 (by omega)
theorem tab_of_blk {w : World} {g : Nat} {t : TypeId} (h : Blk w g t (tabAt 256)) : Tab w (g + 1) ⟨g, 0, none⟩ tabL := by
  refine ⟨tabL_len, tabL_lt, Nat.lt_succ_self _, fun j x hj => ?_⟩
  have hj' : j < 256 := by
    rcases Nat.lt_or_ge j 256 with hl | hl
    · exact hl
    · rw [List.getElem?_eq_none (by rw [tabL_len]; exact hl)] at hj; cases hj
  have e : (⟨g, 0, none⟩ : Addr).add j = ⟨g, j, none⟩ := by unfold Addr.add; split <;> simp_all
  have hx : crcL [UInt8.ofNat j] = x := by
    have h1 := tabLN_get 256 j hj'
    exact Option.some.inj (h1.symm.trans hj)
  rw [e, h.cell, tabAt_get 256 j hj', if_pos hj', hx]
end Go.Proofs.Ytljnncakgndgpaa
