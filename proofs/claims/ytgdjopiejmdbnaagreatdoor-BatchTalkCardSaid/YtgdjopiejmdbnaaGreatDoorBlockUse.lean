/-
  The contract of 'Scan' over any bytes; what the laws' own helpers answer: 'Data', 'made'.
-/
import Derived.Test.YtgdjopiejmdbnaaGreatDoorBlockScan
namespace Go.Proofs.YtgdjopiejmdbnaaGreatDoor
open Go.RowKit
set_option linter.unusedVariables false

theorem scan_any (A : Option Addr) (n c B : Nat) (bs : List UInt8) (crc : Bool) (w : World) (h : Bys w B A n bs) (hB : B ≤ w.heap.size) (hnc : n ≤ c) (hcm : c ≤ 9223372036854775807) :
    Calls Tryz.prog 60 #[.slice A n c, .bool crc] w (ScanPost w (scanL bs crc)) := by
  have hlen := h.len
  have of : ∀ r, scanL bs crc = r → Calls Tryz.prog 60 #[.slice A n c, .bool crc] w (ScanPost w r) → Calls Tryz.prog 60 #[.slice A n c, .bool crc] w (ScanPost w (scanL bs crc)) := fun r e k => by rw [e]; exact k
  rcases Nat.eq_zero_or_pos n with h0 | h0
  · subst h0
    obtain rfl : bs = [] := List.eq_nil_of_length_eq_zero hlen
    exact of _ (scan_nil crc) (scan_any0 A c crc w)
  obtain ⟨ad, l, rfl, _, hl, hcl⟩ := h.at_ h0
  have hcl' : w.cell? ad = some (.int .u8 (l.toNat : Int)) := by have e : ad.add 0 = ad := by unfold Addr.add; simp
                                                                 rw [e] at hcl; exact hcl
  have hf : firstOf bs = l.toNat := by
    rcases bs with _ | ⟨a, r⟩
    · simp at hl
    · simp at hl; subst hl; rfl
  have hne0 : bs.length ≠ 0 := by omega
  by_cases hz : szD l.toNat = 0
  · exact of _ (scan_lead crc hne0 (by rw [hf]; exact hz)) (scan_any1 ad n c l crc w h0 (by omega) hcl' hz)
  have hzf : szD (firstOf bs) ≠ 0 := by rw [hf]; exact hz
  have hN : szA l.toNat crc = 3 + szD l.toNat + szT crc := by unfold szA; rw [if_neg hz]
  have hTp := szT_pos crc
  have hDl := szD_le l.toNat
  rcases Nat.lt_or_ge n 3 with h3 | h3
  · have ht : third bs = true := by
      match bs, hlen with
      | [], _ => rfl
      | [a], _ => rfl
      | [a, b], _ => rfl
      | a :: b :: c :: r, hlen => simp at hlen; omega
    exact of _ (scan_few hne0 hzf ht (by rw [hf, hN]; omega)) (scan_any2 ad n c _ l crc w h0 h3 hcl' rfl (by rw [hN]; omega) (by rw [hN]; omega))
  obtain ⟨ad1, x, e1, _, hx, hcx⟩ := h.at_ (k := 1) (by omega)
  obtain ⟨ad2, y, e2, _, hy, hcy⟩ := h.at_ (k := 2) (by omega)
  obtain rfl := Option.some.inj e1
  obtain rfl := Option.some.inj e2
  have hth : third bs = (y == 255 - x) ∧ numOf bs = x := by
    match bs, hlen with
    | [], hlen => simp at hlen; omega
    | [a], hlen => simp at hlen; omega
    | [a, b], hlen => simp at hlen; omega
    | a :: b :: c :: r, hlen => simp at hx hy; subst hx hy; exact ⟨rfl, rfl⟩
  by_cases hxy : y = 255 - x
  · have ht : third bs = true := by rw [hth.1, hxy]; simp
    rcases Nat.lt_or_ge n (szA l.toNat crc) with hl2 | hl2
    · exact of _ (scan_few hne0 hzf ht (by rw [hf]; omega)) (scan_any4 ad n c _ l x y crc w h3 (by omega) hcl' hcx hcy hxy rfl (by omega) (by rw [hN]; omega))
    · have hng : ¬ bs.length < szA (firstOf bs) crc := by rw [hf]; omega
      by_cases htl : tailOf bs crc = trl crc (dataOf bs)
      · refine of _ (scan_good hne0 hzf ht hng htl) ?_
        unfold tailOf dataOf at htl
        rw [hf] at htl
        unfold dataOf
        rw [hf, hth.2]
        exact scan_any6 ad n c _ l x y crc w h3 (by omega) hcl' hcx hcy hxy rfl hl2 hnc hcm (szD l.toNat) (szT crc) hN.symm (by omega) (by omega) rfl bs B h hB htl (by rw [hN]; omega)
      · refine of _ (scan_tail hne0 hzf ht hng htl) ?_
        unfold tailOf dataOf at htl
        rw [hf] at htl
        exact scan_any5 ad n c _ l x y crc w h3 (by omega) hcl' hcx hcy hxy rfl hl2 hnc hcm (szD l.toNat) (szT crc) hN.symm (by omega) (by omega) rfl bs B h hB htl (by rw [hN]; omega)
  · have ht : third bs = false := by rw [hth.1, beq_eq_false_iff_ne]; exact hxy
    exact of _ (scan_third crc hne0 hzf ht) (scan_any3 ad n c _ l x y crc w h3 (by omega) hcl' hcx hcy hxy rfl (by rw [hN]; omega) (by rw [hN]; omega))
theorem ScanPost.is {w w' : World} {s : Nat} {x : UInt8} {d : List UInt8} {e : Ending} (h : ScanPost w (s, x, d) e w') :
    ∃ A c, e = .returned (.tuple #[.agg #[.int .u8 (x.toNat : Int), .slice A d.length c], .int .i64 (s : Int)]) ∧ OwnB w' w.heap.size 5 (.slice A d.length c) d.length d ∧ d.length ≤ c ∧ c ≤ 9223372036854775807 ∧ Below w.heap.size w w' := h

end Go.Proofs.YtgdjopiejmdbnaaGreatDoor
