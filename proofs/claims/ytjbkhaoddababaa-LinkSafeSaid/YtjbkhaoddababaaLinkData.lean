/-
  What the law's own helper 'Data' answers.
-/
import Derived.Test.YtjbkhaoddababaaLinkLaw
namespace Go.Proofs.Ytjbkhaoddababaa
open Go.RowKit
set_option linter.unusedVariables false

theorem takes_succ (bl : Bks) (k : Nat) (q : UInt8 × List UInt8) (h : bl[k]? = some q) : ((bl.take (k + 1)).map (·.2)).flatten = ((bl.take k).map (·.2)).flatten ++ q.2 := by
  rw [List.take_add_one, h]
  simp
set_option maxRecDepth 100000 in
set_option maxHeartbeats 4000000 in
theorem data12_any (A : Option Addr) (n c : Nat) (bl : Bks) (w : World) (h : BlkS w A n bl) (hn : n ≤ 1000) (hl : ∀ q ∈ bl, q.2.length ≤ 1024) :
    Calls Try.prog 22 #[.slice A n c] w fun e w' => e = .returned (.string (strB (allB bl))) ∧ Below w.heap.size w w' := by
  have H := keepHid h
  have HL := keepHid hl
  have HLEN := keepHid h.1
  have hlen : ∀ k, ((bl.take k).map (·.2)).flatten.length ≤ 1024 * k := by
    intro k
    induction k with
    | zero => simp
    | succ k ih =>
      cases hb : bl[k]? with
      | none =>
        rw [List.take_of_length_le (by have := List.getElem?_eq_none_iff.1 hb; omega)]
        rw [List.take_of_length_le (by have := List.getElem?_eq_none_iff.1 hb; omega)] at ih
        omega
      | some q =>
        rw [takes_succ bl k q hb, List.length_append]
        have := hl q (List.mem_of_getElem? hb)
        omega
  have HLN := keepHid hlen
  have hn2 : n ≤ 9223372036854775807 := by omega
  clear h hl hlen
  go_enter Try.func22, Try.ntmps22
  go_wp2_with fail
  go_loopw [3, 8] (fun sv i wr => ∃ (k : Nat), k ≤ n ∧ i = .int .i64 k ∧ sv = .string (strB ((bl.take k).map (·.2)).flatten) ∧ Below w.heap.size w wr) (fun _ i _ => n - (intOf i).toNat)
  case atStart => exact ⟨0, Nat.zero_le _, rfl, rfl, Below.refl _ _⟩
  case round =>
    obtain ⟨k, hk, rfl, rfl, hbel⟩ := hrel
    have HB := keepHid hbel
    by_cases hlt : k < n
    · obtain ⟨q, hrow⟩ : ∃ q, bl[k]? = some q := ⟨_, List.getElem?_eq_getElem (by rw [HLEN.out]; exact hlt)⟩
      obtain ⟨num, d⟩ := q
      obtain ⟨ad, Ak, ck, rfl, had, hc0, hc1, hby⟩ := H.out.2 k _ hrow
      simp only at hc0 hc1 hby
      have d0 : wr.cell? (ad.add (k * 2)) = some (.int .u8 (num.toNat : Int)) := (hbel.cell (by rw [ad_block]; exact had)).trans hc0
      have d1 : wr.cell? (ad.add (k * 2 + 1)) = some (.slice Ak d.length ck) := (hbel.cell (by rw [ad_block]; exact had)).trans hc1
      have d1' : wr.cell? ⟨(ad.add (k * 2)).block, (ad.add (k * 2)).off + 1, none⟩ = some (.slice Ak d.length ck) := by
        have e1 : (⟨(ad.add (k * 2)).block, (ad.add (k * 2)).off + 1, none⟩ : Addr) = ad.add (k * 2 + 1) := by rw [← ad_add, Addr.add_succ' (ad.add (k * 2)) 0]
        rw [e1]; exact d1
      have hbl : d.length ≤ 1024 := HL.out _ (List.mem_of_getElem? hrow)
      have HS := keepHid (takes_succ bl k _ hrow)
      obtain ⟨wt, hwt⟩ : ∃ wt, wr.alloc (.cells #[.int .u8 (num.toNat : Int), .slice Ak d.length ck] 79) = wt := ⟨_, rfl⟩
      have hbt : Below wr.heap.size wr wt := by rw [← hwt]; exact (Below.refl _ _).alloc (Nat.le_refl _) _
      have hkt : Blk wt wr.heap.size 79 #[.int .u8 (num.toNat : Int), .slice Ak d.length ck] := by rw [← hwt]; exact Blk.new wr _ _
      have t1 : wt.cell? ⟨wr.heap.size, 1, none⟩ = some (.slice Ak d.length ck) := hkt.cell 1
      have cv := run_str (P := Try.prog) (c := ck) 24 5 9 Try.underlying24 Try.underlying5 Try.underlying9 ((((hby.below hbel).more hbel.size).below hbt).more hbt.size)
      have hadd := run_strAdd (P := Try.prog) ((bl.take k).map (·.2)).flatten d (by have := HLN.out k; omega) wt
      have HBT := keepHid (hbel.trans (hbt.mono hbel.size))
      obtain ⟨acc, hacc⟩ : ∃ acc, ((bl.take k).map (·.2)).flatten = acc := ⟨_, rfl⟩
      rw [hacc] at hadd
      have HACC := keepHid hacc
      clear hbel hrow hc0 hc1 hby hbt hkt
      have hi : (k : Int) < (n : Int) := by omega
      obtain ⟨nd, hnd⟩ : ∃ nd, d.length = nd := ⟨_, rfl⟩
      rw [hnd] at d1 d1' t1 hwt cv hbl
      clear hnd
      rw [hacc]
      clear hacc
      go_wp2_with fail
      go_roundw
      case rel => exact ⟨k + 1, by omega, by go_num, by rw [HS.out, HACC.out], HBT.out⟩
      case measure => simp [intOf]; omega
    · obtain rfl : k = n := by omega
      have e : ((bl.take k).map (·.2)).flatten = allB bl := by rw [List.take_of_length_le (by rw [HLEN.out]; exact Nat.le_refl _)]; rfl
      rw [e]
      have hi : ¬ (k : Int) < (k : Int) := by omega
      clear hbel e
      go_wp2_with fail
      go_ret
      exact ⟨rfl, HB.out⟩
end Go.Proofs.Ytjbkhaoddababaa
