/-
  What the law's own helpers answer: 'Blocks', 'answer'.
-/
import Derived.Test.YtjbkhaoddababaaSenderOf
import Derived.Test.YtjbkhaoddababaaBlockData
import Derived.Test.YtjbkhaoddababaaConv
namespace Go.Proofs.Ytjbkhaoddababaa
open Go.RowKit
set_option linter.unusedVariables false

/-- Rows of data as blocks: numbered from 1 on. -/
def numb (rows : List (List UInt8)) : Bks := rows.mapIdx fun j d => (UInt8.ofNat (j + 1), d)
theorem numb_len (rows : List (List UInt8)) : (numb rows).length = rows.length := by simp [numb]
theorem numb_at {rows : List (List UInt8)} {j : Nat} {p : UInt8 × List UInt8} (h : (numb rows)[j]? = some p) : rows[j]? = some p.2 ∧ p.1 = UInt8.ofNat (j + 1) := by
  unfold numb at h
  rw [List.getElem?_mapIdx] at h
  obtain ⟨d, hd, rfl⟩ := Option.map_eq_some_iff.1 h
  exact ⟨hd, rfl⟩
theorem blkS_num {w : World} {g n : Nat} {cs : Array Value} {rows : List (List UInt8)} {V : Nat → Value} (hb : Blk w g 79 cs) (hn : rows.length = n) (hN : Num w (g + 1) n cs rows V) : BlkS w (some ⟨g, 0, none⟩) n (numb rows) := by
  refine ⟨by rw [numb_len, hn], fun j p hp => ?_⟩
  obtain ⟨h1, h2⟩ := numb_at hp
  have hj : j < n := by
    rcases Nat.lt_or_ge j rows.length with hl | hl
    · omega
    · rw [List.getElem?_eq_none hl] at h1; cases h1
  obtain ⟨A, c, e1, e2, e3, e4, e5, e6, _⟩ := hN j p.2 hj h1
  have ea : ∀ i, (⟨g, 0, none⟩ : Addr).add i = ⟨g, i, none⟩ := fun i => by unfold Addr.add; split <;> simp_all
  refine ⟨⟨g, 0, none⟩, A, c, rfl, hb.lt, ?_, ?_, e4.bys (by omega)⟩
  · rw [ea, hb.cell, e2, h2]
    try congr 2
    try rw [UInt8.toNat_ofNat']
    try simp
  · rw [ea, hb.cell, e3]
/-- The law's data: the row of block k, and all of them. -/
def rowB (b : List UInt8) (long : Bool) (k : Nat) : List UInt8 := (dat b (longN (long && k % 2 == 0))).set 0 (UInt8.ofNat k)
def rowsB (b : List UInt8) (long : Bool) (m : Nat) : List (List UInt8) := (List.range m).map (rowB b long)
theorem rowB_len (b : List UInt8) (long : Bool) (k : Nat) : (rowB b long k).length = longN (long && k % 2 == 0) := by simp [rowB, dat_len]
theorem rowsB_len (b : List UInt8) (long : Bool) (m : Nat) : (rowsB b long m).length = m := by simp [rowsB]
theorem rowsB_succ (b : List UInt8) (long : Bool) (m : Nat) : rowsB b long (m + 1) = rowsB b long m ++ [rowB b long m] := by simp [rowsB, List.range_succ]
theorem rowsB_at {b : List UInt8} {long : Bool} {m j : Nat} {d : List UInt8} (h : (rowsB b long m)[j]? = some d) : j < m ∧ d = rowB b long j := by
  unfold rowsB at h
  rw [List.getElem?_map] at h
  obtain ⟨i, hi, rfl⟩ := Option.map_eq_some_iff.1 h
  obtain ⟨h1, h2⟩ := List.getElem?_eq_some_iff.1 hi
  simp at h2
  subst h2
  exact ⟨by simpa using h1, rfl⟩
theorem rowB_or (b : List UInt8) (long : Bool) (k : Nat) : (rowB b long k).length = 128 ∨ (rowB b long k).length = 1024 := by
  rw [rowB_len]
  exact longN_or _
/-- The law's blocks. -/
def blk10 (b : List UInt8) (long : Bool) (m : Nat) : Bks := numb (rowsB b long m)
theorem blk10_len (b : List UInt8) (long : Bool) (m : Nat) : (blk10 b long m).length = m := by rw [blk10, numb_len, rowsB_len]
theorem blk10_at {b : List UInt8} {long : Bool} {m j : Nat} {p : UInt8 × List UInt8} (h : (blk10 b long m)[j]? = some p) : j < m ∧ p = (UInt8.ofNat (j + 1), rowB b long j) := by
  obtain ⟨h1, h2⟩ := numb_at h
  obtain ⟨h3, h4⟩ := rowsB_at h1
  exact ⟨h3, by rw [← h4, ← h2]⟩
theorem blk10_get (b : List UInt8) (long : Bool) {m j : Nat} (h : j < m) : (blk10 b long m)[j]? = some (UInt8.ofNat (j + 1), rowB b long j) := by
  obtain ⟨p, hp⟩ : ∃ p, (blk10 b long m)[j]? = some p := ⟨_, List.getElem?_eq_getElem (by rw [blk10_len]; exact h)⟩
  rw [hp, (blk10_at hp).2]
theorem blk10_sized {b : List UInt8} {long : Bool} {m : Nat} : ∀ p ∈ blk10 b long m, p.2.length ≤ 1024 := by
  intro p hp
  obtain ⟨j, hj⟩ := List.getElem?_of_mem hp
  rw [(blk10_at hj).2]
  rcases rowB_or b long j with h | h <;> (simp only; omega)
theorem blk10_ok {b : List UInt8} {long : Bool} {m j : Nat} {p : UInt8 × List UInt8} (h : (blk10 b long m)[j]? = some p) : encOk p.2 = true := by
  rw [(blk10_at h).2]
  rcases rowB_or b long j with h | h <;> simp [encOk, h]

def Blocks10 (w : World) (n : Nat) (bl : Bks) (e : Ending) (w' : World) : Prop :=
  ∃ g, e = .returned (.slice (some ⟨g, 0, none⟩) n n) ∧ BlkS w' (some ⟨g, 0, none⟩) n bl ∧ Below w.heap.size w w'
set_option maxRecDepth 100000 in
set_option maxHeartbeats 4000000 in
theorem blocks10_any (A : Option Addr) (n c : Nat) (bs : List UInt8) (x : Int) (m : Nat) (long : Bool) (hx : 0 ≤ x ∧ x ≤ 255) (hm : x % 5 = (m : Int)) (w : World) (h : Bys w w.heap.size A n bs) :
    Calls Try.prog 9 #[.slice A n c, .int .u8 x, .bool long] w (Blocks10 w m (blk10 bs long m)) := by
  have hm4 : m ≤ 4 := by omega
  have ht : x.tmod 5 = (m : Int) := by rw [Int.tmod_eq_emod_of_nonneg hx.1]; exact hm
  have H := keepHid h
  clear h hm hx
  go_enter Try.func9, Try.ntmps9
  go_wp2
  go_loopw [7, 8] (fun pv kv wr => ∃ (k : Nat) (P : Option Addr) (cap : Nat), kv = .int .i64 k ∧ k ≤ m ∧ pv = .slice P k cap ∧ k ≤ cap ∧ cap ≤ 9223372036854775807 ∧ Rows' wr w.heap.size (.slice P k cap) (rowsB bs long k) ∧ Below w.heap.size w wr) (fun _ kv _ => m - (intOf kv).toNat)
  case atStart => exact ⟨0, none, 0, rfl, Nat.zero_le _, rfl, Nat.le_refl _, by omega, Rows'.nil _ _, Below.refl _ _⟩
  case round =>
    obtain ⟨k, P, cap, rfl, hk, rfl, hpc, hpm, hp, hb⟩ := hrel
    have HP := keepHid hp
    have HB := keepHid hb
    clear hp hb
    rcases Nat.lt_or_ge k m with hlt | hge
    · have HDT : Hid (∀ e, Calls Try.prog 24 #[.slice A n c, .bool e] wr fun r w2 => ∃ A2 c2 L, r = .returned (.slice A2 L c2) ∧ (dat bs (longN e)).length = L ∧ OwnB w2 wr.heap.size 5 (.slice A2 L c2) L (dat bs (longN e)) ∧ L ≤ c2 ∧ c2 ≤ 9223372036854775807 ∧ Below wr.heap.size wr w2) := keepHid (fun e =>
        (data_any A n c w.heap.size bs e wr (H.out.below HB.out) HB.out.size).mono fun r w2 ⟨A2, c2, h1, h2, h3, h4, h5⟩ => ⟨A2, c2, _, h1, rfl, h2, h3, h4, h5⟩)
      have key : ∀ e : Bool, e = (long && k % 2 == 0) → ∀ w2 (A2 : Option Addr) (c2 L : Nat), (dat bs (longN e)).length = L → OwnB w2 wr.heap.size 5 (.slice A2 L c2) L (dat bs (longN e)) → L ≤ c2 → c2 ≤ 9223372036854775807 → Below wr.heap.size wr w2 →
          ∃ row, row = rowB bs long k ∧ ∃ g2, A2 = some ⟨g2, 0, none⟩ ∧ 0 < L ∧ row.length = L ∧ (∃ u, w2.cell? ⟨g2, 0, none⟩ = some u) ∧ w2.frozen? ⟨g2, 0, none⟩ = false ∧ ∀ w3, (w2.setCell ⟨g2, 0, none⟩ (.int .u8 (k : Int))).alloc (.cells #[.slice (some ⟨g2, 0, none⟩) L c2] 24) = w3 →
            Bys w3 w3.heap.size (some ⟨g2, 0, none⟩) L row ∧ Below wr.heap.size wr w3 ∧ w3.cell? ⟨w2.heap.size, 0, none⟩ = some (.slice (some ⟨g2, 0, none⟩) L c2) ∧ wr.heap.size ≤ g2 := by
        rintro e rfl w2 A2 c2 L hL ho h1 h2 hb2
        have hL0 : 0 < L := by
          rw [← hL, dat_len]
          rcases longN_or (long && k % 2 == 0) with h | h <;> omega
        obtain ⟨g2, _, hv, hg1, hg2, _, _⟩ := ho.some_form hL0
        obtain rfl : A2 = some ⟨g2, 0, none⟩ := by injection hv
        have hby := ho.bys (by omega)
        obtain ⟨ad, u, ea, _, hu, hcell⟩ := hby.at_ hL0
        obtain rfl := Option.some.inj ea
        have e0 : (⟨g2, 0, none⟩ : Addr).add 0 = ⟨g2, 0, none⟩ := rfl
        rw [e0] at hcell
        refine ⟨_, rfl, g2, rfl, hL0, by rw [rowB_len, ← hL, dat_len], ⟨_, hcell⟩, ?_, fun w3 hw3 => ?_⟩
        · exact ho.frozen 0
        · have hk5 : ((UInt8.ofNat k).toNat : Int) = (k : Int) := by
            rw [UInt8.toNat_ofNat']; omega
          have hby2 := bys_set hby hu (UInt8.ofNat k)
          rw [hk5] at hby2
          have hrow : (dat bs (longN (long && k % 2 == 0))).set 0 (UInt8.ofNat k) = rowB bs long k := rfl
          rw [hrow] at hby2
          have b3 : Below wr.heap.size wr w3 := by rw [← hw3]; exact ((hb2.setCell (by omega) _).alloc (by have := hb2.size; simpa using this) _)
          refine ⟨?_, b3, ?_, hg1⟩
          · rw [← hw3]
            exact (hby2.alloc (by simp) _).more (by simp)
          · rw [← hw3]
            have := (Blk.new (w2.setCell ⟨g2, 0, none⟩ (.int .u8 (k : Int))) 24 #[.slice (some ⟨g2, 0, none⟩) L c2]).cell 0
            simpa using this
      have KEY := keepHid key
      obtain ⟨e0, he0⟩ : ∃ e0, (k % 2 == 0) = e0 := ⟨_, rfl⟩
      have hk2 : (k : Int).tmod 2 = ((k % 2 : Nat) : Int) := by rw [Int.tmod_eq_emod_of_nonneg (by omega)]; omega
      have q0 : (((k % 2 : Nat) : Int) == 0) = e0 := by
        rw [← he0]
        rw [Bool.eq_iff_iff]; simp; omega
      have HE0 := keepHid he0
      obtain ⟨r, hr⟩ : ∃ r, k % 2 = r := ⟨_, rfl⟩
      rw [hr] at hk2 q0
      have i5 : ((k : Nat) : Int) < (m : Int) := by omega
      clear key he0 hr
      cases long
      all_goals
        go_wp2_with fail
        (with_reducible refine (HDT.out _).mono ?_)
        rintro e w2 ⟨A2, c2, L, rfl, hL, ho2, hc21, hc22, hb2⟩
        obtain ⟨row, hrow, g2, rfl, hL0, hrl, ⟨u2, hu2⟩, hf2, hw⟩ := KEY.out _ (by first | rfl | exact HE0.out.symm) w2 A2 c2 L hL ho2 hc21 hc22 hb2
        obtain ⟨w3, hw3⟩ : ∃ w3, (w2.setCell ⟨g2, 0, none⟩ (.int .u8 (k : Int))).alloc (.cells #[.slice (some ⟨g2, 0, none⟩) L c2] 24) = w3 := ⟨_, rfl⟩
        obtain ⟨hby3, hb3, hc3, hgg⟩ := hw w3 hw3
        have HBY3 := keepHid hby3
        have HC3 := keepHid hc3
        have HRL := keepHid hrl
        have HROW := keepHid hrow
        have HP3 := keepHid (HP.out.below (hb3.mono (Nat.le_refl _)))
        have HB3 := keepHid (HB.out.trans (hb3.mono HB.out.size))
        have iL : (0 : Int) < (L : Int) := by omega
        have hkm : (k : Int) ≤ 4 := by omega
        clear hw hby3 hb3 hc3 hrl hrow ho2 hL hb2
        go_wp2_with (at_builtin; go_loud (refine wpList_append_part _ rfl _ _ rfl w.heap.size _ _ (by rfl) HP3.out w2.heap.size (by rfl) (some ⟨g2, 0, none⟩) c2 row ?c1 ?c2 ?c3 hc22 ?c5 ?c6 ?c7 HB3.out.size ?_))
        case c1 => rw [HRL.out]; exact HC3.out
        case c2 => rw [HRL.out]; omega
        case c3 => rw [HRL.out]; exact hc21
        case c5 => rw [HRL.out]; exact HBY3.out
        case c6 =>
          intro ad e
          obtain rfl := Option.some.inj e
          intro hh
          have := (HP.out.block hh).2
          simp only at this
          omega
        case c7 => rw [rowsB_len]; omega
        intro P4 cap4 w4 hr4 ht4
        rw [rowsB_len, HROW.out, ← rowsB_succ] at hr4
        have hb34 : Below w.heap.size w3 w4 := ht4.below (fun i hi => (HP.out.block hi).1) HB3.out.size
        have HB4 := keepHid (HB3.out.trans hb34)
        have hfm : k + 1 ≤ cap4 ∧ cap4 ≤ 9223372036854775807 := by
          obtain ⟨P', cap', hv, h1, h2⟩ := hr4.form
          have : cap4 = cap' := by injection hv
          rw [rowsB_len] at h1
          omega
        have HR4 := keepHid hr4
        clear hr4 ht4 hb34 hw3
        rw [rowsB_len]
        go_wp2
        go_roundw
        case rel => exact ⟨k + 1, P4, cap4, by go_num, by omega, rfl, hfm.1, hfm.2, HR4.out, HB4.out⟩
        case measure => simp [intOf]; omega
    · obtain rfl : k = m := by omega
      have i5 : ¬ ((k : Nat) : Int) < (k : Int) := by omega
      have HNM : Hid (Calls Try.prog 25 #[.slice P k cap] wr (Blocks10 w k (blk10 bs long k))) := keepHid (by
        have hp := HP.out
        have hr : RowsB wr P (rowsB bs long k).length (rowsB bs long k) := Rows'.rowsB (w := wr) (base := w.heap.size) (cap := cap) (by rw [rowsB_len]; exact hp)
        rw [rowsB_len] at hr
        refine (number_any P k cap (rowsB bs long k) wr hr (by omega) (fun d hd => ?_)).mono ?_
        · obtain ⟨j, hj⟩ := List.getElem?_of_mem hd
          rw [(rowsB_at hj).2]
          rcases rowB_or bs long j with h | h <;> omega
        · rintro e w' ⟨g, cs, V, rfl, e1, e2, e3, e4, e5⟩
          rw [rowsB_len] at e3 e4 ⊢
          exact ⟨g, rfl, blkS_num e2 (rowsB_len _ _ _) e4, HB.out.trans (e5.mono HB.out.size)⟩)
      go_wp2_with fail
      (with_reducible refine HNM.out.mono ?_)
      rintro e w2 ⟨g, rfl, hp2⟩
      have HP2 := keepHid hp2
      clear hp2
      go_wp2
      go_ret
      exact ⟨g, rfl, HP2.out⟩
end Go.Proofs.Ytjbkhaoddababaa
