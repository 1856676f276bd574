/-
  What 'Size' of a block answers.
-/
import Derived.Test.YtonloefjhofeeaaGreatDoorMake
import Derived.Test.YtonloefjhofeeaaGreatDoorBlockPlain
import Derived.WalkKit
import Derived.ProofKit
import Derived.WalkLawsBesides
import Derived.IntWalk
import Derived.RegionTactic
import Derived.BigRegion
import Derived.ChangeAlike
import Derived.Deep.QuietTactic
import Derived.BigQuiet
import Derived.Deep.RegionHeld3
import Derived.Deep.DrawnRows
import Derived.Outline
import Derived.Test.YtonloefjhofeeaaGreatDoorSum
namespace Go.Proofs.YtonloefjhofeeaaGreatDoor
open Go.RowKit
set_option linter.unusedVariables false

theorem dataSize_any (x : Nat) (hx : x < 256) (w : World) :
    Calls Tryz.prog 75 #[.int .u8 (x : Int)] w fun e w' => e = .returned (.int .i64 (szD x : Nat)) ∧ w = w' := by
  by_cases h1 : x = 1
  · subst h1
    go_enter Tryz.func75, Tryz.ntmps75
    go_wp2
    go_ret
    exact ⟨ret_int (by simp [szD]), rfl⟩
  · by_cases h2 : x = 2
    · subst h2
      go_enter Tryz.func75, Tryz.ntmps75
      go_wp2
      go_ret
      exact ⟨ret_int (by simp [szD]), rfl⟩
    · have e1 : ((x : Int) == 1) = false := by simp; omega
      have e2 : ((x : Int) == 2) = false := by simp; omega
      have HZ := keepHid (szD_other h1 h2)
      clear h1 h2
      go_enter Tryz.func75, Tryz.ntmps75
      go_wp2
      go_ret
      exact ⟨ret_int (by rw [HZ.out]; rfl), rfl⟩

theorem dataSize_1 (w : World) : Calls Tryz.prog 75 #[.int .u8 1] w fun e w' => e = .returned (.int .i64 128) ∧ w = w' := dataSize_any 1 (by omega) w
theorem dataSize_2 (w : World) : Calls Tryz.prog 75 #[.int .u8 2] w fun e w' => e = .returned (.int .i64 1024) ∧ w = w' := dataSize_any 2 (by omega) w

theorem size_any (x : Nat) (hx : x < 256) (crc : Bool) (w : World) :
    Calls Tryz.prog 62 #[.int .u8 (x : Int), .bool crc] w fun e w' => e = .returned (.int .i64 (szA x crc : Nat)) ∧ w = w' := by
  obtain ⟨n, hn⟩ : ∃ n, szD x = n := ⟨_, rfl⟩
  have HN := keepHid hn
  have hle : n ≤ 1024 := by rw [← hn]; exact szD_le x
  clear hn
  by_cases h0 : n = 0
  · subst h0
    go_enter Tryz.func62, Tryz.ntmps62
    go_wp2_with fail
    refine (dataSize_any x hx _).mono ?_
    rintro e w' ⟨rfl, rfl⟩
    rw [HN.out]
    go_wp2
    go_ret
    exact ⟨ret_int (by unfold szA; rw [HN.out]; rfl), rfl⟩
  · have e0 : ((n : Int) == 0) = false := by simp; omega
    cases crc
    all_goals
      go_enter Tryz.func62, Tryz.ntmps62
      go_wp2_with fail
      refine (dataSize_any x hx _).mono ?_
      rintro e w' ⟨rfl, rfl⟩
      rw [HN.out]
      go_wp2
      go_ret
      exact ⟨ret_int (by unfold szA szT; rw [HN.out, if_neg h0]; simp; try omega), rfl⟩


theorem trailer_any (crc : Bool) (A : Option Addr) (n c B : Nat) (bs : List UInt8) (w : World) (h : Bys w B A n bs) :
    Calls Tryz.prog 63 #[.slice A n c, .bool crc] w (RetB w (trl crc bs)) := by
  cases crc
  · have h1 := chk_lt bs
    have HF : Hid (∀ C : Array Value, C = byteVals (trl false bs) → RetB w (trl false bs) (.returned (.slice (some ⟨w.heap.size, 0, none⟩) 1 1)) (w.alloc (.cells C 5))) := keepHid fun C hC =>
      ⟨_, 1, rfl, own_new w w.heap.size _ 1 _ C rfl (Nat.le_refl _) rfl hC (by omega), Nat.le_refl _, by omega, (Below.refl _ _).alloc (Nat.le_refl _) _⟩
    go_enter Tryz.func63, Tryz.ntmps63
    go_wp2_with fail
    refine (check_any _ _ _ _ _ _ h).mono ?_
    rintro e w' ⟨rfl, rfl⟩
    go_wp2
    go_ret
    exact HF.out _ (by simp [byteVals, trl]; omega)
  · have h1 := crc_lt bs
    have HF : Hid (∀ C : Array Value, C = byteVals (trl true bs) → RetB w (trl true bs) (.returned (.slice (some ⟨w.heap.size, 0, none⟩) 2 2)) (w.alloc (.cells C 5))) := keepHid fun C hC =>
      ⟨_, 2, rfl, own_new w w.heap.size _ 2 _ C rfl (Nat.le_refl _) rfl hC (by omega), Nat.le_refl _, by omega, (Below.refl _ _).alloc (Nat.le_refl _) _⟩
    go_enter Tryz.func63, Tryz.ntmps63
    go_wp2_with fail
    refine (crc_any _ _ _ _ _ _ h).mono ?_
    rintro e w' ⟨rfl, rfl⟩
    go_wp2
    go_ret
    exact HF.out _ (by simp [byteVals, trl]; omega)


/-- The lead of a block with so many bytes of data. -/
def leadVals (n : Nat) : Array Value := if n = 128 then #[.int .u8 1, .bool true] else if n = 1024 then #[.int .u8 2, .bool true] else #[.int .u8 0, .bool false]
theorem leadOf_any (n : Nat) (hn : n ≤ 9223372036854775807) (w : World) :
    Calls Tryz.prog 61 #[.int .i64 (n : Int)] w fun e w' => e = .returned (.tuple (leadVals n)) ∧ Below w.heap.size w w' := by
  obtain ⟨w1, hw1⟩ : ∃ w1, w.alloc (.cells #[.int .u8 1, .int .u8 2] 5) = w1 := ⟨_, rfl⟩
  have hc0 : w1.cell? ⟨w.heap.size, 0, none⟩ = some (.int .u8 1) := by rw [← hw1]; exact (Blk.new w _ _).cell 0
  have hc1 : w1.cell? ⟨w.heap.size, 1, none⟩ = some (.int .u8 2) := by rw [← hw1]; exact (Blk.new w _ _).cell 1
  have HB : Hid (Below w.heap.size w w1) := keepHid (by rw [← hw1]; exact (Below.refl _ _).alloc (Nat.le_refl _) _)
  go_enter Tryz.func61, Tryz.ntmps61
  go_wp2
  clear hw1
  go_loop [8] (fun i => ∃ k : Nat, k ≤ 2 ∧ i = .int .i64 k ∧ (0 < k → n ≠ 128) ∧ (1 < k → n ≠ 1024)) (fun i => 2 - (intOf i).toNat)
  case atStart => exact ⟨0, Nat.zero_le _, rfl, by omega, by omega⟩
  case round =>
    obtain ⟨k, hk, rfl, h1, h2⟩ := hrel
    rcases (by omega : k = 0 ∨ k = 1 ∨ 2 ≤ k) with rfl | rfl | hk2
    · by_cases hn1 : n = 128
      · subst hn1
        go_wp2_with ((with_reducible refine (dataSize_1 _).mono ?_); rintro e w' ⟨rfl, rfl⟩)
        go_ret2
        exact ⟨rfl, HB.out⟩
      · have e0 : ((128 : Int) == (n : Int)) = false := by simp; omega
        go_wp2_with ((with_reducible refine (dataSize_1 _).mono ?_); rintro e w' ⟨rfl, rfl⟩)
        go_round
        case rel => exact ⟨1, by omega, by go_num, fun _ => hn1, by omega⟩
        case measure => simp [intOf]
    · by_cases hn1 : n = 1024
      · subst hn1
        go_wp2_with ((with_reducible refine (dataSize_2 _).mono ?_); rintro e w' ⟨rfl, rfl⟩)
        go_ret2
        exact ⟨rfl, HB.out⟩
      · have e0 : ((1024 : Int) == (n : Int)) = false := by simp; omega
        go_wp2_with ((with_reducible refine (dataSize_2 _).mono ?_); rintro e w' ⟨rfl, rfl⟩)
        go_round
        case rel => exact ⟨2, by omega, by go_num, fun _ => h1 (by omega), fun _ => hn1⟩
        case measure => simp [intOf]
    · go_wp2
      go_ret2
      exact ⟨by unfold leadVals; rw [if_neg (h1 (by omega)), if_neg (h2 (by omega))]; rfl, HB.out⟩

/-- A block by value. -/
def blkV (num : UInt8) (A : Option Addr) (n c : Nat) : Value := .agg #[.int .u8 (num.toNat : Int), .slice A n c]
/-- What 'Make' returns. -/
def MakePost (w : World) (bs : List UInt8) (e : Ending) (w' : World) : Prop :=
  ∃ A c, e = .returned (.tuple #[.slice A bs.length c, .bool true]) ∧ OwnB w' w.heap.size 5 (.slice A bs.length c) bs.length bs ∧ bs.length ≤ c ∧ c ≤ 9223372036854775807 ∧ Below w.heap.size w w'
theorem leadVals_128 : leadVals 128 = #[.int .u8 1, .bool true] := rfl
theorem leadVals_1024 : leadVals 1024 = #[.int .u8 2, .bool true] := rfl
theorem leadVals_other {n : Nat} (h : n ≠ 128) (h2 : n ≠ 1024) : leadVals n = #[.int .u8 0, .bool false] := by unfold leadVals; rw [if_neg h, if_neg h2]
theorem make_none (num : UInt8) (A : Option Addr) (n c : Nat) (crc : Bool) (h : n ≠ 128) (h2 : n ≠ 1024) (hn : n ≤ 9223372036854775807) (w : World) :
    Calls Tryz.prog 43 #[blkV num A n c, .bool crc] w fun e w' => e = .returned (.tuple #[.slice none 0 0, .bool false]) ∧ Below w.heap.size w w' := by
  have HL := keepHid (leadVals_other h h2)
  have HB : Hid (Below w.heap.size w (w.alloc (.cells #[.int .u8 (num.toNat : Int), .slice A n c] 92))) := keepHid ((Below.refl _ _).alloc (Nat.le_refl _) _)
  unfold blkV
  go_enter Tryz.func43, Tryz.ntmps43
  go_wp2_with fail
  refine (leadOf_any n hn _).mono ?_
  rintro e w2 ⟨rfl, hb⟩
  rw [HL.out]
  go_wp2
  go_ret2
  exact ⟨rfl, HB.out.trans (hb.mono HB.out.size)⟩

set_option maxRecDepth 100000 in
theorem make_at (num : UInt8) (A : Option Addr) (n c B : Nat) (bs : List UInt8) (crc : Bool) (l N : Nat) (hn : n ≤ 1024) (hl : l < 256) (hlv : leadVals n = #[.int .u8 (l : Int), .bool true]) (hN : szA l crc = N) (hN2 : N ≤ 4096)
    (hlead : leadB n = UInt8.ofNat l) (w : World) (h : Bys w B A n bs) (hB : B ≤ w.heap.size) :
    Calls Tryz.prog 43 #[blkV num A n c, .bool crc] w (MakePost w (enc num bs crc)) := by
  obtain ⟨w1, hw1⟩ : ∃ w1, w.alloc (.cells #[.int .u8 (num.toNat : Int), .slice A n c] 92) = w1 := ⟨_, rfl⟩
  have hc0 : w1.cell? ⟨w.heap.size, 0, none⟩ = some (.int .u8 (num.toNat : Int)) := by rw [← hw1]; exact (Blk.new w _ _).cell 0
  have hc1 : w1.cell? ⟨w.heap.size, 1, none⟩ = some (.slice A n c) := by rw [← hw1]; exact (Blk.new w _ _).cell 1
  have hs1 : w1.heap.size = w.heap.size + 1 := by rw [← hw1]; simp
  have HB1 : Hid (Below w.heap.size w w1) := keepHid (by rw [← hw1]; exact (Below.refl _ _).alloc (Nat.le_refl _) _)
  have H := keepHid h
  have HLV := keepHid hlv
  have HN := keepHid hN
  clear h hlv hN
  unfold blkV
  go_enter Tryz.func43, Tryz.ntmps43
  go_wp2_with fail
  refine (leadOf_any n (by omega) _).mono ?_
  rintro e w2 ⟨rfl, hb⟩
  rw [HLV.out]
  clear hw1
  go_wp2_with fail
  refine (size_any l hl crc _).mono ?_
  rintro e w' ⟨rfl, rfl⟩
  rw [HN.out]
  have hmk := run_mkbs (N : Int) 0 0 N rfl rfl (Nat.zero_le _) (by omega) w2
  obtain ⟨w3, hw3⟩ : ∃ w3, w2.alloc (.cells (zrow N) 5) = w3 := ⟨_, rfl⟩
  rw [hw3] at hmk
  have hs2 : w.heap.size + 1 ≤ w2.heap.size := by rw [← hs1]; exact hb.size
  have hb13 : Below (w.heap.size + 1) w1 w3 := by rw [← hw3, ← hs1]; exact hb.alloc hb.size _
  have HB3 : Hid (Below w.heap.size w w3) := keepHid (HB1.out.trans (hb13.mono (by omega)))
  have hd0 : w3.cell? ⟨w.heap.size, 0, none⟩ = some (.int .u8 (num.toNat : Int)) := (hb13.cell (show w.heap.size < _ by omega)).trans hc0
  have hd1 : w3.cell? ⟨w.heap.size, 1, none⟩ = some (.slice A n c) := (hb13.cell (show w.heap.size < _ by omega)).trans hc1
  have HO3 : Hid (OwnB w3 (w.heap.size + 1) 5 (.slice (some ⟨w2.heap.size, 0, none⟩) 0 N) 0 []) := keepHid (by rw [← hw3]; exact own_room w2 _ _ N rfl hs2 (by omega))
  clear hw3 hb hb13 hc0 hc1 HB1
  have hu := u8lt num
  generalize w2.heap.size = g2 at *
  clear hs2 hs1
  have hnot := not_u8 num
  have h3 : ∀ (W : World) (g : Nat) (x : Int), g = W.heap.size → x = ((255 - num).toNat : Int) → Bys (W.alloc (.cells #[.int .u8 (l : Int), .int .u8 (num.toNat : Int), .int .u8 x] 5)) (g + 1) (some ⟨g, 0, none⟩) 3 [UInt8.ofNat l, num, 255 - num] := fun W g x hg hx =>
    bys_new W _ [UInt8.ofNat l, num, 255 - num] 3 rfl (by decide) _ (by subst hx; simp [byteVals]; omega) g hg
  have HH := keepHid h3
  have hsz : (w.heap.size + 1) ≤ w3.heap.size := by
    rcases Nat.lt_or_ge w.heap.size w3.heap.size with h | h
    · exact h
    · rw [show w3.cell? ⟨w.heap.size, 0, none⟩ = none from by simp [World.cell?, Array.getElem?_eq_none h]] at hd0; cases hd0
  clear h3
  go_wp2_with (at_builtin; go_loud (refine wpList_append_bytes _ rfl _ _ 31 rfl (w.heap.size + 1) 5 byteT _ _ _ (by rfl) (HO3.out.alloc _) _ _ _ _ _ (by rfl) (HH.out _ _ _ rfl hnot) _ (Nat.zero_add _) (by omega) (by simp; omega) ?_))
  intro A4 cap4 w4 ho4 ht4 _ _ _
  have hb34 : Below (w.heap.size + 1) w3 w4 := ((Below.refl _ _).alloc hsz _).trans (ht4.below (own_base HO3.out) (by simp; omega))
  have HB4 : Hid (Below w.heap.size w w4) := keepHid (HB3.out.trans (hb34.mono (by omega)))
  have he1 : w4.cell? ⟨w.heap.size, 1, none⟩ = some (.slice A n c) := (hb34.cell (show w.heap.size < _ by omega)).trans hd1
  have HO4 := keepHid ho4
  have hs4 : w.heap.size + 1 ≤ w4.heap.size := Nat.le_trans hsz hb34.size
  clear hd0 hd1 HO3 HB3 ht4 ho4 hb34 hsz HH hmk
  go_wp2_with (at_builtin; go_loud (refine wpList_append_bytes _ rfl _ _ 31 rfl (w.heap.size + 1) 5 byteT _ _ _ (by rfl) HO4.out _ _ _ _ _ (by rfl) ((H.out.more hB).below HB4.out) (3 + n) (by omega) (by omega) (by omega) ?_))
  intro A5 cap5 w5 ho5 ht5 _ _ _
  have hb45 : Below (w.heap.size + 1) w4 w5 := ht5.below (own_base HO4.out) hs4
  have HB5 : Hid (Below w.heap.size w w5) := keepHid (HB4.out.trans (hb45.mono (by omega)))
  have hf1 : w5.cell? ⟨w.heap.size, 1, none⟩ = some (.slice A n c) := (hb45.cell (show w.heap.size < _ by omega)).trans he1
  have HO5 := keepHid ho5
  have hs5 : w.heap.size + 1 ≤ w5.heap.size := Nat.le_trans hs4 hb45.size
  clear he1 HO4 HB4 ht5 ho5 hb45 hs4
  go_wp2_with fail
  refine (trailer_any crc _ _ _ _ _ _ ((H.out.more hB).below HB5.out)).mono ?_
  rintro e w6 ⟨A6, c6, rfl, ho6, hc1, hc2, hb6⟩
  have hl6 := trl_len crc bs
  have hp6 := szT_pos crc
  have h6 := ho6.bys (by omega)
  have hb56 : Below (w.heap.size + 1) w5 w6 := hb6.mono hs5
  have HB6 : Hid (Below w.heap.size w w6) := keepHid (HB5.out.trans (hb56.mono (by omega)))
  have hs6 : w.heap.size + 1 ≤ w6.heap.size := Nat.le_trans hs5 hb56.size
  have HO6 : Hid (OwnB w6 (w.heap.size + 1) 5 (.slice A5 (3 + n) cap5) (3 + n) ([UInt8.ofNat l, num, 255 - num] ++ bs)) := keepHid (HO5.out.keep fun i _ hi => hb6.block i hi)
  have H6 := keepHid h6
  clear ho6 hb6 h6 hb56 HO5 HB5 hs5
  have HL6 := keepHid hl6
  clear hl6
  go_wp2_with (at_builtin; go_loud (refine wpList_append_bytes _ rfl _ _ 31 rfl (w.heap.size + 1) 5 byteT _ _ _ (by rfl) HO6.out _ _ _ _ _ (by rfl) H6.out _ rfl (by rw [HL6.out]; omega) (by omega) ?_))
  intro A7 cap7 w7 ho7 ht7 _ hc71 hc72
  have hb67 : Below (w.heap.size + 1) w6 w7 := ht7.below (own_base HO6.out) hs6
  have HB7 : Hid (Below w.heap.size w w7) := keepHid (HB6.out.trans (hb67.mono (by omega)))
  have e7 : UInt8.ofNat l :: num :: (255 - num) :: (bs ++ trl crc bs) = enc num bs crc := by
    unfold enc; rw [H.out.len, hlead]
  have e8 : 3 + n + (trl crc bs).length = (enc num bs crc).length := by rw [HL6.out, enc_len, H.out.len]
  rw [e7, e8] at ho7
  rw [e8] at hc71
  have hret : MakePost w (enc num bs crc) (.returned (.tuple #[.slice A7 (3 + n + (trl crc bs).length) cap7, .bool true])) w7 :=
    ⟨A7, cap7, by rw [e8], own_lower ho7 (Nat.le_succ _), hc71, hc72, HB7.out⟩
  have HR := keepHid hret
  clear hret
  go_wp2
  go_ret2
  exact HR.out

theorem make_any (num : UInt8) (A : Option Addr) (n c B : Nat) (bs : List UInt8) (crc : Bool) (hn : n = 128 ∨ n = 1024) (w : World) (h : Bys w B A n bs) (hB : B ≤ w.heap.size) :
    Calls Tryz.prog 43 #[blkV num A n c, .bool crc] w (MakePost w (enc num bs crc)) := by
  have hc := szT_pos crc
  rcases hn with rfl | rfl
  · exact make_at num A 128 c B bs crc 1 (3 + 128 + szT crc) (by omega) (by omega) rfl rfl (by omega) rfl w h hB
  · exact make_at num A 1024 c B bs crc 2 (3 + 1024 + szT crc) (by omega) (by omega) rfl rfl (by omega) rfl w h hB
end Go.Proofs.YtonloefjhofeeaaGreatDoor
