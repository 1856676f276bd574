/-
  What is wrong of an entry's tokens: package manifest's shape and wrong.
-/
import Derived.Test.YtkhhcclomjfliaaGreatDoorManifestWay
import Derived.Test.YtkhhcclomjfliaaGreatDoorManifestMore
namespace Go.Proofs.YtkhhcclomjfliaaGreatDoor
open Go.RowKit
set_option linter.unusedVariables false

def shpVals : Array Value := (shpT.flatMap tkL).toArray
theorem shp_tks {w : World} {g : Nat} (h : Blk w g 52 shpVals) : TkS w g shpT := by
  refine ⟨h.lt, fun j z hz => ?_⟩
  have hj : j < 11 := (List.getElem?_eq_some_iff.1 hz).1
  rw [h.cell, h.cell, h.cell, h.cell]
  rcases (by omega : j = 0 ∨ j = 1 ∨ j = 2 ∨ j = 3 ∨ j = 4 ∨ j = 5 ∨ j = 6 ∨ j = 7 ∨ j = 8 ∨ j = 9 ∨ j = 10) with rfl | rfl | rfl | rfl | rfl | rfl | rfl | rfl | rfl | rfl | rfl <;>
    (obtain rfl := Option.some.inj hz; exact ⟨rfl, rfl, rfl, rfl⟩)
theorem shape_any (w : World) : Calls Tryz.prog 17 #[] w fun e w' => e = .returned (.slice (some ⟨w.heap.size, 0, none⟩) 11 11) ∧ Below w.heap.size w w' ∧ TkS w' w.heap.size shpT := by
  obtain ⟨w1, hw1⟩ : ∃ w1, w.alloc (.cells shpVals 52) = w1 := ⟨_, rfl⟩
  have hB : Below w.heap.size w w1 := by rw [← hw1]; exact (Below.refl _ _).alloc (Nat.le_refl _) _
  have hW : TkS w1 w.heap.size shpT := by rw [← hw1]; exact shp_tks (Blk.new w _ _)
  rw [← hw1] at hB hW
  have HB := keepHid hB
  have HW := keepHid hW
  clear hB hW hw1
  go_enter Tryz.func17, Tryz.ntmps17
  go_wp2
  go_ret
  exact ⟨rfl, HB.out, HW.out⟩
/-- Tokens that are read, from an address on. -/
def TkA (w : World) (ad : Addr) (ts : List Tk) : Prop := ∀ (j : Nat) (z : Tk), ts[j]? = some z → ad.block < w.heap.size ∧ w.cell? (ad.add (j * 4)) = some (.int .i64 (z.kind : Int)) ∧ w.cell? ⟨(ad.add (j * 4)).block, (ad.add (j * 4)).off + 1, none⟩ = some (.string (strB z.text)) ∧
  w.cell? ⟨(ad.add (j * 4)).block, (ad.add (j * 4)).off + 2, none⟩ = some (.int .i64 (z.val : Int)) ∧ w.cell? ⟨(ad.add (j * 4)).block, (ad.add (j * 4)).off + 3, none⟩ = some (.int .i64 (z.pos : Int))
theorem TkA.below {w w' : World} {B : Nat} {ad : Addr} {ts : List Tk} (h : TkA w ad ts) (hb : Below B w w') (hB : w.heap.size ≤ B) : TkA w' ad ts := fun j z hz => by
  obtain ⟨h0, h1, h2, h3, h4⟩ := h j z hz
  exact ⟨Nat.lt_of_lt_of_le h0 hb.size, (hb.cell (by rw [ad_block]; omega)).trans h1, (hb.cell (by show (ad.add _).block < B; rw [ad_block]; omega)).trans h2, (hb.cell (by show (ad.add _).block < B; rw [ad_block]; omega)).trans h3, (hb.cell (by show (ad.add _).block < B; rw [ad_block]; omega)).trans h4⟩
theorem TkS.tka {w : World} {g : Nat} {ts : List Tk} (h : TkS w g ts) (k : Nat) : TkA w ⟨g, k * 4, none⟩ (ts.drop k) := fun j z hz => by
  rw [List.getElem?_drop] at hz
  obtain ⟨h0, h1, h2, h3⟩ := h.at_ _ z hz
  have e : (⟨g, k * 4, none⟩ : Addr).add (j * 4) = ⟨g, (k + j) * 4, none⟩ := by
    unfold Addr.add
    split
    · rw [show k * 4 = (k + j) * 4 by omega]
    · rw [show k * 4 + j * 4 = (k + j) * 4 by omega]
  rw [e]
  exact ⟨h.lt, h0, h1, h2, h3⟩
def errM (x : Option (Nat × Nat)) : Value := match x with
  | none => .nilIface
  | some x => faultV (x.1 : Int) (x.2 : Int)
def tkO (t : Tk) : Obj := .cells (tkA t.kind (strB t.text) t.val t.pos) 52
theorem errI_go {ts : List Tk} {n i : Nat} (h : badI ts i = none) : errI ts (n + 1) i = errI ts n (i + 1) := by rw [errI, h]
theorem errI_at {ts : List Tk} {n i : Nat} {x : Nat × Nat} (h : badI ts i = some x) : errI ts (n + 1) i = some x := by rw [errI, h]
set_option maxRecDepth 100000 in
set_option maxHeartbeats 4000000 in
theorem wrong_any (ts : List Tk) (ad : Addr) (n c : Nat) (hE : Ended ts) (hn : ts.length = n) (w : World) (hT : TkA w ad ts) :
    Calls Tryz.prog 15 #[.slice (some ad) n c] w fun e w' => e = .returned (errM (errE ts)) ∧ Below w.heap.size w w' := by
  have HE := keepHid hE
  have HN := keepHid hn
  have HT := keepHid hT
  clear hE hn hT
  go_enter Tryz.func15, Tryz.ntmps15
  go_wp2_with fail
  refine (shape_any _).mono ?_
  rintro e w1 ⟨rfl, hb, hs⟩
  have HB := keepHid hb
  have HS := keepHid hs
  have HT1 := keepHid (HT.out.below hb (Nat.le_refl _))
  have hG0 : w.heap.size ≤ w1.heap.size := hb.size
  generalize hG : w.heap.size = G at *
  have HG : Hid (G < w1.heap.size) := keepHid hs.lt
  clear hb hs HT
  go_wp2_with fail
  go_loopw [10] (fun i wr => ∃ k : Nat, k ≤ 11 ∧ i = .int .i64 (k : Int) ∧ Hid (Below w1.heap.size w1 wr) ∧ Hid (errI ts (11 - k) k = errE ts) ∧ Hid (∀ j, j < k → badI ts j = none)) (fun i _ => 11 - (intOf i).toNat)
  case atStart => exact ⟨0, Nat.zero_le _, rfl, keepHid (Below.refl _ _), keepHid rfl, keepHid (fun j h => absurd h (Nat.not_lt_zero _))⟩
  case round =>
    obtain ⟨k, hk, rfl, HBW, HI, HK⟩ := hrel
    generalize wr = wq at *
    by_cases hlt : k < 11
    · have hlt2 : (k : Int) < 11 := by omega
      have hkn : k < n := by have := HE.out.more k (by omega) HK.out; rw [HN.out] at this; exact this
      have hkn2 : (k : Int) < (n : Int) := by omega
      obtain ⟨s, hs⟩ : ∃ s, shpT[k]? = some s := ⟨_, List.getElem?_eq_getElem (by show k < 11; exact hlt)⟩
      obtain ⟨t, ht⟩ : ∃ t, ts[k]? = some t := ⟨_, List.getElem?_eq_getElem (by rw [HN.out]; exact hkn)⟩
      obtain ⟨s0, s1, s2, s3⟩ := (HS.out.below HBW.out HG.out).at_ k s hs
      obtain ⟨w2, hw2⟩ : ∃ w2, wq.alloc (.cells #[.int .i64 (s.kind : Int), .string (strB s.text), .int .i64 (s.val : Int), .int .i64 (s.pos : Int)] 52) = w2 := ⟨_, rfl⟩
      have hbs : Blk w2 wq.heap.size 52 #[.int .i64 (s.kind : Int), .string (strB s.text), .int .i64 (s.val : Int), .int .i64 (s.pos : Int)] := by rw [← hw2]; exact Blk.new wq _ _
      have hb2 : Below wq.heap.size wq w2 := by rw [← hw2]; exact (Below.refl _ _).alloc (Nat.le_refl _) _
      have hz2 : w2.heap.size = wq.heap.size + 1 := by rw [← hw2]; simp
      obtain ⟨t00, t0, t1, t2, t3⟩ := ((HT1.out.below HBW.out (Nat.le_refl _)).below hb2 (Nat.le_refl _)) k t ht
      obtain ⟨w3, hw3⟩ : ∃ w3, w2.alloc (.cells #[.int .i64 (t.kind : Int), .string (strB t.text), .int .i64 (t.val : Int), .int .i64 (t.pos : Int)] 52) = w3 := ⟨_, rfl⟩
      have hbt : Blk w3 w2.heap.size 52 #[.int .i64 (t.kind : Int), .string (strB t.text), .int .i64 (t.val : Int), .int .i64 (t.pos : Int)] := by rw [← hw3]; exact Blk.new w2 _ _
      have hb3 : Below w2.heap.size w2 w3 := by rw [← hw3]; exact (Below.refl _ _).alloc (Nat.le_refl _) _
      have hbs3 : Blk w3 wq.heap.size 52 #[.int .i64 (s.kind : Int), .string (strB s.text), .int .i64 (s.val : Int), .int .i64 (s.pos : Int)] := (hb3.block _ (by omega)).trans hbs
      have a0 : w3.cell? ⟨wq.heap.size, 0, none⟩ = some (.int .i64 (s.kind : Int)) := hbs3.cell 0
      have a1 : w3.cell? ⟨wq.heap.size, 1, none⟩ = some (.string (strB s.text)) := hbs3.cell 1
      have b0 : w3.cell? ⟨w2.heap.size, 0, none⟩ = some (.int .i64 (t.kind : Int)) := hbt.cell 0
      have b1 : w3.cell? ⟨w2.heap.size, 1, none⟩ = some (.string (strB t.text)) := hbt.cell 1
      have b3 : w3.cell? ⟨w2.heap.size, 3, none⟩ = some (.int .i64 (t.pos : Int)) := hbt.cell 3
      have HB3 : Hid (Below w1.heap.size w1 w3) := keepHid (HBW.out.trans ((hb2.trans (hb3.mono (by omega))).mono HBW.out.size))
      have HBI := keepHid (badI_is hs ht)
      have HERR : Hid (∀ x, badI ts k = some x → errM (errE ts) = faultV (x.1 : Int) (x.2 : Int)) := keepHid (fun x hx => by
        rw [← HI.out, show 11 - k = (10 - k) + 1 by omega, errI_at hx]; rfl)
      have HGO : Hid (badI ts k = none → errI ts (11 - (k + 1)) (k + 1) = errE ts ∧ ∀ j, j < k + 1 → badI ts j = none) := keepHid (fun hx => by
        refine ⟨by rw [← HI.out, show 11 - k = (11 - (k + 1)) + 1 by omega, errI_go hx], fun j hj => ?_⟩
        rcases Nat.lt_succ_iff_lt_or_eq.1 hj with h | rfl
        · exact HK.out j h
        · exact hx)
      have hbeq := strB_beq t.text s.text
      clear hbs hb2 hz2 hbt hb3 hbs3 t00 HI HK
      by_cases q1 : t.kind = s.kind
      · have k1 : ((t.kind : Int) != (s.kind : Int)) = false := by simp [q1]
        by_cases q5 : s.text ≠ [] ∧ t.text ≠ s.text
        · have hse2 : ¬ (strB s.text).toList = [] := by rw [strB_toList]; exact q5.1
          have hse3 : (strB s.text).toList.isEmpty = false := by rw [strB_toList]; simpa using q5.1
          have hne : ((strB t.text).toList == (strB s.text).toList) = false := by rw [hbeq, decide_eq_false q5.2]
          have HR := keepHid (HERR.out (2, t.pos) (by rw [HBI.out]; unfold badT misT; rw [show (t.kind == s.kind) = true by simpa using q1, show (s.text == []) = false by simpa using q5.1, show (t.text == s.text) = false by simpa using q5.2]; rfl))
          clear HERR HGO HBI hbeq q1 q5
          generalize (t.pos : Int) = P at *
          go_wp2_with fail
          refine (wrap_any 2 P _).mono ?_
          rintro e w4 ⟨rfl, rfl⟩
          go_wp2
          go_ret
          exact ⟨by rw [HR.out]; rfl, by rw [hG]; exact HB.out.trans (HB3.out.mono hG0)⟩
        · have hM : misT s t = false := by
            unfold misT
            rw [show (t.kind == s.kind) = true by simpa using q1]
            by_cases h1 : s.text = []
            · rw [show (s.text == []) = true by simpa using h1]; rfl
            · have h2 : t.text = s.text := Classical.byContradiction fun h2 => q5 ⟨h1, h2⟩
              rw [show (t.text == s.text) = true by simpa using h2]; simp
          have hd : ((strB s.text).toList = [] ∧ (strB s.text).toList.isEmpty = true) ∨ (¬ (strB s.text).toList = [] ∧ (strB s.text).toList.isEmpty = false ∧ ((strB t.text).toList == (strB s.text).toList) = true) := by
            by_cases h1 : s.text = []
            · exact .inl ⟨by rw [strB_toList]; exact h1, by rw [strB_toList, h1]; rfl⟩
            · have h2 : t.text = s.text := Classical.byContradiction fun h2 => q5 ⟨h1, h2⟩
              exact .inr ⟨by rw [strB_toList]; exact h1, by rw [strB_toList]; simpa using h1, by rw [hbeq, decide_eq_true h2]⟩
          have HM := keepHid hM
          clear hbeq q1 q5 hM
          by_cases q9 : k = 9
          · have hk9 : ((k : Int) == 9) = true := by simp; omega
            have HERR3 : Hid (wayOf t.text = none → errM (errE ts) = faultV 3 (t.pos : Int)) := keepHid (fun h => HERR.out (3, t.pos) (by rw [HBI.out]; unfold badT; rw [HM.out, if_neg (by decide), if_pos ⟨q9, h⟩]; rfl))
            have HGO3 : Hid (wayOf t.text ≠ none → errI ts (11 - (k + 1)) (k + 1) = errE ts ∧ ∀ j, j < k + 1 → badI ts j = none) := keepHid (fun h => HGO.out (by rw [HBI.out]; unfold badT; rw [HM.out, if_neg (by decide), if_neg (fun hh => h hh.2)]; rfl))
            have HWY := keepHid (fun w => way_any t.text w)
            clear HERR HGO HBI HM q9
            unfold wayV at HWY
            generalize (t.pos : Int) = P at *
            cases hw : wayOf t.text with
            | none =>
              rw [hw] at HWY HERR3
              have HR := keepHid (HERR3.out rfl)
              clear hw HERR3 HGO3
              rcases hd with ⟨hse2, hse3⟩ | ⟨hse2, hse3, hne⟩
              all_goals
                go_wp2_with fail
                refine (HWY.out _).mono ?_
                rintro e w4 ⟨rfl, hb4⟩
                have b3' : w4.cell? ⟨w2.heap.size, 3, none⟩ = some (.int .i64 P) := (hb4.cell (World.block_lt_of_cell? _ _ b3)).trans b3
                have HB4 := keepHid (HB3.out.trans (hb4.mono HB3.out.size))
                clear hb4 b3
                go_wp2_with fail
                refine (wrap_any 3 P _).mono ?_
                rintro e w5 ⟨rfl, rfl⟩
                go_wp2
                go_ret
                exact ⟨by rw [HR.out]; rfl, by rw [hG]; exact HB.out.trans (HB4.out.mono hG0)⟩
            | some m =>
              rw [hw] at HWY HGO3
              obtain ⟨g1, g2⟩ := HGO3.out (fun h => by cases h)
              have HG1 := keepHid g1
              have HG2 := keepHid g2
              clear hw HERR3 HGO3 g1 g2
              rcases hd with ⟨hse2, hse3⟩ | ⟨hse2, hse3, hne⟩
              all_goals
                go_wp2_with fail
                refine (HWY.out _).mono ?_
                rintro e w4 ⟨rfl, hb4⟩
                have HB4 := keepHid (HB3.out.trans (hb4.mono HB3.out.size))
                clear hb4
                go_wp2
                go_roundw
                case rel => exact ⟨k + 1, by omega, by go_num, HB4, HG1, HG2⟩
                case measure => simp [intOf]; omega
          · have hk9 : ((k : Int) == 9) = false := by simp; omega
            obtain ⟨g1, g2⟩ := HGO.out (by rw [HBI.out]; unfold badT; rw [HM.out, if_neg (by decide), if_neg (fun hh => q9 hh.1)]; rfl)
            have HG1 := keepHid g1
            have HG2 := keepHid g2
            clear HERR HGO HBI HM g1 g2 q9
            rcases hd with ⟨hse2, hse3⟩ | ⟨hse2, hse3, hne⟩
            all_goals
              go_wp2
              go_roundw
              case rel => exact ⟨k + 1, by omega, by go_num, HB3, HG1, HG2⟩
              case measure => simp [intOf]; omega
      · have k1 : ((t.kind : Int) != (s.kind : Int)) = true := by simp; omega
        have HR := keepHid (HERR.out (2, t.pos) (by rw [HBI.out]; unfold badT misT; rw [show (t.kind == s.kind) = false by simpa using q1]; rfl))
        clear HERR HGO HBI hbeq q1
        generalize (t.pos : Int) = P at *
        go_wp2_with fail
        refine (wrap_any 2 P _).mono ?_
        rintro e w4 ⟨rfl, rfl⟩
        go_wp2
        go_ret
        exact ⟨by rw [HR.out]; rfl, by rw [hG]; exact HB.out.trans (HB3.out.mono hG0)⟩
    · obtain rfl : k = 11 := by omega
      have HR : Hid (errE ts = none) := keepHid (by rw [← HI.out]; rfl)
      go_wp2
      go_ret
      exact ⟨by rw [HR.out]; rfl, by rw [hG]; exact HB.out.trans (HBW.out.mono hG0)⟩
end Go.Proofs.YtkhhcclomjfliaaGreatDoor
