/-
  What 'Make' of a file answers: its 128 bytes, or none; what 'Empty' and 'Ends' answer.
-/
import Derived.Test.YtonloefjhofeeaaGreatDoorHeaderNum
import Derived.Lib.BufferWrite
import Derived.Lib.SlBuf
import Derived.WalkKit
import Derived.ProofKit
import Derived.WalkLawsBesides
import Derived.IntWalk
import Derived.RegionTactic
import Derived.BigRegion
import Derived.ChangeAlike
import Derived.Deep.QuietTactic
import Derived.BigQuiet
import Derived.Deep.RegionHeld3
import Derived.Deep.DrawnRows
import Derived.Outline
namespace Go.Proofs.YtonloefjhofeeaaGreatDoor
open Go.RowKit
set_option linter.unusedVariables false

theorem empty_any (w : World) : Calls Tryz.prog 114 #[] w fun e w' => e = .returned (.slice (some ⟨w.heap.size, 0, none⟩) 128 128) ∧ w' = w.alloc (.cells (zrow 128) 5) := by
  have hmk := run_mkbs 128 128 128 128 rfl rfl (Nat.le_refl _) (by omega) w
  go_enter Tryz.func114, Tryz.ntmps114
  go_wp2
  go_ret
  exact ⟨rfl, rfl⟩

def endsB (bs : List UInt8) : Bool := decide (bs.length = 128) && decide (bs.headD 0 = 0)
theorem ends_any (A : Option Addr) (n c B : Nat) (bs : List UInt8) (w : World) (h : Bys w B A n bs) (hc : n ≤ c) :
    Calls Tryz.prog 91 #[.slice A n c] w fun e w' => e = .returned (.bool (endsB bs)) ∧ w = w' := by
  have hl := h.len
  by_cases hn : n = 128
  · subst hn
    obtain ⟨ad, x, rfl, _, hx, hcell⟩ := h.at_ (k := 0) (by omega)
    have e0 : ad.add 0 = ad := by unfold Addr.add; split <;> simp_all
    rw [e0] at hcell
    have hh : bs.headD 0 = x := by
      rcases bs with _ | ⟨y, r⟩
      · simp at hx
      · simpa using hx
    have HE : Hid (endsB bs = decide (x = 0)) := keepHid (by unfold endsB; rw [hl, hh]; simp)
    have HX : Hid (((x.toNat : Int) == 0) = decide (x = 0)) := keepHid (by
      rw [Bool.eq_iff_iff]
      simp only [beq_iff_eq, decide_eq_true_eq]
      constructor
      · intro h; exact UInt8.toNat_inj.1 (by have : x.toNat = 0 := by omega
                                             rw [this]; rfl)
      · rintro rfl; rfl)
    clear hl hh hx h
    go_enter Tryz.func91, Tryz.ntmps91
    go_wp2
    go_ret
    exact ⟨ret_bool (by rw [HE.out, ← HX.out]), rfl⟩
  · have HE : Hid (endsB bs = false) := keepHid (by unfold endsB; rw [hl, decide_eq_false hn]; rfl)
    have e1 : ((n : Int) == 128) = false := by simp; omega
    clear hl h
    go_enter Tryz.func91, Tryz.ntmps91
    go_wp2
    go_ret
    exact ⟨ret_bool (by rw [HE.out]), rfl⟩

/-- What 'Make' returns. -/
def MkPost (w : World) (bs : List UInt8) (e : Ending) (w' : World) : Prop :=
  ∃ g, e = .returned (.tuple #[.slice (some ⟨g, 0, none⟩) 128 128, .bool true]) ∧ w.heap.size ≤ g ∧ Blk w' g 5 (byteVals bs) ∧ Below w.heap.size w w'

theorem hmake_none (f : Fl) (hl : f.name.length ≤ 9223372036854775807) (hf : mayB f = false) (w : World) :
    Calls Tryz.prog 102 #[flV f] w fun e w' => e = .returned (.tuple #[.slice none 0 0, .bool false]) ∧ Below w.heap.size w w' := by
  have H0 := keepHid (may_any f hl)
  rw [hf] at H0
  clear hf
  obtain ⟨l, a, b, c⟩ := f
  obtain ⟨w1, hw1⟩ : ∃ w1, w.alloc (.cells #[.string (strB l), .int .i64 a, .int .i64 b, .int .i64 c] 100) = w1 := ⟨_, rfl⟩
  have hc0 : w1.cell? ⟨w.heap.size, 0, none⟩ = some (.string (strB l)) := by rw [← hw1]; exact (Blk.new w _ _).cell 0
  have hc1 : w1.cell? ⟨w.heap.size, 1, none⟩ = some (.int .i64 a) := by rw [← hw1]; exact (Blk.new w _ _).cell 1
  have hc2 : w1.cell? ⟨w.heap.size, 2, none⟩ = some (.int .i64 b) := by rw [← hw1]; exact (Blk.new w _ _).cell 2
  have hc3 : w1.cell? ⟨w.heap.size, 3, none⟩ = some (.int .i64 c) := by rw [← hw1]; exact (Blk.new w _ _).cell 3
  have HB : Hid (Below w.heap.size w w1) := keepHid (by rw [← hw1]; exact (Below.refl _ _).alloc (Nat.le_refl _) _)
  show Calls Tryz.prog 102 #[.agg #[.string (strB l), .int .i64 a, .int .i64 b, .int .i64 c]] w _
  go_enter Tryz.func102, Tryz.ntmps102
  go_wp2_with (refine (H0.out _).mono ?_; rintro e w' ⟨rfl, hb⟩; have HB2 := keepHid (HB.out.trans (hb.mono HB.out.size)); clear hb)
  go_ret2
  exact ⟨rfl, HB2.out⟩

theorem hsize8 : (Tryz.prog.info? 5).map (·.size) = some 1 := by kernel_rfl
/-- The call's own row of 128 bytes is as it was made, or filled. -/
structure Fills (v : World) (E : List UInt8) (w : World) : Prop where
  bel : Below v.heap.size v w
  row : Blk w v.heap.size 5 (zrow 128) ∨ Blk w v.heap.size 5 (byteVals E)
namespace Fills
variable {v w w' : World} {E : List UInt8}
theorem below (h : Fills v E w) (hb : Below w.heap.size w w') : Fills v E w' := ⟨h.bel.trans (hb.mono h.bel.size), by
  rcases h.row with hr | hr
  · exact .inl (hr.below hb hr.lt)
  · exact .inr (hr.below hb hr.lt)⟩
theorem drew (h : Fills v E w) : Fills v E w.drew := ⟨h.bel.drew, h.row⟩
theorem fill (h : Fills v E w) : Fills v E (w.setRow v.heap.size (byteVals E)) := ⟨below_row h.bel (Nat.le_refl _) _, .inr (by
  rcases h.row with hr | hr
  · exact hr.row _
  · exact hr.row _)⟩
end Fills
theorem tabs_of {A B C D E F : Prop} {w : World} (h : A ∧ B ∧ C ∧ D ∧ E ∧ Tabs w ∧ F) : Tabs w := h.2.2.2.2.2.1
theorem fills_of {A B C D E : Prop} {w a b : World} {n : List UInt8} (h : A ∧ B ∧ C ∧ D ∧ E ∧ Tabs w ∧ Fills a n b) : Fills a n b := h.2.2.2.2.2.2
theorem row_after (xs : List UInt8) (N : Nat) : ((zrow N).toList.take 0 ++ Lib.byteCells (strB xs).data.toList ++ (zrow N).toList.drop (0 + (strB xs).size)).toArray = byteVals (xs ++ zeros (N - xs.length)) := by
  rw [strB_size]
  simp [zrow, byteVals, zeros, Lib.byteCells, strB]
theorem row_again (xs : List UInt8) (n : Nat) : ((byteVals (xs ++ zeros n)).toList.take 0 ++ Lib.byteCells (strB xs).data.toList ++ (byteVals (xs ++ zeros n)).toList.drop (0 + (strB xs).size)).toArray = byteVals (xs ++ zeros n) := by
  rw [strB_size]
  simp [byteVals, zeros, Lib.byteCells, strB]
set_option maxRecDepth 100000 in
set_option maxHeartbeats 4000000 in
theorem hmake_ok (f : Fl) (hf : May f) (w : World) (hT : Tabs w) :
    Calls Tryz.prog 102 #[flV f] w (MkPost w (encL f)) := by
  have hnl := (nameB_len hf.name).2
  have H0 := keepHid (may_any f (by omega))
  rw [(mayB_iff f).2 hf] at H0
  have hbl := body_len hf
  obtain ⟨l, a0, b0, c0⟩ := f
  have p1 := hf.size0; have p2 := hf.size; have p3 := hf.time0; have p4 := hf.time; have p5 := hf.mode0; have p6 := hf.mode
  obtain ⟨a, rfl⟩ : ∃ a : Nat, a0 = (a : Int) := ⟨a0.toNat, by simp at p1; omega⟩
  obtain ⟨b, rfl⟩ : ∃ b : Nat, b0 = (b : Int) := ⟨b0.toNat, by simp at p3; omega⟩
  obtain ⟨c, rfl⟩ : ∃ c : Nat, c0 = (c : Int) := ⟨c0.toNat, by simp at p5; omega⟩
  have q2 : a < 4294967296 := by simp only at p2; omega
  have q4 : b < 4294967296 := by simp only at p4; omega
  have q6 : c < 4294967296 := by simp only at p6; omega
  have hbody : bodyL ⟨l, a, b, c⟩ = l ++ [0] ++ digs 10 a ++ [32] ++ digs 8 b ++ [32] ++ digs 8 c := rfl
  have HENC : Hid (encL ⟨l, a, b, c⟩ = bodyL ⟨l, a, b, c⟩ ++ zeros (128 - (bodyL ⟨l, a, b, c⟩).length)) := keepHid rfl
  rw [hbody] at hbl HENC
  clear p1 p2 p3 p4 p5 p6 hbody hf
  generalize encL ⟨l, a, b, c⟩ = E at *
  obtain ⟨d1, hd1⟩ : ∃ d, digs 10 a = d := ⟨_, rfl⟩
  obtain ⟨d2, hd2⟩ : ∃ d, digs 8 b = d := ⟨_, rfl⟩
  obtain ⟨d3, hd3⟩ : ∃ d, digs 8 c = d := ⟨_, rfl⟩
  have H1 := keepHid (inBase10_any a q2)
  have H2 := keepHid (inBase8_any b q4)
  have H3 := keepHid (inBase8_any c q6)
  rw [hd1] at H1 hbl HENC
  rw [hd2] at H2 hbl HENC
  rw [hd3] at H3 hbl HENC
  have hs : l.length + 1 + d1.length + 1 + d2.length + 1 + d3.length ≤ 56 := by simp only [List.length_append, List.length_cons, List.length_nil] at hbl; omega
  have hs1 : ∀ w, (Op.stringOp .add (strB l) ⟨#[0]⟩).run Tryz.prog w = .ok (.string (strB (l ++ [0]))) w := fun w => run_strAdd l [0] (by simp; omega) w
  have hs2 : ∀ w, (Op.stringOp .add (strB (l ++ [0])) (strB d1)).run Tryz.prog w = .ok (.string (strB (l ++ [0] ++ d1))) w := fun w => run_strAdd _ _ (by simp; omega) w
  have hs3 : ∀ w, (Op.stringOp .add (strB (l ++ [0] ++ d1)) ⟨#[32]⟩).run Tryz.prog w = .ok (.string (strB (l ++ [0] ++ d1 ++ [32]))) w := fun w => run_strAdd (l ++ [0] ++ d1) [32] (by simp; omega) w
  have hs4 : ∀ w, (Op.stringOp .add (strB (l ++ [0] ++ d1 ++ [32])) (strB d2)).run Tryz.prog w = .ok (.string (strB (l ++ [0] ++ d1 ++ [32] ++ d2))) w := fun w => run_strAdd _ _ (by simp; omega) w
  have hs5 : ∀ w, (Op.stringOp .add (strB (l ++ [0] ++ d1 ++ [32] ++ d2)) ⟨#[32]⟩).run Tryz.prog w = .ok (.string (strB (l ++ [0] ++ d1 ++ [32] ++ d2 ++ [32]))) w := fun w => run_strAdd (l ++ [0] ++ d1 ++ [32] ++ d2) [32] (by simp; omega) w
  have hs6 : ∀ w, (Op.stringOp .add (strB (l ++ [0] ++ d1 ++ [32] ++ d2 ++ [32])) (strB d3)).run Tryz.prog w = .ok (.string (strB (l ++ [0] ++ d1 ++ [32] ++ d2 ++ [32] ++ d3))) w := fun w => run_strAdd _ _ (by simp; omega) w
  generalize hx6 : l ++ [0] ++ d1 ++ [32] ++ d2 ++ [32] ++ d3 = x6 at *
  generalize l ++ [0] ++ d1 ++ [32] ++ d2 ++ [32] = x5 at *
  generalize l ++ [0] ++ d1 ++ [32] ++ d2 = x4 at *
  generalize l ++ [0] ++ d1 ++ [32] = x3 at *
  generalize l ++ [0] ++ d1 = x2 at *
  generalize l ++ [0] = x1 at *
  clear hd1 hd2 hd3 hs hx6 q2 q4 q6
  obtain ⟨w1, hw1⟩ : ∃ w1, w.alloc (.cells #[.string (strB l), .int .i64 a, .int .i64 b, .int .i64 c] 100) = w1 := ⟨_, rfl⟩
  have hc0 : w1.cell? ⟨w.heap.size, 0, none⟩ = some (.string (strB l)) := by rw [← hw1]; exact (Blk.new w _ _).cell 0
  have hc1 : w1.cell? ⟨w.heap.size, 1, none⟩ = some (.int .i64 a) := by rw [← hw1]; exact (Blk.new w _ _).cell 1
  have hc2 : w1.cell? ⟨w.heap.size, 2, none⟩ = some (.int .i64 b) := by rw [← hw1]; exact (Blk.new w _ _).cell 2
  have hc3 : w1.cell? ⟨w.heap.size, 3, none⟩ = some (.int .i64 c) := by rw [← hw1]; exact (Blk.new w _ _).cell 3
  have HB : Hid (Below w.heap.size w w1) := keepHid (by rw [← hw1]; exact (Below.refl _ _).alloc (Nat.le_refl _) _)
  have hsz1 : w1.heap.size = w.heap.size + 1 := by rw [← hw1]; simp
  have HS1 := keepHid hsz1
  have HT := keepHid hT
  clear hT hsz1
  show Calls Tryz.prog 102 #[.agg #[.string (strB l), .int .i64 a, .int .i64 b, .int .i64 c]] w _
  go_enter Tryz.func102, Tryz.ntmps102
  go_wp2_with fail
  refine (H0.out _).mono ?_
  rintro e w2 ⟨rfl, hb⟩
  have HB2 := keepHid hb
  clear hb hw1
  go_wp2_with fail
  refine (empty_any _).mono ?_
  rintro e w3 ⟨rfl, rfl⟩
  have hb4 : Below w2.heap.size w2 (w2.alloc (.cells (zrow 128) 5)) := (Below.refl _ _).alloc (Nat.le_refl _) _
  have hk4 : Blk (w2.alloc (.cells (zrow 128) 5)) w2.heap.size 5 (zrow 128) := Blk.new _ _ _
  have hs4' : (w2.alloc (.cells (zrow 128) 5)).heap.size = w2.heap.size + 1 := by simp
  generalize w2.alloc (.cells (zrow 128) 5) = w4 at *
  have hs12 := HB2.out.size
  have hss := HS1.out
  have hgw : w.heap.size < w2.heap.size := by omega
  have hJ4 : Fills w2 E w4 := ⟨hb4, .inl hk4⟩
  have hfin : ∀ w' : World, Fills w2 E w' → w'.cell? ⟨w.heap.size, 0, none⟩ = some (.string (strB l)) ∧ w'.cell? ⟨w.heap.size, 1, none⟩ = some (.int .i64 a) ∧ w'.cell? ⟨w.heap.size, 2, none⟩ = some (.int .i64 b) ∧ w'.cell? ⟨w.heap.size, 3, none⟩ = some (.int .i64 c)
      ∧ (Builtin.copy_ #[31, 9] 3 #[.slice (some ⟨w2.heap.size, 0, none⟩) 128 128, .string (strB x6)]).run Tryz.prog w' = .ok (goInt x6.length) (w'.setRow w2.heap.size (byteVals E)) ∧ Tabs w' ∧ Fills w2 E w' := by
    intro w' hJ
    have hb' : Below w1.heap.size w1 w' := HB2.out.trans (hJ.bel.mono hs12)
    have hbT : Below w.heap.size w w' := HB.out.trans (hb'.mono HB.out.size)
    have hcp : (Builtin.copy_ #[31, 9] 3 #[.slice (some ⟨w2.heap.size, 0, none⟩) 128 128, .string (strB x6)]).run Tryz.prog w' = .ok (goInt x6.length) (w'.setRow w2.heap.size (byteVals E)) := by
      rcases hJ.row with hkk | hkk
      · have h := Lib.run_copy_row_string (P := Tryz.prog) w' 31 9 3 5 w2.heap.size 0 128 128 (strB x6) (zrow 128) 5 Tryz.underlying31 hsize8 hkk (by rw [strB_size]; omega) (by rw [strB_size, zrow_size]; omega)
        rw [row_after, ← HENC.out, strB_size] at h
        exact h
      · have h := Lib.run_copy_row_string (P := Tryz.prog) w' 31 9 3 5 w2.heap.size 0 128 128 (strB x6) (byteVals E) 5 Tryz.underlying31 hsize8 hkk (by rw [strB_size]; omega) (by rw [strB_size, HENC.out]; simp [byteVals, zeros_len])
        rw [HENC.out, row_again, ← HENC.out, strB_size] at h
        exact h
    refine ⟨(hb'.cell (show w.heap.size < _ by omega)).trans hc0, (hb'.cell (show w.heap.size < _ by omega)).trans hc1, (hb'.cell (show w.heap.size < _ by omega)).trans hc2, (hb'.cell (show w.heap.size < _ by omega)).trans hc3, hcp, HT.out.below hbT (Nat.le_refl _), hJ⟩
  have HFIN := keepHid hfin
  have hpost : ∀ w' : World, Fills w2 E w' → MkPost w E (.returned (.tuple #[.slice (some ⟨w2.heap.size, 0, none⟩) 128 128, .bool true])) (w'.setRow w2.heap.size (byteVals E)) := by
    intro w' hJ
    have hb' : Below w1.heap.size w1 (w'.setRow w2.heap.size (byteVals E)) := HB2.out.trans (hJ.fill.bel.mono hs12)
    have hbT : Below w.heap.size w (w'.setRow w2.heap.size (byteVals E)) := HB.out.trans (hb'.mono HB.out.size)
    refine ⟨w2.heap.size, rfl, by omega, ?_, hbT⟩
    rcases hJ.row with hr | hr
    · exact hr.row _
    · exact hr.row _
  have HPOST := keepHid hpost
  clear HT HB HB2 HS1 hss hfin hpost hb4 hk4 hs4' hs12 hgw hc0 hc1 hc2 hc3
  go_wp2
  go_region_held3 (fun w' => w'.cell? ⟨w.heap.size, 0, none⟩ = some (.string (strB l)) ∧ w'.cell? ⟨w.heap.size, 1, none⟩ = some (.int .i64 a) ∧ w'.cell? ⟨w.heap.size, 2, none⟩ = some (.int .i64 b) ∧ w'.cell? ⟨w.heap.size, 3, none⟩ = some (.int .i64 c)
      ∧ (Builtin.copy_ #[31, 9] 3 #[.slice (some ⟨w2.heap.size, 0, none⟩) 128 128, .string (strB x6)]).run Tryz.prog w' = .ok (goInt x6.length) (w'.setRow w2.heap.size (byteVals E)) ∧ Tabs w' ∧ Fills w2 E w')
    (exact HFIN.out _ (by first | assumption | exact Fills.drew (by assumption) | exact Fills.fill (by assumption) | exact (fills_of (by assumption)).fill))
    (first
      | (go_at_call 115
         refine (H1.out _ ?_).mono ?_
         · first | exact tabs_of (by assumption) | exact (tabs_of (by assumption)).drew
         rintro e w5 ⟨rfl, hb5⟩
         have hc5 := fun (h : Fills w2 E _) => h.below hb5
         replace hc5 := hc5 (by first | exact fills_of (by assumption) | exact (fills_of (by assumption)).drew | assumption | exact Fills.drew (by assumption))
         clear hb5)
      | (go_at_call 115
         refine (H2.out _ ?_).mono ?_
         · first | exact tabs_of (by assumption) | exact (tabs_of (by assumption)).drew
         rintro e w5 ⟨rfl, hb5⟩
         have hc5 := fun (h : Fills w2 E _) => h.below hb5
         replace hc5 := hc5 (by first | exact fills_of (by assumption) | exact (fills_of (by assumption)).drew | assumption | exact Fills.drew (by assumption))
         clear hb5)
      | (go_at_call 115
         refine (H3.out _ ?_).mono ?_
         · first | exact tabs_of (by assumption) | exact (tabs_of (by assumption)).drew
         rintro e w5 ⟨rfl, hb5⟩
         have hc5 := fun (h : Fills w2 E _) => h.below hb5
         replace hc5 := hc5 (by first | exact fills_of (by assumption) | exact (fills_of (by assumption)).drew | assumption | exact Fills.drew (by assumption))
         clear hb5))
  go_wp2
  go_ret2
  exact HPOST.out _ hc5
theorem mk_bys {w : World} {g : Nat} {bs : List UInt8} (h : Blk w g 5 (byteVals bs)) (hl : bs.length = 128) : Bys w (g + 1) (some ⟨g, 0, none⟩) 128 bs := by
  have := bys_of_blk h (j := 0) (n := 128) (by omega) (by omega)
  rw [List.drop_zero] at this
  exact this
theorem ends_zeros : endsB (zeros 128) = true := by
  show endsB (zeros (127 + 1)) = true
  unfold endsB
  rw [zeros_len, zeros_succ]
  simp
end Go.Proofs.YtonloefjhofeeaaGreatDoor
