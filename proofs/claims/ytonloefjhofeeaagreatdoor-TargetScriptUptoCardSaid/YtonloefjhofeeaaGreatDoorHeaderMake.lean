/-
  What 'Make' of a file answers: its 128 bytes, or none; what 'Empty' and 'Ends' answer.
-/
import Derived.Test.YtonloefjhofeeaaGreatDoorHeaderNum
import Derived.Lib.BufferWrite
import Derived.Lib.SlBuf
import Derived.WalkKit
import Derived.ProofKit
import Derived.WalkLawsBesides
import Derived.IntWalk
import Derived.RegionTactic
import Derived.BigRegion
import Derived.ChangeAlike
import Derived.Deep.QuietTactic
import Derived.BigQuiet
import Derived.Deep.RegionHeld3
import Derived.Deep.DrawnRows
import Derived.Outline
import Derived.Test.YtonloefjhofeeaaGreatDoorHeaderParse
import Derived.Test.YtonloefjhofeeaaGreatDoorFrameDoor
import Derived.Laws.StructEq
import Derived.Test.YtonloefjhofeeaaGreatDoorBytesEqual
namespace Go.Proofs.YtonloefjhofeeaaGreatDoor
open Go.RowKit
set_option linter.unusedVariables false

theorem empty_any (w : World) : Calls Tryz.prog 114 #[] w fun e w' => e = .returned (.slice (some ⟨w.heap.size, 0, none⟩) 128 128) ∧ w' = w.alloc (.cells (zrow 128) 5) := by
  have hmk := run_mkbs 128 128 128 128 rfl rfl (Nat.le_refl _) (by omega) w
  go_enter Tryz.func114, Tryz.ntmps114
  go_wp2
  go_ret
  exact ⟨rfl, rfl⟩

def endsB (bs : List UInt8) : Bool := decide (bs.length = 128) && decide (bs.headD 0 = 0)
theorem ends_any (A : Option Addr) (n c B : Nat) (bs : List UInt8) (w : World) (h : Bys w B A n bs) (hc : n ≤ c) :
    Calls Tryz.prog 91 #[.slice A n c] w fun e w' => e = .returned (.bool (endsB bs)) ∧ w = w' := by
  have hl := h.len
  by_cases hn : n = 128
  · subst hn
    obtain ⟨ad, x, rfl, _, hx, hcell⟩ := h.at_ (k := 0) (by omega)
    have e0 : ad.add 0 = ad := by unfold Addr.add; split <;> simp_all
    rw [e0] at hcell
    have hh : bs.headD 0 = x := by
      rcases bs with _ | ⟨y, r⟩
      · simp at hx
      · simpa using hx
    have HE : Hid (endsB bs = decide (x = 0)) := keepHid (by unfold endsB; rw [hl, hh]; simp)
    have HX : Hid (((x.toNat : Int) == 0) = decide (x = 0)) := keepHid (by
      rw [Bool.eq_iff_iff]
      simp only [beq_iff_eq, decide_eq_true_eq]
      constructor
      · intro h; exact UInt8.toNat_inj.1 (by have : x.toNat = 0 := by omega
                                             rw [this]; rfl)
      · rintro rfl; rfl)
    clear hl hh hx h
    go_enter Tryz.func91, Tryz.ntmps91
    go_wp2
    go_ret
    exact ⟨ret_bool (by rw [HE.out, ← HX.out]), rfl⟩
  · have HE : Hid (endsB bs = false) := keepHid (by unfold endsB; rw [hl, decide_eq_false hn]; rfl)
    have e1 : ((n : Int) == 128) = false := by simp; omega
    clear hl h
    go_enter Tryz.func91, Tryz.ntmps91
    go_wp2
    go_ret
    exact ⟨ret_bool (by rw [HE.out]), rfl⟩

/-- What 'Make' returns. -/
def MkPost (w : World) (bs : List UInt8) (e : Ending) (w' : World) : Prop :=
  ∃ g, e = .returned (.tuple #[.slice (some ⟨g, 0, none⟩) 128 128, .bool true]) ∧ w.heap.size ≤ g ∧ Blk w' g 5 (byteVals bs) ∧ Below w.heap.size w w'

theorem hmake_none (f : Fl) (hl : f.name.length ≤ 9223372036854775807) (hf : mayB f = false) (w : World) :
    Calls Tryz.prog 102 #[flV f] w fun e w' => e = .returned (.tuple #[.slice none 0 0, .bool false]) ∧ Below w.heap.size w w' := by
  have H0 := keepHid (may_any f hl)
  rw [hf] at H0
  clear hf
  obtain ⟨l, a, b, c⟩ := f
  obtain ⟨w1, hw1⟩ : ∃ w1, w.alloc (.cells #[.string (strB l), .int .i64 a, .int .i64 b, .int .i64 c] 100) = w1 := ⟨_, rfl⟩
  have hc0 : w1.cell? ⟨w.heap.size, 0, none⟩ = some (.string (strB l)) := by rw [← hw1]; exact (Blk.new w _ _).cell 0
  have hc1 : w1.cell? ⟨w.heap.size, 1, none⟩ = some (.int .i64 a) := by rw [← hw1]; exact (Blk.new w _ _).cell 1
  have hc2 : w1.cell? ⟨w.heap.size, 2, none⟩ = some (.int .i64 b) := by rw [← hw1]; exact (Blk.new w _ _).cell 2
  have hc3 : w1.cell? ⟨w.heap.size, 3, none⟩ = some (.int .i64 c) := by rw [← hw1]; exact (Blk.new w _ _).cell 3
  have HB : Hid (Below w.heap.size w w1) := keepHid (by rw [← hw1]; exact (Below.refl _ _).alloc (Nat.le_refl _) _)
  show Calls Tryz.prog 102 #[.agg #[.string (strB l), .int .i64 a, .int .i64 b, .int .i64 c]] w _
  go_enter Tryz.func102, Tryz.ntmps102
  go_wp2_with (refine (H0.out _).mono ?_; rintro e w' ⟨rfl, hb⟩; have HB2 := keepHid (HB.out.trans (hb.mono HB.out.size)); clear hb)
  go_ret2
  exact ⟨rfl, HB2.out⟩

theorem hsize8 : (Tryz.prog.info? 5).map (·.size) = some 1 := by kernel_rfl
/-- The call's own row of 128 bytes is as it was made, or filled. -/
structure Fills (v : World) (E : List UInt8) (w : World) : Prop where
  bel : Below v.heap.size v w
  row : Blk w v.heap.size 5 (zrow 128) ∨ Blk w v.heap.size 5 (byteVals E)
namespace Fills
variable {v w w' : World} {E : List UInt8}
theorem below (h : Fills v E w) (hb : Below w.heap.size w w') : Fills v E w' := ⟨h.bel.trans (hb.mono h.bel.size), by
  rcases h.row with hr | hr
  · exact .inl (hr.below hb hr.lt)
  · exact .inr (hr.below hb hr.lt)⟩
theorem drew (h : Fills v E w) : Fills v E w.drew := ⟨h.bel.drew, h.row⟩
theorem fill (h : Fills v E w) : Fills v E (w.setRow v.heap.size (byteVals E)) := ⟨below_row h.bel (Nat.le_refl _) _, .inr (by
  rcases h.row with hr | hr
  · exact hr.row _
  · exact hr.row _)⟩
end Fills
theorem tabs_of {A B C D E F : Prop} {w : World} (h : A ∧ B ∧ C ∧ D ∧ E ∧ Tabs w ∧ F) : Tabs w := h.2.2.2.2.2.1
theorem fills_of {A B C D E : Prop} {w a b : World} {n : List UInt8} (h : A ∧ B ∧ C ∧ D ∧ E ∧ Tabs w ∧ Fills a n b) : Fills a n b := h.2.2.2.2.2.2
theorem row_after (xs : List UInt8) (N : Nat) : ((zrow N).toList.take 0 ++ Lib.byteCells (strB xs).data.toList ++ (zrow N).toList.drop (0 + (strB xs).size)).toArray = byteVals (xs ++ zeros (N - xs.length)) := by
  rw [strB_size]
  simp [zrow, byteVals, zeros, Lib.byteCells, strB]
theorem row_again (xs : List UInt8) (n : Nat) : ((byteVals (xs ++ zeros n)).toList.take 0 ++ Lib.byteCells (strB xs).data.toList ++ (byteVals (xs ++ zeros n)).toList.drop (0 + (strB xs).size)).toArray = byteVals (xs ++ zeros n) := by
  rw [strB_size]
  simp [byteVals, zeros, Lib.byteCells, strB]
set_option maxRecDepth 100000 in
set_option maxHeartbeats 4000000 in
theorem hmake_ok (f : Fl) (hf : May f) (w : World) (hT : Tabs w) :
    Calls Tryz.prog 102 #[flV f] w (MkPost w (encL f)) := by
  have hnl := (nameB_len hf.name).2
  have H0 := keepHid (may_any f (by omega))
  rw [(mayB_iff f).2 hf] at H0
  have hbl := body_len hf
  obtain ⟨l, a0, b0, c0⟩ := f
  have p1 := hf.size0; have p2 := hf.size; have p3 := hf.time0; have p4 := hf.time; have p5 := hf.mode0; have p6 := hf.mode
  obtain ⟨a, rfl⟩ : ∃ a : Nat, a0 = (a : Int) := ⟨a0.toNat, by simp at p1; omega⟩
  obtain ⟨b, rfl⟩ : ∃ b : Nat, b0 = (b : Int) := ⟨b0.toNat, by simp at p3; omega⟩
  obtain ⟨c, rfl⟩ : ∃ c : Nat, c0 = (c : Int) := ⟨c0.toNat, by simp at p5; omega⟩
  have q2 : a < 4294967296 := by simp only at p2; omega
  have q4 : b < 4294967296 := by simp only at p4; omega
  have q6 : c < 4294967296 := by simp only at p6; omega
  have hbody : bodyL ⟨l, a, b, c⟩ = l ++ [0] ++ digs 10 a ++ [32] ++ digs 8 b ++ [32] ++ digs 8 c := rfl
  have HENC : Hid (encL ⟨l, a, b, c⟩ = bodyL ⟨l, a, b, c⟩ ++ zeros (128 - (bodyL ⟨l, a, b, c⟩).length)) := keepHid rfl
  rw [hbody] at hbl HENC
  clear p1 p2 p3 p4 p5 p6 hbody hf
  generalize encL ⟨l, a, b, c⟩ = E at *
  obtain ⟨d1, hd1⟩ : ∃ d, digs 10 a = d := ⟨_, rfl⟩
  obtain ⟨d2, hd2⟩ : ∃ d, digs 8 b = d := ⟨_, rfl⟩
  obtain ⟨d3, hd3⟩ : ∃ d, digs 8 c = d := ⟨_, rfl⟩
  have H1 := keepHid (inBase10_any a q2)
  have H2 := keepHid (inBase8_any b q4)
  have H3 := keepHid (inBase8_any c q6)
  rw [hd1] at H1 hbl HENC
  rw [hd2] at H2 hbl HENC
  rw [hd3] at H3 hbl HENC
  have hs : l.length + 1 + d1.length + 1 + d2.length + 1 + d3.length ≤ 56 := by simp only [List.length_append, List.length_cons, List.length_nil] at hbl; omega
  have hs1 : ∀ w, (Op.stringOp .add (strB l) ⟨#[0]⟩).run Tryz.prog w = .ok (.string (strB (l ++ [0]))) w := fun w => run_strAdd l [0] (by simp; omega) w
  have hs2 : ∀ w, (Op.stringOp .add (strB (l ++ [0])) (strB d1)).run Tryz.prog w = .ok (.string (strB (l ++ [0] ++ d1))) w := fun w => run_strAdd _ _ (by simp; omega) w
  have hs3 : ∀ w, (Op.stringOp .add (strB (l ++ [0] ++ d1)) ⟨#[32]⟩).run Tryz.prog w = .ok (.string (strB (l ++ [0] ++ d1 ++ [32]))) w := fun w => run_strAdd (l ++ [0] ++ d1) [32] (by simp; omega) w
  have hs4 : ∀ w, (Op.stringOp .add (strB (l ++ [0] ++ d1 ++ [32])) (strB d2)).run Tryz.prog w = .ok (.string (strB (l ++ [0] ++ d1 ++ [32] ++ d2))) w := fun w => run_strAdd _ _ (by simp; omega) w
  have hs5 : ∀ w, (Op.stringOp .add (strB (l ++ [0] ++ d1 ++ [32] ++ d2)) ⟨#[32]⟩).run Tryz.prog w = .ok (.string (strB (l ++ [0] ++ d1 ++ [32] ++ d2 ++ [32]))) w := fun w => run_strAdd (l ++ [0] ++ d1 ++ [32] ++ d2) [32] (by simp; omega) w
  have hs6 : ∀ w, (Op.stringOp .add (strB (l ++ [0] ++ d1 ++ [32] ++ d2 ++ [32])) (strB d3)).run Tryz.prog w = .ok (.string (strB (l ++ [0] ++ d1 ++ [32] ++ d2 ++ [32] ++ d3))) w := fun w => run_strAdd _ _ (by simp; omega) w
  generalize hx6 : l ++ [0] ++ d1 ++ [32] ++ d2 ++ [32] ++ d3 = x6 at *
  generalize l ++ [0] ++ d1 ++ [32] ++ d2 ++ [32] = x5 at *
  generalize l ++ [0] ++ d1 ++ [32] ++ d2 = x4 at *
  generalize l ++ [0] ++ d1 ++ [32] = x3 at *
  generalize l ++ [0] ++ d1 = x2 at *
  generalize l ++ [0] = x1 at *
  clear hd1 hd2 hd3 hs hx6 q2 q4 q6
  obtain ⟨w1, hw1⟩ : ∃ w1, w.alloc (.cells #[.string (strB l), .int .i64 a, .int .i64 b, .int .i64 c] 100) = w1 := ⟨_, rfl⟩
  have hc0 : w1.cell? ⟨w.heap.size, 0, none⟩ = some (.string (strB l)) := by rw [← hw1]; exact (Blk.new w _ _).cell 0
  have hc1 : w1.cell? ⟨w.heap.size, 1, none⟩ = some (.int .i64 a) := by rw [← hw1]; exact (Blk.new w _ _).cell 1
  have hc2 : w1.cell? ⟨w.heap.size, 2, none⟩ = some (.int .i64 b) := by rw [← hw1]; exact (Blk.new w _ _).cell 2
  have hc3 : w1.cell? ⟨w.heap.size, 3, none⟩ = some (.int .i64 c) := by rw [← hw1]; exact (Blk.new w _ _).cell 3
  have HB : Hid (Below w.heap.size w w1) := keepHid (by rw [← hw1]; exact (Below.refl _ _).alloc (Nat.le_refl _) _)
  have hsz1 : w1.heap.size = w.heap.size + 1 := by rw [← hw1]; simp
  have HS1 := keepHid hsz1
  have HT := keepHid hT
  clear hT hsz1
  show Calls Tryz.prog 102 #[.agg #[.string (strB l), .int .i64 a, .int .i64 b, .int .i64 c]] w _
  go_enter Tryz.func102, Tryz.ntmps102
  go_wp2_with fail
  refine (H0.out _).mono ?_
  rintro e w2 ⟨rfl, hb⟩
  have HB2 := keepHid hb
  clear hb hw1
  go_wp2_with fail
  refine (empty_any _).mono ?_
  rintro e w3 ⟨rfl, rfl⟩
  have hb4 : Below w2.heap.size w2 (w2.alloc (.cells (zrow 128) 5)) := (Below.refl _ _).alloc (Nat.le_refl _) _
  have hk4 : Blk (w2.alloc (.cells (zrow 128) 5)) w2.heap.size 5 (zrow 128) := Blk.new _ _ _
  have hs4' : (w2.alloc (.cells (zrow 128) 5)).heap.size = w2.heap.size + 1 := by simp
  generalize w2.alloc (.cells (zrow 128) 5) = w4 at *
  have hs12 := HB2.out.size
  have hss := HS1.out
  have hgw : w.heap.size < w2.heap.size := by omega
  have hJ4 : Fills w2 E w4 := ⟨hb4, .inl hk4⟩
  have hfin : ∀ w' : World, Fills w2 E w' → w'.cell? ⟨w.heap.size, 0, none⟩ = some (.string (strB l)) ∧ w'.cell? ⟨w.heap.size, 1, none⟩ = some (.int .i64 a) ∧ w'.cell? ⟨w.heap.size, 2, none⟩ = some (.int .i64 b) ∧ w'.cell? ⟨w.heap.size, 3, none⟩ = some (.int .i64 c)
      ∧ (Builtin.copy_ #[31, 9] 3 #[.slice (some ⟨w2.heap.size, 0, none⟩) 128 128, .string (strB x6)]).run Tryz.prog w' = .ok (goInt x6.length) (w'.setRow w2.heap.size (byteVals E)) ∧ Tabs w' ∧ Fills w2 E w' := by
    intro w' hJ
    have hb' : Below w1.heap.size w1 w' := HB2.out.trans (hJ.bel.mono hs12)
    have hbT : Below w.heap.size w w' := HB.out.trans (hb'.mono HB.out.size)
    have hcp : (Builtin.copy_ #[31, 9] 3 #[.slice (some ⟨w2.heap.size, 0, none⟩) 128 128, .string (strB x6)]).run Tryz.prog w' = .ok (goInt x6.length) (w'.setRow w2.heap.size (byteVals E)) := by
      rcases hJ.row with hkk | hkk
      · have h := Lib.run_copy_row_string (P := Tryz.prog) w' 31 9 3 5 w2.heap.size 0 128 128 (strB x6) (zrow 128) 5 Tryz.underlying31 hsize8 hkk (by rw [strB_size]; omega) (by rw [strB_size, zrow_size]; omega)
        rw [row_after, ← HENC.out, strB_size] at h
        exact h
      · have h := Lib.run_copy_row_string (P := Tryz.prog) w' 31 9 3 5 w2.heap.size 0 128 128 (strB x6) (byteVals E) 5 Tryz.underlying31 hsize8 hkk (by rw [strB_size]; omega) (by rw [strB_size, HENC.out]; simp [byteVals, zeros_len])
        rw [HENC.out, row_again, ← HENC.out, strB_size] at h
        exact h
    refine ⟨(hb'.cell (show w.heap.size < _ by omega)).trans hc0, (hb'.cell (show w.heap.size < _ by omega)).trans hc1, (hb'.cell (show w.heap.size < _ by omega)).trans hc2, (hb'.cell (show w.heap.size < _ by omega)).trans hc3, hcp, HT.out.below hbT (Nat.le_refl _), hJ⟩
  have HFIN := keepHid hfin
  have hpost : ∀ w' : World, Fills w2 E w' → MkPost w E (.returned (.tuple #[.slice (some ⟨w2.heap.size, 0, none⟩) 128 128, .bool true])) (w'.setRow w2.heap.size (byteVals E)) := by
    intro w' hJ
    have hb' : Below w1.heap.size w1 (w'.setRow w2.heap.size (byteVals E)) := HB2.out.trans (hJ.fill.bel.mono hs12)
    have hbT : Below w.heap.size w (w'.setRow w2.heap.size (byteVals E)) := HB.out.trans (hb'.mono HB.out.size)
    refine ⟨w2.heap.size, rfl, by omega, ?_, hbT⟩
    rcases hJ.row with hr | hr
    · exact hr.row _
    · exact hr.row _
  have HPOST := keepHid hpost
  clear HT HB HB2 HS1 hss hfin hpost hb4 hk4 hs4' hs12 hgw hc0 hc1 hc2 hc3
  go_wp2
  go_region_held3 (fun w' => w'.cell? ⟨w.heap.size, 0, none⟩ = some (.string (strB l)) ∧ w'.cell? ⟨w.heap.size, 1, none⟩ = some (.int .i64 a) ∧ w'.cell? ⟨w.heap.size, 2, none⟩ = some (.int .i64 b) ∧ w'.cell? ⟨w.heap.size, 3, none⟩ = some (.int .i64 c)
      ∧ (Builtin.copy_ #[31, 9] 3 #[.slice (some ⟨w2.heap.size, 0, none⟩) 128 128, .string (strB x6)]).run Tryz.prog w' = .ok (goInt x6.length) (w'.setRow w2.heap.size (byteVals E)) ∧ Tabs w' ∧ Fills w2 E w')
    (exact HFIN.out _ (by first | assumption | exact Fills.drew (by assumption) | exact Fills.fill (by assumption) | exact (fills_of (by assumption)).fill))
    (first
      | (go_at_call 115
         refine (H1.out _ ?_).mono ?_
         · first | exact tabs_of (by assumption) | exact (tabs_of (by assumption)).drew
         rintro e w5 ⟨rfl, hb5⟩
         have hc5 := fun (h : Fills w2 E _) => h.below hb5
         replace hc5 := hc5 (by first | exact fills_of (by assumption) | exact (fills_of (by assumption)).drew | assumption | exact Fills.drew (by assumption))
         clear hb5)
      | (go_at_call 115
         refine (H2.out _ ?_).mono ?_
         · first | exact tabs_of (by assumption) | exact (tabs_of (by assumption)).drew
         rintro e w5 ⟨rfl, hb5⟩
         have hc5 := fun (h : Fills w2 E _) => h.below hb5
         replace hc5 := hc5 (by first | exact fills_of (by assumption) | exact (fills_of (by assumption)).drew | assumption | exact Fills.drew (by assumption))
         clear hb5)
      | (go_at_call 115
         refine (H3.out _ ?_).mono ?_
         · first | exact tabs_of (by assumption) | exact (tabs_of (by assumption)).drew
         rintro e w5 ⟨rfl, hb5⟩
         have hc5 := fun (h : Fills w2 E _) => h.below hb5
         replace hc5 := hc5 (by first | exact fills_of (by assumption) | exact (fills_of (by assumption)).drew | assumption | exact Fills.drew (by assumption))
         clear hb5))
  go_wp2
  go_ret2
  exact HPOST.out _ hc5
theorem mk_bys {w : World} {g : Nat} {bs : List UInt8} (h : Blk w g 5 (byteVals bs)) (hl : bs.length = 128) : Bys w (g + 1) (some ⟨g, 0, none⟩) 128 bs := by
  have := bys_of_blk h (j := 0) (n := 128) (by omega) (by omega)
  rw [List.drop_zero] at this
  exact this
theorem ends_zeros : endsB (zeros 128) = true := by
  show endsB (zeros (127 + 1)) = true
  unfold endsB
  rw [zeros_len, zeros_succ]
  simp


def CutPost (c : UInt8) (l : List UInt8) (w : World) (e : Ending) (w' : World) : Prop :=
  ∃ b, e = .returned (.tuple #[.string (strB (cutL c l).1), .string (strB (cutL c l).2), .bool b]) ∧ ∃ n, w' = w.drewN n
theorem run_take (l : List UInt8) (i : Nat) (hi : i ≤ l.length) (W : World) : (Instr.slice 9 (.string (strB l)) none (some (.int .i64 (i : Int))) none).run Tryz.prog W = .ok (.string (strB (l.take i))) W := by
  rw [run_slice_string_h W 9 (strB l) Tryz.underlying9 .i64 (i : Int) (by omega) (by rw [strB_size]; omega)]
  rw [Int.toNat_natCast, strB_take]
theorem run_drop (l : List UInt8) (i : Nat) (hi : i ≤ l.length) (W : World) : (Instr.slice 9 (.string (strB l)) (some (.int .i64 (i : Int))) none none).run Tryz.prog W = .ok (.string (strB (l.drop i))) W := by
  rw [run_slice_string_l W 9 (strB l) Tryz.underlying9 .i64 (i : Int) (by omega) (by rw [strB_size]; omega)]
  rw [Int.toNat_natCast, strB_size, strB_drop]

theorem cut0_in (l : List UInt8) (hl : l.length ≤ 65536) (w : World) :
    Calls Tryz.prog 127 #[.string (strB l), .string ⟨#[0]⟩] w (CutPost 0 l w) := by
  have H0 := keepHid (Tryz.stringslite_Index_one (strB l) 0)
  have hd : (strB l).data.toList = l := by simp [strB]
  rw [hd] at H0
  clear hd
  by_cases hm : Lib.indexByte l 0 = -1
  · have HC : Hid (cutL 0 l = (l, [])) := keepHid (cutL_miss l hm)
    rw [hm] at H0
    clear hm
    go_enter Tryz.func127, Tryz.ntmps127
    go_wp2_with (refine (H0.out _).mono ?_; rintro e w' ⟨rfl, rfl⟩)
    go_ret3
    exact ⟨false, by rw [HC.out]; rfl, 0, rfl⟩
  · have hge := Lib.indexByte_ge l 0
    obtain ⟨i, hi⟩ : ∃ i : Nat, Lib.indexByte l 0 = (i : Int) := ⟨(Lib.indexByte l 0).toNat, by omega⟩
    obtain ⟨hil, hc⟩ := cutL_hit l i hi
    have HC := keepHid hc
    rw [hi] at H0
    have hs1 := run_take l i (by omega)
    have hs2 := run_drop l (i + 1) (by omega)
    have e1 : ((i + 1 : Nat) : Int) = (i : Int) + 1 := by omega
    rw [e1] at hs2
    have hw : IntKind.i64.wrap ((i : Int) + 1) = (i : Int) + 1 := by rw [IntKind.wrap_i64]; omega
    have hp : ¬ (i : Int) < 0 := by omega
    clear hm hge hi hc e1
    generalize l.take i = x1 at *
    generalize l.drop (i + 1) = x2 at *
    go_enter Tryz.func127, Tryz.ntmps127
    go_wp2_with (refine (H0.out _).mono ?_; rintro e w' ⟨rfl, rfl⟩)
    go_quiet (fail)
    go_wp2
    go_ret3
    exact ⟨true, by rw [HC.out]; rfl, _, rfl⟩
theorem cut0_any (l : List UInt8) (hl : l.length ≤ 65536) (w : World) :
    Calls Tryz.prog 111 #[.string (strB l), .string ⟨#[0]⟩] w (CutPost 0 l w) := by
  go_enter Tryz.func111, Tryz.ntmps111
  go_wp2_with fail
  refine (cut0_in l hl _).mono ?_
  rintro e w' ⟨b, rfl, k, rfl⟩
  go_wp2
  go_ret3
  exact ⟨b, rfl, k, rfl⟩

theorem cut32_in (l : List UInt8) (hl : l.length ≤ 65536) (w : World) :
    Calls Tryz.prog 127 #[.string (strB l), .string ⟨#[32]⟩] w (CutPost 32 l w) := by
  have H0 := keepHid (Tryz.stringslite_Index_one (strB l) 32)
  have hd : (strB l).data.toList = l := by simp [strB]
  rw [hd] at H0
  clear hd
  by_cases hm : Lib.indexByte l 32 = -1
  · have HC : Hid (cutL 32 l = (l, [])) := keepHid (cutL_miss l hm)
    rw [hm] at H0
    clear hm
    go_enter Tryz.func127, Tryz.ntmps127
    go_wp2_with (refine (H0.out _).mono ?_; rintro e w' ⟨rfl, rfl⟩)
    go_ret3
    exact ⟨false, by rw [HC.out]; rfl, 0, rfl⟩
  · have hge := Lib.indexByte_ge l 32
    obtain ⟨i, hi⟩ : ∃ i : Nat, Lib.indexByte l 32 = (i : Int) := ⟨(Lib.indexByte l 32).toNat, by omega⟩
    obtain ⟨hil, hc⟩ := cutL_hit l i hi
    have HC := keepHid hc
    rw [hi] at H0
    have hs1 := run_take l i (by omega)
    have hs2 := run_drop l (i + 1) (by omega)
    have e1 : ((i + 1 : Nat) : Int) = (i : Int) + 1 := by omega
    rw [e1] at hs2
    have hw : IntKind.i64.wrap ((i : Int) + 1) = (i : Int) + 1 := by rw [IntKind.wrap_i64]; omega
    have hp : ¬ (i : Int) < 0 := by omega
    clear hm hge hi hc e1
    generalize l.take i = x1 at *
    generalize l.drop (i + 1) = x2 at *
    go_enter Tryz.func127, Tryz.ntmps127
    go_wp2_with (refine (H0.out _).mono ?_; rintro e w' ⟨rfl, rfl⟩)
    go_quiet (fail)
    go_wp2
    go_ret3
    exact ⟨true, by rw [HC.out]; rfl, _, rfl⟩
theorem cut32_any (l : List UInt8) (hl : l.length ≤ 65536) (w : World) :
    Calls Tryz.prog 111 #[.string (strB l), .string ⟨#[32]⟩] w (CutPost 32 l w) := by
  go_enter Tryz.func111, Tryz.ntmps111
  go_wp2_with fail
  refine (cut32_in l hl _).mono ?_
  rintro e w' ⟨b, rfl, k, rfl⟩
  go_wp2
  go_ret3
  exact ⟨b, rfl, k, rfl⟩

theorem good_digs {b : Nat} (hb : 2 ≤ b) (hb2 : b ≤ 10) (n : Nat) (hn : n < 9223372036854775808) : Good b (digs b n) n := ⟨fun h => by have := digs_pos b n; rw [h] at this; simp at this, val_digs hb hb2 n hn⟩

/-- What 'guess' answers: some file, by the name that stands ahead of the first 0; of a file's own bytes that file. -/
def GuessPost (l : List UInt8) (w : World) (e : Ending) (w' : World) : Prop :=
  (∃ f : Fl, e = .returned (flV f) ∧ Fits f ∧ f.name = (cutL 0 l).1 ∧ ∀ g, May g → l = encL g → f = g) ∧ Below w.heap.size w w'

theorem put4 {w : World} {g : Nat} {t : TypeId} {a b c d p q r s : Value} (hb : Blk w g t #[a, b, c, d]) :
    Blk ((((w.setCell ⟨g, 0, none⟩ p).setCell ⟨g, 1, none⟩ q).setCell ⟨g, 2, none⟩ r).setCell ⟨g, 3, none⟩ s) g t #[p, q, r, s] := (((hb.put 0 p).put 1 q).put 2 r).put 3 s
theorem below_put4 {w0 w : World} {B g : Nat} (h : Below B w0 w) (hg : B ≤ g) (p q r s : Value) : Below B w0 ((((w.setCell ⟨g, 0, none⟩ p).setCell ⟨g, 1, none⟩ q).setCell ⟨g, 2, none⟩ r).setCell ⟨g, 3, none⟩ s) :=
  (((h.setCell hg p).setCell hg q).setCell hg r).setCell hg s
theorem size4 : (Tryz.prog.info? 100).map (·.size) = some 4 := by kernel_rfl
set_option maxRecDepth 100000 in
set_option maxHeartbeats 4000000 in
theorem guess_any (l : List UInt8) (hl : l.length ≤ 65536) (w : World) (hE : Errs w) :
    Calls Tryz.prog 101 #[.string (strB l)] w (GuessPost l w) := by
  obtain ⟨n, hn⟩ : ∃ n, (cutL 0 l).1 = n := ⟨_, rfl⟩
  obtain ⟨r1, hr1⟩ : ∃ r, (cutL 0 l).2 = r := ⟨_, rfl⟩
  obtain ⟨r2, hr2⟩ : ∃ r, (cutL 0 r1).1 = r := ⟨_, rfl⟩
  obtain ⟨z, hz⟩ : ∃ r, (cutL 0 r1).2 = r := ⟨_, rfl⟩
  obtain ⟨s, hs⟩ : ∃ r, (cutL 32 r2).1 = r := ⟨_, rfl⟩
  obtain ⟨r3, hr3⟩ : ∃ r, (cutL 32 r2).2 = r := ⟨_, rfl⟩
  obtain ⟨t, ht⟩ : ∃ r, (cutL 32 r3).1 = r := ⟨_, rfl⟩
  obtain ⟨m, hm⟩ : ∃ r, (cutL 32 r3).2 = r := ⟨_, rfl⟩
  have k1 := cutL_len2 0 l
  have k2 := cutL_len1 0 r1
  have k3 := cutL_len1 32 r2
  have k4 := cutL_len2 32 r2
  have k5 := cutL_len1 32 r3
  have k6 := cutL_len2 32 r3
  have k0 := cutL_len1 0 l
  have C1 := cut0_any l hl
  have C2 := cut0_any r1 (by rw [← hr1]; omega)
  have C3 := cut32_any r2 (by rw [← hr2]; rw [hr1] at k1; omega)
  have C4 := cut32_any r3 (by rw [← hr3]; rw [hr1] at k1; rw [hr2] at k2; omega)
  unfold CutPost at C1 C2 C3 C4
  rw [hn, hr1] at C1
  rw [hr2, hz] at C2
  rw [hs, hr3] at C3
  rw [ht, hm] at C4
  rw [hr1] at k1; rw [hr2] at k2; rw [hs] at k3; rw [hr3] at k4; rw [ht] at k5; rw [hm] at k6; rw [hn] at k0
  have V1 := value10_any s (by omega)
  have V2 := value8_any t (by omega)
  have V3 := value8_any m (by omega)
  have HSPEC : Hid (∀ (f : Fl) (v1 v2 v3 : Int), (∀ a, Good 10 s a → v1 = (a : Int)) → (∀ a, Good 8 t a → v2 = (a : Int)) → (∀ a, Good 8 m a → v3 = (a : Int)) → f = ⟨n, v1, v2, v3⟩ → ∀ g, May g → l = encL g → f = g) := keepHid fun f v1 v2 v3 h1 h2 h3 hf g hg he => by
    have hc := cut_name hg
    rw [← he] at hc
    rw [hc] at hn hr1
    simp only at hn hr1
    have hc2 := cut_nums hg
    rw [hr1, hr2] at hc2
    have hc3 := cut_size g
    rw [← hc2] at hc3
    rw [hc3] at hs hr3
    simp only at hs hr3
    have hc4 := cut_time g
    rw [hr3] at hc4
    rw [hc4] at ht hm
    simp only at ht hm
    have a1 := hg.size0; have a2 := hg.size; have a3 := hg.time0; have a4 := hg.time; have a5 := hg.mode0; have a6 := hg.mode
    have e1 := h1 g.size.toNat (by rw [← hs]; exact good_digs (by omega) (by omega) _ (by omega))
    have e2 := h2 g.time.toNat (by rw [← ht]; exact good_digs (by omega) (by omega) _ (by omega))
    have e3 := h3 g.mode.toNat (by rw [← hm]; exact good_digs (by omega) (by omega) _ (by omega))
    rw [hf, e1, e2, e3, ← hn]
    obtain ⟨gn, ga, gb, gc⟩ := g
    simp only at a1 a3 a5 ⊢
    rw [Int.toNat_of_nonneg a1, Int.toNat_of_nonneg a3, Int.toNat_of_nonneg a5]
  have HN : Hid ((cutL 0 l).1 = n) := keepHid hn
  have HNL : Hid (n.length ≤ 65536) := keepHid (by omega)
  have K1 := keepHid C1; have K2 := keepHid C2; have K3 := keepHid C3; have K4 := keepHid C4
  have W1 := keepHid V1; have W2 := keepHid V2; have W3 := keepHid V3
  have HE := keepHid hE
  clear hE C1 C2 C3 C4 V1 V2 V3 hn hr1 hr2 hz hs hr3 ht hm k0 k1 k2 k3 k4 k5 k6
  obtain ⟨w1, hw1⟩ : ∃ w1, w.alloc (.cells #[.string ⟨#[]⟩, .int .i64 0, .int .i64 0, .int .i64 0] 100) = w1 := ⟨_, rfl⟩
  have hk1 : Blk w1 w.heap.size 100 #[.string ⟨#[]⟩, .int .i64 0, .int .i64 0, .int .i64 0] := by rw [← hw1]; exact Blk.new _ _ _
  have hb1 : Below w.heap.size w w1 := by rw [← hw1]; exact (Below.refl _ _).alloc (Nat.le_refl _) _
  have HK := keepHid hk1
  have HB := keepHid hb1
  have HE1 := keepHid (HE.out.below hb1 (Nat.le_refl _))
  clear hk1 hb1
  go_enter Tryz.func101, Tryz.ntmps101
  go_wp2_with fail
  clear hw1
  refine (K1.out _).mono ?_
  rintro e w2 ⟨b1, rfl, d1, rfl⟩
  go_wp2_with fail
  refine (K2.out _).mono ?_
  rintro e w2 ⟨b2, rfl, d2, rfl⟩
  go_wp2_with fail
  refine (K3.out _).mono ?_
  rintro e w2 ⟨b3, rfl, d3, rfl⟩
  go_wp2_with fail
  refine (K4.out _).mono ?_
  rintro e w2 ⟨b4, rfl, d4, rfl⟩
  go_wp2_with fail
  have HK5 : Hid (Blk (w1.drewN (d1 + d2 + d3 + d4)) w.heap.size 100 #[.string ⟨#[]⟩, .int .i64 0, .int .i64 0, .int .i64 0]) := keepHid (HK.out.drewN _)
  have HB5 : Hid (Below w.heap.size w (w1.drewN (d1 + d2 + d3 + d4))) := keepHid (below_drewN HB.out _)
  have HE5 : Hid (Errs (w1.drewN (d1 + d2 + d3 + d4))) := keepHid (HE1.out.below (below_drewN (Below.refl _ _) _) (Nat.le_refl _))
  generalize w1.drewN (d1 + d2 + d3 + d4) = w5 at *
  refine (W1.out _ HE5.out).mono ?_
  rintro e w6 ⟨⟨v1, rfl, a1, a2, g1⟩, hb6⟩
  go_wp2_with fail
  have he6 := HE5.out.below hb6 (Nat.le_refl _)
  refine (W2.out _ he6).mono ?_
  rintro e w7 ⟨⟨v2, rfl, a3, a4, g2⟩, hb7⟩
  go_wp2_with fail
  have he7 := he6.below hb7 (Nat.le_refl _)
  refine (W3.out _ he7).mono ?_
  rintro e w8 ⟨⟨v3, rfl, a5, a6, g3⟩, hb8⟩
  have hb68 := hb6.trans ((hb7.trans (hb8.mono hb7.size)).mono hb6.size)
  have hk8 := HK5.out.below hb68 HK5.out.lt
  have HB8 := keepHid (HB5.out.trans (hb68.mono HB5.out.size))
  have HF := keepHid (HSPEC.out ⟨n, v1, v2, v3⟩ v1 v2 v3 g1 g2 g3 rfl)
  have HFIT : Hid (Fits ⟨n, v1, v2, v3⟩) := keepHid ⟨by have := HNL.out; show n.length ≤ _; omega, ⟨a1, a2⟩, ⟨a3, a4⟩, ⟨a5, a6⟩⟩
  have HK8 := keepHid hk8
  have hc0 := hk8.cell 0; have hc1 := hk8.cell 1; have hc2 := hk8.cell 2; have hc3 := hk8.cell 3
  have hf0 := hk8.frozen 0; have hf1 := hk8.frozen 1; have hf2 := hk8.frozen 2; have hf3 := hk8.frozen 3
  clear he6 he7 hb6 hb7 hb8 hb68 hk8 g1 g2 g3
  go_wp2
  refine bodyPost_ret (results_cell_row (p := 2) (ty := 100) rfl _ _ w.heap.size 100 (flCells ⟨n, v1, v2, v3⟩) (0, 0) _ rfl (put4 HK8.out) Tryz.underlying100 rfl size4) rfl ?_
  exact ⟨⟨⟨n, v1, v2, v3⟩, rfl, HFIT.out, HN.out.symm, HF.out⟩, below_put4 HB8.out (Nat.le_refl _) _ _ _ _⟩


theorem strB_inj {a b : List UInt8} (h : strB a = strB b) : a = b := by
  have := congrArg ByteArray.toList h
  rwa [strB_toList, strB_toList] at this
theorem eq_file (f g : Fl) (W : World) : (binOp .eql 100 (flV f) (flV g)).run Tryz.prog W = .ok (.bool (decide (f = g))) W := by
  obtain ⟨l, a, b, c⟩ := f
  obtain ⟨m, x, y, z⟩ := g
  unfold flV
  rw [run_eql_struct, run_equalIn_agg W 9999 100 _ _ (by kernel_rfl) (by kernel_rfl)]
  unfold flCells
  go_simp
  rw [strB_toList, strB_toList]
  by_cases h1 : l = m <;> by_cases h2 : a = x <;> by_cases h3 : b = y <;> by_cases h4 : c = z <;> simp [h1, h2, h3, h4]

/-- What lies in a file's four cells. -/
structure FileAt (w : World) (g : Nat) (f : Fl) : Prop where
  c0 : w.cell? ⟨g, 0, none⟩ = some (.string (strB f.name))
  c1 : w.cell? ⟨g, 1, none⟩ = some (.int .i64 f.size)
  c2 : w.cell? ⟨g, 2, none⟩ = some (.int .i64 f.time)
  c3 : w.cell? ⟨g, 3, none⟩ = some (.int .i64 f.mode)
theorem fileAt_blk {w : World} {g : Nat} {t : TypeId} {f : Fl} (h : Blk w g t (flCells f)) : FileAt w g f := ⟨h.cell 0, h.cell 1, h.cell 2, h.cell 3⟩
theorem FileAt.lt {w : World} {g : Nat} {f : Fl} (h : FileAt w g f) : g < w.heap.size := lt_of_cell h.c0
theorem FileAt.below {w w' : World} {B g : Nat} {f : Fl} (h : FileAt w g f) (hb : Below B w w') (hg : g < B) : FileAt w' g f :=
  ⟨(hb.cell (show g < B from hg)).trans h.c0, (hb.cell (show g < B from hg)).trans h.c1, (hb.cell (show g < B from hg)).trans h.c2, (hb.cell (show g < B from hg)).trans h.c3⟩

/-- What 'Make' answers, whatever file it is given. -/
def HMakePost (w : World) (f : Fl) (e : Ending) (w' : World) : Prop :=
  (∃ A n c bs, e = .returned (.tuple #[.slice A n c, .bool (mayB f)]) ∧ Bys w' w'.heap.size A n bs ∧ n ≤ c ∧ c ≤ 128 ∧ bs = (if mayB f then encL f else [])) ∧ Below w.heap.size w w'
theorem hmake_any (f : Fl) (hl : f.name.length ≤ 9223372036854775807) (w : World) (hT : Tabs w) : Calls Tryz.prog 102 #[flV f] w (HMakePost w f) := by
  by_cases h : mayB f = true
  · refine (hmake_ok f ((mayB_iff f).1 h) w hT).mono ?_
    rintro e w' ⟨g, rfl, hg, hk, hb⟩
    exact ⟨⟨_, 128, 128, _, by rw [h], (mk_bys hk (encL_len ((mayB_iff f).1 h))).more (by have := hk.lt; omega), Nat.le_refl _, Nat.le_refl _, by rw [if_pos h]⟩, hb⟩
  · have h' : mayB f = false := by simpa using h
    refine (hmake_none f hl h' w).mono ?_
    rintro e w' ⟨rfl, hb⟩
    exact ⟨⟨none, 0, 0, [], by rw [h'], Bys.none_, Nat.le_refl _, by omega, by rw [h']; rfl⟩, hb⟩


def fl0 : Fl := ⟨[], 0, 0, 0⟩
/-- What 'Read' answers. -/
structure Reads (bs : List UInt8) (f : Fl) (ok : Bool) : Prop where
  fits : Fits f
  yes : ok = true → May f ∧ bs = encL f
  no : ok = false → f = fl0 ∧ ∀ g, May g → bs ≠ encL g
def ReadPost (bs : List UInt8) (w : World) (e : Ending) (w' : World) : Prop :=
  (∃ f ok, e = .returned (.tuple #[flV f, .bool ok]) ∧ Reads bs f ok) ∧ Below w.heap.size w w'
theorem fits0 : Fits fl0 := ⟨by show 0 ≤ _; omega, by show _ ∧ _; exact ⟨by show _ ≤ (0 : Int); omega, by show (0 : Int) ≤ _; omega⟩, by exact ⟨by show _ ≤ (0 : Int); omega, by show (0 : Int) ≤ _; omega⟩, by exact ⟨by show _ ≤ (0 : Int); omega, by show (0 : Int) ≤ _; omega⟩⟩

/-- The result's block is read at the return. -/
theorem ret_file (w : World) (g : Nat) (f : Fl) (tmps : Array Value) (hb : Blk w g 100 (flCells f)) (h4 : tmps.getD 2 undef = .pointer (some ⟨g, 0, none⟩)) :
    (results Tryz.f90 tmps).run Tryz.prog w = .ok (.tuple #[flV f, tmps.getD 3 undef]) w := by
  have q0 : w.cell? ⟨g, 0, none⟩ = some (.string (strB f.name)) := hb.cell 0
  have q1 : w.cell? ⟨g, 1, none⟩ = some (.int .i64 f.size) := hb.cell 1
  have q2 : w.cell? ⟨g, 2, none⟩ = some (.int .i64 f.time) := hb.cell 2
  have q3 : w.cell? ⟨g, 3, none⟩ = some (.int .i64 f.mode) := hb.cell 3
  rw [results_cell_tmp (p := 2) (u := 3) (ty := 100) rfl, h4]
  simp [go_sem, q0, q1, q2, q3, flV, flCells]

set_option maxRecDepth 100000 in
set_option maxHeartbeats 4000000 in
theorem read_any (A : Option Addr) (n c : Nat) (bs : List UInt8) (w : World) (h : Bys w w.heap.size A n bs) (hT : Tabs w) (hE : Errs w) :
    Calls Tryz.prog 90 #[.slice A n c] w (ReadPost bs w) := by
  have hln := h.len
  obtain ⟨w1, hw1⟩ : ∃ w1, w.alloc (.cells #[.string ⟨#[]⟩, .int .i64 0, .int .i64 0, .int .i64 0] 100) = w1 := ⟨_, rfl⟩
  have hk1 : Blk w1 w.heap.size 100 (flCells fl0) := by rw [← hw1]; exact Blk.new _ _ _
  have hb1 : Below w.heap.size w w1 := by rw [← hw1]; exact (Below.refl _ _).alloc (Nat.le_refl _) _
  have HK1 := keepHid hk1
  have HB1 := keepHid hb1
  by_cases hn : n = 128
  · subst hn
    have hcv := run_str (P := Tryz.prog) (c := c) 31 5 9 Tryz.underlying31 Tryz.underlying5 Tryz.underlying9 (h.below hb1)
    have HY1 := keepHid (h.below hb1)
    have HT1 := keepHid (hT.below hb1 (Nat.le_refl _))
    have HE1 := keepHid (hE.below hb1 (Nat.le_refl _))
    have HLN := keepHid hln
    clear h hln hT hE hb1
    go_enter Tryz.func90, Tryz.ntmps90
    go_wp2_with fail
    refine (guess_any bs (by rw [HLN.out]; omega) _ HE1.out).mono ?_
    rintro e w2 ⟨⟨f, rfl, hfit, hnm, hspec⟩, hb2⟩
    have HK2 := keepHid (HK1.out.below hb2 HK1.out.lt)
    have HB2 := keepHid (HB1.out.trans (hb2.mono HB1.out.size))
    have HT2 := keepHid (HT1.out.below hb2 (Nat.le_refl _))
    have hs12 := hb2.size
    have hs1 : w.heap.size < w1.heap.size := HK1.out.lt
    have HY2 := keepHid (HY1.out.below (hb2.mono (Nat.le_of_lt hs1)))
    have HSP := keepHid hspec
    have HFIT := keepHid hfit
    clear hw1 hcv hb2 hspec hfit hk1 hnm
    obtain ⟨l, a, b, d⟩ := f
    unfold flV flCells
    dsimp only
    obtain ⟨w3, hw3⟩ : ∃ w3, w2.alloc (.cells #[.string (strB l), .int .i64 a, .int .i64 b, .int .i64 d] 100) = w3 := ⟨_, rfl⟩
    have hk3 : Blk w3 w2.heap.size 100 (flCells ⟨l, a, b, d⟩) := by rw [← hw3]; exact Blk.new _ _ _
    have hb3 : Below w2.heap.size w2 w3 := by rw [← hw3]; exact (Below.refl _ _).alloc (Nat.le_refl _) _
    have HW3 := keepHid hw3
    have HK3 := keepHid hk3
    have HB3 := keepHid (HB2.out.trans (hb3.mono HB2.out.size))
    have HR3 := keepHid (HK2.out.below hb3 HK2.out.lt)
    have HT3 := keepHid (HT2.out.below hb3 (Nat.le_refl _))
    have HY3 := keepHid (HY2.out.below (hb3.mono (by omega)))
    have fa3 := fileAt_blk hk3
    have hc0 := fa3.c0; have hc1 := fa3.c1; have hc2 := fa3.c2; have hc3 := fa3.c3
    clear hw3 hk3 hb3 fa3
    go_wp2_with (go_at_call 102; fail)
    rw [HW3.out]
    refine (hmake_any ⟨l, a, b, d⟩ HFIT.out.name _ HT3.out).mono ?_
    rintro e w4 ⟨⟨A4, n4, c4, E4, rfl, hy4, hn4, hc4, he4⟩, hb4⟩
    have HY4 := keepHid (HY3.out.below (hb4.mono (by have := HK3.out.lt; omega)))
    have HF4 := keepHid ((fileAt_blk HK3.out).below hb4 HK3.out.lt)
    have HR4 := keepHid (HR3.out.below hb4 HR3.out.lt)
    have HB4 := keepHid (HB3.out.trans (hb4.mono HB3.out.size))
    have HEQ := keepHid (equal_any A4 A n4 128 c4 c _ _ E4 bs w4 hy4 HY4.out)
    have HYES : Hid (mayB ⟨l, a, b, d⟩ = true → E4 = bs → Reads bs ⟨l, a, b, d⟩ true) := keepHid fun h1 h2 =>
      ⟨HFIT.out, fun _ => ⟨(mayB_iff _).1 h1, by rw [← h2, he4, if_pos h1]⟩, fun h => by cases h⟩
    have HNO : Hid ((mayB ⟨l, a, b, d⟩ = true → E4 ≠ bs) → Reads bs fl0 false) := keepHid fun h1 =>
      ⟨fits0, (fun h => by cases h), fun _ => ⟨rfl, fun g hg he => by
        have hfg := HSP.out g hg he
        have hm : mayB ⟨l, a, b, d⟩ = true := by rw [hfg]; exact (mayB_iff _).2 hg
        exact h1 hm (by rw [he4, if_pos hm, hfg, he])⟩⟩
    obtain ⟨p, hp⟩ : ∃ p, mayB ⟨l, a, b, d⟩ = p := ⟨_, rfl⟩
    obtain ⟨q, hq⟩ : ∃ q, decide (E4 = bs) = q := ⟨_, rfl⟩
    rw [hp] at HYES HNO ⊢
    rw [hq] at HEQ
    have HQ := keepHid hq
    have fa4 := HF4.out
    have fr4 := fileAt_blk HR4.out
    clear hc0 hc1 hc2 hc3 hy4 he4 hb4 hp hq hn4 hc4
    have hc0 := fa4.c0; have hc1 := fa4.c1; have hc2 := fa4.c2; have hc3 := fa4.c3
    have hr0 := fr4.c0; have hr1 := fr4.c1; have hr2 := fr4.c2; have hr3 := fr4.c3
    have hf0 := HR4.out.frozen 0; have hf1 := HR4.out.frozen 1; have hf2 := HR4.out.frozen 2; have hf3 := HR4.out.frozen 3
    clear fa4 fr4
    cases p
    · have HNO2 := keepHid (HNO.out (fun h => by cases h))
      go_wp2
      refine bodyPost_ret (ret_file _ w.heap.size fl0 _ (put4 HR4.out) rfl) rfl ?_
      exact ⟨⟨fl0, false, rfl, HNO2.out⟩, below_put4 HB4.out (Nat.le_refl _) _ _ _ _⟩
    · cases q
      · have HNO2 := keepHid (HNO.out (fun _ h => by have := HQ.out; rw [decide_eq_true h] at this; cases this))
        go_wp2_with (refine HEQ.out.mono ?_; rintro e w' ⟨rfl, rfl⟩)
        refine bodyPost_ret (ret_file _ w.heap.size fl0 _ (put4 HR4.out) rfl) rfl ?_
        exact ⟨⟨fl0, false, rfl, HNO2.out⟩, below_put4 HB4.out (Nat.le_refl _) _ _ _ _⟩
      · have HYES2 := keepHid (HYES.out rfl (of_decide_eq_true HQ.out))
        go_wp2_with (refine HEQ.out.mono ?_; rintro e w' ⟨rfl, rfl⟩)
        refine bodyPost_ret (ret_file _ w.heap.size ⟨l, a, b, d⟩ _ (put4 HR4.out) rfl) rfl ?_
        exact ⟨⟨⟨l, a, b, d⟩, true, rfl, HYES2.out⟩, below_put4 HB4.out (Nat.le_refl _) _ _ _ _⟩
  · have hne : ((n : Int) == 128) = false := by simp; omega
    have HNO : Hid (Reads bs fl0 false) := keepHid ⟨fits0, (fun h => by cases h), fun _ => ⟨rfl, fun g hg he => by rw [he, encL_len hg] at hln; omega⟩⟩
    have fa := fileAt_blk hk1
    have hc0 := fa.c0; have hc1 := fa.c1; have hc2 := fa.c2; have hc3 := fa.c3
    have hf0 := hk1.frozen 0; have hf1 := hk1.frozen 1; have hf2 := hk1.frozen 2; have hf3 := hk1.frozen 3
    clear h hln hk1 hb1 hT hE fa
    go_enter Tryz.func90, Tryz.ntmps90
    go_wp2
    refine bodyPost_ret (ret_file _ w.heap.size fl0 _ (put4 HK1.out) rfl) rfl ?_
    exact ⟨⟨fl0, false, rfl, HNO.out⟩, below_put4 HB1.out (Nat.le_refl _) _ _ _ _⟩
end Go.Proofs.YtonloefjhofeeaaGreatDoor
