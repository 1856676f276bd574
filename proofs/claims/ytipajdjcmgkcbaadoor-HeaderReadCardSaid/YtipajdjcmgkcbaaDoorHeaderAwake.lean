/-
  What the statements' own 'made' and 'awake' answer.
-/
import Derived.Test.YtipajdjcmgkcbaaDoorHeaderLaw
import Derived.WalkKit
import Derived.ProofKit
import Derived.WalkLawsBesides
import Derived.IntWalk
import Derived.RegionTactic
import Derived.BigRegion
import Derived.ChangeAlike
import Derived.Deep.QuietTactic
import Derived.BigQuiet
import Derived.Deep.RegionHeld3
import Derived.Deep.DrawnRows
import Derived.Outline
namespace Go.Proofs.YtipajdjcmgkcbaaDoor
open Go.RowKit
set_option linter.unusedVariables false

set_option maxHeartbeats 4000000 in
theorem made_any (f : Fl) (hf : May f) (w : World) :
    Calls Tryd.prog 13 #[flV f] w fun e w' => e = .returned (.string (strB (encL f))) ∧ Below w.heap.size w w' := by
  have hnl := (nameB_len hf.name).2
  have hbl := body_len hf
  obtain ⟨l, a0, b0, c0⟩ := f
  have p1 := hf.size0; have p2 := hf.size; have p3 := hf.time0; have p4 := hf.time; have p5 := hf.mode0; have p6 := hf.mode
  obtain ⟨a, rfl⟩ : ∃ a : Nat, a0 = (a : Int) := ⟨a0.toNat, by simp at p1; omega⟩
  obtain ⟨b, rfl⟩ : ∃ b : Nat, b0 = (b : Int) := ⟨b0.toNat, by simp at p3; omega⟩
  obtain ⟨c, rfl⟩ : ∃ c : Nat, c0 = (c : Int) := ⟨c0.toNat, by simp at p5; omega⟩
  have q2 : a < 4294967296 := by simp only at p2; omega
  have q4 : b < 4294967296 := by simp only at p4; omega
  have q6 : c < 4294967296 := by simp only at p6; omega
  have hbody : bodyL ⟨l, a, b, c⟩ = l ++ [0] ++ digs 10 a ++ [32] ++ digs 8 b ++ [32] ++ digs 8 c := rfl
  have henc : encL ⟨l, a, b, c⟩ = bodyL ⟨l, a, b, c⟩ ++ zeros (128 - (bodyL ⟨l, a, b, c⟩).length) := rfl
  rw [hbody] at hbl henc
  clear p1 p2 p3 p4 p5 p6 hbody hf
  generalize encL ⟨l, a, b, c⟩ = E at *
  obtain ⟨d1, hd1⟩ : ∃ d, digs 10 a = d := ⟨_, rfl⟩
  obtain ⟨d2, hd2⟩ : ∃ d, digs 8 b = d := ⟨_, rfl⟩
  obtain ⟨d3, hd3⟩ : ∃ d, digs 8 c = d := ⟨_, rfl⟩
  have H1 := keepHid (digits10_any a q2)
  have H2 := keepHid (digits8_any b q4)
  have H3 := keepHid (digits8_any c q6)
  rw [hd1] at H1 hbl henc
  rw [hd2] at H2 hbl henc
  rw [hd3] at H3 hbl henc
  have hs : l.length + 1 + d1.length + 1 + d2.length + 1 + d3.length ≤ 56 := by simp only [List.length_append, List.length_cons, List.length_nil] at hbl; omega
  have hs1 : ∀ w, (Op.stringOp .add (strB l) ⟨#[0]⟩).run Tryd.prog w = .ok (.string (strB (l ++ [0]))) w := fun w => run_strAdd l [0] (by simp; omega) w
  have hs2 : ∀ w, (Op.stringOp .add (strB (l ++ [0])) (strB d1)).run Tryd.prog w = .ok (.string (strB (l ++ [0] ++ d1))) w := fun w => run_strAdd _ _ (by simp; omega) w
  have hs3 : ∀ w, (Op.stringOp .add (strB (l ++ [0] ++ d1)) ⟨#[32]⟩).run Tryd.prog w = .ok (.string (strB (l ++ [0] ++ d1 ++ [32]))) w := fun w => run_strAdd (l ++ [0] ++ d1) [32] (by simp; omega) w
  have hs4 : ∀ w, (Op.stringOp .add (strB (l ++ [0] ++ d1 ++ [32])) (strB d2)).run Tryd.prog w = .ok (.string (strB (l ++ [0] ++ d1 ++ [32] ++ d2))) w := fun w => run_strAdd _ _ (by simp; omega) w
  have hs5 : ∀ w, (Op.stringOp .add (strB (l ++ [0] ++ d1 ++ [32] ++ d2)) ⟨#[32]⟩).run Tryd.prog w = .ok (.string (strB (l ++ [0] ++ d1 ++ [32] ++ d2 ++ [32]))) w := fun w => run_strAdd (l ++ [0] ++ d1 ++ [32] ++ d2) [32] (by simp; omega) w
  have hs6 : ∀ w, (Op.stringOp .add (strB (l ++ [0] ++ d1 ++ [32] ++ d2 ++ [32])) (strB d3)).run Tryd.prog w = .ok (.string (strB (l ++ [0] ++ d1 ++ [32] ++ d2 ++ [32] ++ d3))) w := fun w => run_strAdd _ _ (by simp; omega) w
  generalize hx6 : l ++ [0] ++ d1 ++ [32] ++ d2 ++ [32] ++ d3 = x6 at *
  generalize l ++ [0] ++ d1 ++ [32] ++ d2 ++ [32] = x5 at *
  generalize l ++ [0] ++ d1 ++ [32] ++ d2 = x4 at *
  generalize l ++ [0] ++ d1 ++ [32] = x3 at *
  generalize l ++ [0] ++ d1 = x2 at *
  generalize l ++ [0] = x1 at *
  clear hd1 hd2 hd3 hs hx6 q2 q4 q6
  obtain ⟨m, hm⟩ : ∃ m, x6.length = m := ⟨_, rfl⟩
  have hsz : (strB x6).size = m := by rw [strB_size, hm]
  have hs7 : ∀ w, (Op.stringOp .add (strB x6) (strB (zeros (128 - m)))).run Tryd.prog w = .ok (.string (strB E)) w := fun w => by
    have := run_strAdd (P := Tryd.prog) x6 (zeros (128 - m)) (by rw [zeros_len]; omega) w
    rw [henc, hm]; exact this
  rw [hm] at hbl
  obtain ⟨n, hn⟩ : ∃ n, 128 - m = n := ⟨_, rfl⟩
  rw [hn] at hs7
  have hn' : (128 : Int) - (m : Int) = (n : Int) := by omega
  have hnn : n ≤ 128 := by omega
  have HMK : Hid (∀ W : World, (Instr.makeSlice 24 (.int .i64 (n : Int)) (.int .i64 (n : Int))).run Tryd.prog W = .ok (.slice (some ⟨W.heap.size, 0, none⟩) n n) (W.alloc (.cells (zrow n) 5))) := keepHid fun W => run_mkbs n n n n rfl rfl (Nat.le_refl _) (by omega) W
  have HCV : Hid (∀ W : World, (convert 24 9 (.slice (some ⟨W.heap.size, 0, none⟩) n n)).run Tryd.prog (W.alloc (.cells (zrow n) 5)) = .ok (.string (strB (zeros n))) (W.alloc (.cells (zrow n) 5))) := keepHid fun W => conv_new W W.heap.size rfl (zrow n) (zeros n) n (zeros_len n) rfl (by omega)
  clear henc hm hn
  obtain ⟨w1, hw1⟩ : ∃ w1, w.alloc (.cells #[.string (strB l), .int .i64 a, .int .i64 b, .int .i64 c] 23) = w1 := ⟨_, rfl⟩
  have hc0 : w1.cell? ⟨w.heap.size, 0, none⟩ = some (.string (strB l)) := by rw [← hw1]; exact (Blk.new w _ _).cell 0
  have hc1 : w1.cell? ⟨w.heap.size, 1, none⟩ = some (.int .i64 a) := by rw [← hw1]; exact (Blk.new w _ _).cell 1
  have hc2 : w1.cell? ⟨w.heap.size, 2, none⟩ = some (.int .i64 b) := by rw [← hw1]; exact (Blk.new w _ _).cell 2
  have hc3 : w1.cell? ⟨w.heap.size, 3, none⟩ = some (.int .i64 c) := by rw [← hw1]; exact (Blk.new w _ _).cell 3
  have HB : Hid (Below w.heap.size w w1) := keepHid (by rw [← hw1]; exact (Below.refl _ _).alloc (Nat.le_refl _) _)
  show Calls Tryd.prog 13 #[.agg #[.string (strB l), .int .i64 a, .int .i64 b, .int .i64 c]] w _
  go_enter Tryd.func13, Tryd.ntmps13
  go_wp2
  go_quiet (first
    | (go_at_call 23; (with_reducible refine Calls.quiet_of (H1.out _)))
    | (go_at_call 23; (with_reducible refine Calls.quiet_of (H2.out _)))
    | (go_at_call 23; (with_reducible refine Calls.quiet_of (H3.out _))))
  have HB2 : Hid (Below w.heap.size w (w1.drewN nq)) := keepHid (below_drewN HB.out _)
  generalize w1.drewN nq = w2 at *
  have hmk := HMK.out w2
  have hcv := HCV.out w2
  have HB3 : Hid (Below w.heap.size w (w2.alloc (.cells (zrow n) 5))) := keepHid (HB2.out.alloc HB2.out.size _)
  generalize w2.alloc (.cells (zrow n) 5) = w3 at *
  clear hw1 hc0 hc1 hc2 hc3
  go_wp2
  go_ret
  exact ⟨rfl, HB3.out⟩

theorem mk_bys {w : World} {g : Nat} {bs : List UInt8} (h : Blk w g 5 (byteVals bs)) (hl : bs.length = 128) : Bys w (g + 1) (some ⟨g, 0, none⟩) 128 bs := by
  have := bys_of_blk h (j := 0) (n := 128) (by omega) (by omega)
  rw [List.drop_zero] at this
  exact this
theorem ends_zeros : endsB (zeros 128) = true := by
  show endsB (zeros (127 + 1)) = true
  unfold endsB
  rw [zeros_len, zeros_succ]
  simp
def flA : Fl := ⟨[97], 8, 9, 7⟩
theorem may_A : May flA := (mayB_iff _).1 (by decide)
theorem enc_A : (encL flA).take 9 = [97, 0, 56, 32, 49, 49, 32, 55, 0] := by
  have h1 : digs 10 8 = [56] := digs_lt (by omega)
  have h2 : digs 8 9 = [49, 49] := by rw [digs_ge (by omega) (by omega), digs_lt (by omega)]; rfl
  have h3 : digs 8 7 = [55] := digs_lt (by omega)
  have hb : bodyL flA = [97, 0, 56, 32, 49, 49, 32, 55] := by
    show [97] ++ [0] ++ digs 10 8 ++ [32] ++ digs 8 9 ++ [32] ++ digs 8 7 = _
    rw [h1, h2, h3]; rfl
  unfold encL
  rw [hb]
  rfl

set_option maxHeartbeats 4000000 in
theorem awake_any (w : World) (hT : Tabs w) : Calls Tryd.prog 9 #[] w fun e w' => e = .returned (.bool true) ∧ Below w.heap.size w w' := by
  have H0 := keepHid (hmake_ok flA may_A w hT)
  have HT := keepHid hT
  clear hT
  go_enter Tryd.func9, Tryd.ntmps9
  go_wp2_with fail
  refine H0.out.mono ?_
  rintro e w1 ⟨g, rfl, hg, hk, hb⟩
  have hbys := mk_bys hk (enc_len may_A)
  have hb9 := hbys.head (k := 9) (by omega)
  rw [enc_A] at hb9
  have hcv := run_str (P := Tryd.prog) (c := 128) 24 5 9 Tryd.underlying24 Tryd.underlying5 Tryd.underlying9 hb9
  have hsame : (strB [97, 0, 56, 32, 49, 49, 32, 55, 0]).toList = [97, 0, 56, 32, 49, 49, 32, 55, 0] := strB_toList _
  generalize strB [97, 0, 56, 32, 49, 49, 32, 55, 0] = S at *
  have HB := keepHid hb
  have hz := mk_bys (w := w1.alloc (.cells (zrow 128) 5)) (Blk.new w1 _ (zrow 128)) (zeros_len 128)
  have HE := keepHid (ends_any _ 128 128 _ _ _ hz (Nat.le_refl _))
  have HEE : Hid (endsB (zeros 128) = true) := keepHid ends_zeros
  have HB3 : Hid (Below w.heap.size w (w1.alloc (.cells (zrow 128) 5))) := keepHid (hb.alloc hb.size _)
  have HM := keepHid (empty_any w1)
  clear hz hb hk hb9 hbys
  generalize w1.alloc (.cells (zrow 128) 5) = w3 at *
  generalize zeros 128 = Z at *
  go_wp2_with fail
  refine HM.out.mono ?_
  rintro e w' ⟨rfl, rfl⟩
  go_wp2_with fail
  refine HE.out.mono ?_
  rintro e w' ⟨rfl, rfl⟩
  rw [HEE.out]
  go_wp2
  go_ret
  exact ⟨rfl, HB3.out⟩
end Go.Proofs.YtipajdjcmgkcbaaDoor
