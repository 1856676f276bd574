/-
  The statements' own build: patterns that numbers make.
-/
import Derived.Test.YtlmjijejgfhmmaaRegexMakes
import Derived.Test.YtlmjijejgfhmmaaRegexParse
import Derived.WalkKit
import Derived.OwnWalk
import Derived.ProofKit
import Derived.WalkLawsBesides
import Derived.IntWalk
import Derived.RegionTactic
import Derived.BigRegion
import Derived.ChangeAlike
import Derived.Deep.QuietTactic
import Derived.BigQuiet
import Derived.Deep.RegionHeld3
import Derived.Deep.DrawnRows
import Derived.Outline
import Derived.Deep.DeepCutAuto
import Derived.Deep.DeepCutAuto
namespace Go.Proofs.Ytlmjijejgfhmmaa
open Go.RowKit
set_option linter.unusedVariables false




theorem results_tc {fn : Func} {s p : Tmp} {ty : TypeId} (h : fn.results = #[.tmp s, .cell p ty]) (tmps : Array Value) (P : Program) (w : World) :
    (results fn tmps).run P w = ((asAddr (tmps.getD p undef)).run P w).andThen fun a w₁ => ((loadVar ty a).run P w₁).andThen fun v w₂ => .ok (.tuple #[tmps.getD s undef, v]) w₂ := by
  simp only [results, h]
  simp [Sem.run_bind, Result.andThen]
def MakePostD (d : Nat) (ns : List UInt8) (w : World) (e : Ending) (w' : World) : Prop :=
  ∃ h, e = .returned (.tuple #[.string (strB (bldL d ns).1), hdV h]) ∧ IsRe w' w.heap.size h (bldL d ns).2.1 ∧ Below w.heap.size w w'
def MakePost (ns : List UInt8) (w : World) (e : Ending) (w' : World) : Prop := MakePostD 3 ns w e w'
set_option maxHeartbeats 1000000 in
theorem makes_d {d : Nat} (HB0 : BuildSpec d) (A : Option Addr) (n c : Nat) (ns : List UInt8) (w : World) (hy : Bys w w.heap.size A n ns) (hnc : n ≤ c) (hcm : c ≤ 9223372036854775807) :
    Calls Try.prog 9 #[.slice A n c, .int .i64 (d : Int)] w (MakePostD d ns w) := by
  obtain ⟨w1, hw1⟩ : ∃ w1, w.alloc (.cells #[.int .i64 0, .int .u64 0, .int .u64 0, .int .u64 0, .int .u64 0, .slice none 0 0] 30) = w1 := ⟨_, rfl⟩
  have HZ1 := keepHid (node_new hw1)
  have HL1 : Hid (w.heap.size < w1.heap.size) := keepHid (by rw [← hw1]; simp)
  have hb1 : Below w.heap.size w w1 := by rw [← hw1]; exact (Below.refl _ _).alloc (Nat.le_refl _) _
  have HB1 := keepHid hb1
  have HR : Hid (Calls Try.prog 21 #[.slice A n c, .int .i64 (d : Int)] w1 (BuildPost w.heap.size d ns w1)) := keepHid (HB0 w.heap.size A n c ns w1 hb1.size (hy.below hb1) hnc hcm)
  clear hy hb1
  go_enter Try.func9, Try.ntmps9
  go_wp2_with fail
  with_reducible refine HR.out.mono ?_
  rintro e w2 ⟨h, A2, n2, c2, rfl, hi, _, _, _, hb2⟩
  obtain ⟨w3, hw3⟩ : ∃ w3, w2.alloc (.cells (hdC h) 30) = w3 := ⟨_, rfl⟩
  have hb23 : Below w2.heap.size w2 w3 := by rw [← hw3]; exact (Below.refl _ _).alloc (Nat.le_refl _) _
  have hn3 : Blk w3 w2.heap.size 30 (hdC h) := by rw [← hw3]; exact Blk.new _ _ _
  have hz3 := (HZ1.out.below hb2 HZ1.out.lt).below hb23 (HZ1.out.below hb2 HZ1.out.lt).lt
  have HB3 := keepHid (hb2.trans (hb23.mono hb2.size))
  have HI3 := keepHid (hi.below hb23)
  obtain ⟨S, hS⟩ : ∃ S, strB (bldL d ns).1 = S := ⟨_, rfl⟩
  rw [hS]
  have HSS := keepHid hS
  clear hi hb2 hb23 hw1 HR hS
  unfold hdV
  unfold hdC at hw3
  go_upto_region 2 with fail
  try rw [hw3]
  clear hw3
  obtain ⟨k0, k1, k2, k3, k4, k5, kf⟩ := blk6 hn3
  obtain ⟨z0, z1, z2, z3, z4, z5, zf⟩ := blk6 hz3
  have hlt : w.heap.size < w3.heap.size := hz3.lt
  clear hn3 hz3
  go_region
  all_goals
    go_wp2
    have hlo := HL1.out
    have hbb := below_six (HB1.out.trans (HB3.out.mono HB1.out.size)) (Nat.le_refl _) (.int .i64 h.k) (.int .u64 (h.s.a.toNat : Int)) (.int .u64 (h.s.b.toNat : Int)) (.int .u64 (h.s.c.toNat : Int)) (.int .u64 (h.s.d.toNat : Int)) (.slice h.A h.n h.c)
    have hii : IsRe _ w.heap.size h (bldL d ns).2.1 := (HI3.out.keep (fun b hb hl => six_far (u0 := .int .i64 h.k) (u1 := .int .u64 (h.s.a.toNat : Int)) (u2 := .int .u64 (h.s.b.toNat : Int)) (u3 := .int .u64 (h.s.c.toNat : Int)) (u4 := .int .u64 (h.s.d.toNat : Int)) (u5 := .slice h.A h.n h.c) (b := w.heap.size) (by have : w1.heap.size ≤ b := hb; omega))).low (Nat.le_of_lt hlo)
    have hid := hii.below (Below.drew (Below.refl _ _))
    refine bodyPost_ret (v := .tuple #[.string S, hdV h]) ?_ ?_ ?_
    case refine_2 => rfl
    case refine_1 => rw [results_tc rfl]; go_simp; rfl
    exact ⟨h, by rw [HSS.out], hid, hbb.drew⟩
theorem makes_any (HB0 : BuildSpec 3) (A : Option Addr) (n c : Nat) (ns : List UInt8) (w : World) (hy : Bys w w.heap.size A n ns) (hnc : n ≤ c) (hcm : c ≤ 9223372036854775807) :
    Calls Try.prog 9 #[.slice A n c, .int .i64 3] w (MakePost ns w) := makes_d HB0 A n c ns w hy hnc hcm
end Go.Proofs.Ytlmjijejgfhmmaa
