/-
  An entry of tokens: package manifest's entry.
-/
import Derived.Test.YtkhhcclomjfliaaGreatDoorManifestWrong
import Derived.Deep.RegionHeld3
import Derived.BigRegion
namespace Go.Proofs.YtkhhcclomjfliaaGreatDoor
open Go.RowKit
set_option linter.unusedVariables false

theorem put5 {w : World} {g : Nat} {t : TypeId} {a b c d e p q r s u : Value} (hb : Blk w g t #[a, b, c, d, e]) :
    Blk (((((w.setCell ⟨g, 0, none⟩ p).setCell ⟨g, 1, none⟩ q).setCell ⟨g, 2, none⟩ r).setCell ⟨g, 3, none⟩ s).setCell ⟨g, 4, none⟩ u) g t #[p, q, r, s, u] := ((((hb.put 0 p).put 1 q).put 2 r).put 3 s).put 4 u
theorem below_put5 {w0 w : World} {B g : Nat} (h : Below B w0 w) (hg : B ≤ g) (p q r s u : Value) : Below B w0 (((((w.setCell ⟨g, 0, none⟩ p).setCell ⟨g, 1, none⟩ q).setCell ⟨g, 2, none⟩ r).setCell ⟨g, 3, none⟩ s).setCell ⟨g, 4, none⟩ u) :=
  ((((h.setCell (p := ⟨g, 0, none⟩) hg p).setCell (p := ⟨g, 1, none⟩) hg q).setCell (p := ⟨g, 2, none⟩) hg r).setCell (p := ⟨g, 3, none⟩) hg s).setCell (p := ⟨g, 4, none⟩) hg u
theorem sizeE : (Tryz.prog.info? 40).map (·.size) = some 5 := by kernel_rfl
def zeroE : Array Value := #[.string ⟨#[]⟩, .int .i64 0, .int .i64 0, .int .u32 0, .int .i64 0]
set_option maxRecDepth 100000 in
set_option maxHeartbeats 4000000 in
theorem entry_any (ts : List Tk) (ad : Addr) (n c : Nat) (hl : 11 < ts.length) (hn : ts.length = n) (hv : ∀ t ∈ ts, t.val < 4294967296) (hw9 : wayOf (tkAt ts 9).text ≠ none) (w : World) (hT : TkA w ad ts) :
    Calls Tryz.prog 16 #[.slice (some ad) n c] w fun e w' => e = .returned (enV (entT ts)) ∧ Below w.heap.size w w' := by
  have hg : ∀ j, j < 11 → ts[j]? = some (tkAt ts j) ∧ (tkAt ts j).val < 4294967296 := fun j hj => by
    have h1 : ts[j]? = some (ts[j]'(by omega)) := List.getElem?_eq_getElem (by omega)
    have h2 : tkAt ts j = ts[j]'(by omega) := by unfold tkAt; rw [List.getD_eq_getElem?_getD, h1]; rfl
    rw [h2]
    exact ⟨h1, hv _ (List.getElem_mem _)⟩
  obtain ⟨k, hk⟩ := Option.ne_none_iff_exists'.1 hw9
  have HR : Hid (enV (entT ts) = .agg #[.string (strB (tkAt ts 1).text), .int .i64 ((tkAt ts 3).val : Int), .int .i64 ((tkAt ts 5).val : Int), .int .u32 ((tkAt ts 7).val : Int), .int .i64 (k : Int)]) := keepHid (by
    unfold enV enA entT
    rw [hk]; rfl)
  have HWY := keepHid (fun w => way_any (tkAt ts 9).text w)
  unfold wayV at HWY
  rw [hk] at HWY
  obtain ⟨w1, hw1⟩ : ∃ w1, w.alloc (.cells zeroE 40) = w1 := ⟨_, rfl⟩
  have hb1 : Below w.heap.size w w1 := by rw [← hw1]; exact (Below.refl _ _).alloc (Nat.le_refl _) _
  have hB1 : Blk w1 w.heap.size 40 zeroE := by rw [← hw1]; exact Blk.new w _ _
  have hT1 := hT.below hb1 (Nat.le_refl _)
  have HT1 := keepHid hT1
  have HB1 := keepHid hb1
  have HK1 := keepHid hB1
  have hc9 : w1.cell? ⟨ad.block, ad.off + 36 + 1, none⟩ = some (.string (strB (tkAt ts 9).text)) := (hT1 9 _ (hg 9 (by omega)).1).2.2.1
  have HG := keepHid (fun j hj => (hg j hj).1)
  have hv7 := (hg 7 (by omega)).2
  have hwr : IntKind.u32.wrap ((tkAt ts 7).val : Int) = ((tkAt ts 7).val : Int) := by unfold IntKind.wrap; simp [IntKind.signed, IntKind.bits]; omega
  have hn11 : 11 < (n : Int) := by omega
  generalize (tkAt ts 9).text = X9 at *
  generalize enV (entT ts) = R at *
  unfold zeroE at hw1
  clear hT hT1 hb1 hB1 hg hv hw9 hk hl hn hv7
  go_enter Tryz.func16, Tryz.ntmps16
  go_wp2_with fail
  clear hw1
  refine (HWY.out _).mono ?_
  rintro e w2 ⟨rfl, hb2⟩
  have HB2 := keepHid (HB1.out.trans (hb2.mono HB1.out.size))
  have hT2 := HT1.out.below hb2 (Nat.le_refl _)
  have hK2 := HK1.out.below hb2 HK1.out.lt
  have HK2 := keepHid hK2
  have c1 : w2.cell? ⟨ad.block, ad.off + 4 + 1, none⟩ = some (.string (strB (tkAt ts 1).text)) := (hT2 1 _ (HG.out 1 (by omega))).2.2.1
  have c3 : w2.cell? ⟨ad.block, ad.off + 12 + 2, none⟩ = some (.int .i64 ((tkAt ts 3).val : Int)) := (hT2 3 _ (HG.out 3 (by omega))).2.2.2.1
  have c5 : w2.cell? ⟨ad.block, ad.off + 20 + 2, none⟩ = some (.int .i64 ((tkAt ts 5).val : Int)) := (hT2 5 _ (HG.out 5 (by omega))).2.2.2.1
  have c7 : w2.cell? ⟨ad.block, ad.off + 28 + 2, none⟩ = some (.int .i64 ((tkAt ts 7).val : Int)) := (hT2 7 _ (HG.out 7 (by omega))).2.2.2.1
  have d0 := hK2.cell 0; have d1 := hK2.cell 1; have d2 := hK2.cell 2; have d3 := hK2.cell 3; have d4 := hK2.cell 4
  have f0 := hK2.frozen 0; have f1 := hK2.frozen 1; have f2 := hK2.frozen 2; have f3 := hK2.frozen 3; have f4 := hK2.frozen 4
  unfold zeroE at d0 d1 d2 d3 d4
  simp at d0 d1 d2 d3 d4
  clear hT2 hK2 HT1 HK1 HB1 HWY HG hb2 hc9
  generalize ((tkAt ts 7).val : Int) = V7 at *
  generalize ((tkAt ts 5).val : Int) = V5 at *
  generalize ((tkAt ts 3).val : Int) = V3 at *
  generalize strB (tkAt ts 1).text = V1 at *
  generalize hGG : w.heap.size = G at *
  go_wp2_with (go_region)
  all_goals
    go_wp2
    refine bodyPost_ret (results_cell_row (p := 2) (ty := 40) rfl _ _ G 40 #[.string V1, .int .i64 V3, .int .i64 V5, .int .u32 V7, .int .i64 (k : Int)] (0, 0) _ rfl (put5 HK2.out) Tryz.underlying40 rfl sizeE) rfl ?_
    exact ⟨by rw [HR.out], by rw [hGG]; first | exact (below_put5 HB2.out (Nat.le_refl _) _ _ _ _ _).drew | exact below_put5 HB2.out (Nat.le_refl _) _ _ _ _ _⟩
end Go.Proofs.YtkhhcclomjfliaaGreatDoor
