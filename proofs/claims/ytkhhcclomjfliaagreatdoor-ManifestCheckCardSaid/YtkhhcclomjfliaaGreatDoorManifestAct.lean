/-
  The law's own entries, by numbers: (Act).Entry.
-/
import Derived.Test.YtkhhcclomjfliaaGreatDoorManifestEntry
import Derived.Test.YtkhhcclomjfliaaGreatDoorHeaderNm
import Derived.Lib.QuietBelow
import Derived.Deep.DeepCutAuto
namespace Go.Proofs.YtkhhcclomjfliaaGreatDoor
open Go.RowKit
set_option linter.unusedVariables false

/-- What makes an entry: a name's numbers, a place, a size, a print, a way. -/
structure Mac where
  nm : List UInt8
  ad : Nat
  sz : Nat
  pr : Nat
  wy : Nat
structure MacF (a : Mac) : Prop where
  ad : a.ad ≤ 65535
  sz : a.sz ≤ 65535
  pr : a.pr ≤ 4294967295
  wy : a.wy ≤ 255
def entOf (a : Mac) (k : Nat) : En := ⟨nmL a.nm ++ [UInt8.ofNat (97 + k)], if a.ad % 8 = 7 then (a.ad : Int) else ((k * 2048 : Nat) : Int), ((1 + a.sz % 600 : Nat) : Int), (a.pr : Int), ((a.wy % 4 : Nat) : Int)⟩
theorem rune_at (k : Nat) (hk : k < 8) (w : World) : (convert 21 9 (.int .i32 (97 + (k : Int)))).run Tryz.prog w = .ok (.string (strB [UInt8.ofNat (97 + k)])) w := by
  rcases (by omega : k = 0 ∨ k = 1 ∨ k = 2 ∨ k = 3 ∨ k = 4 ∨ k = 5 ∨ k = 6 ∨ k = 7) with rfl | rfl | rfl | rfl | rfl | rfl | rfl | rfl <;> kernel_rfl
theorem nmL_len (ns : List UInt8) : (nmL ns).length ≤ 9 := by unfold nmL; simp; omega
set_option maxRecDepth 100000 in
set_option maxHeartbeats 8000000 in
theorem act_any (a : Mac) (hF : MacF a) (k : Nat) (hk : k < 8) (A : Option Addr) (n c : Nat) (w : World) (hN : Bys w w.heap.size A n a.nm) :
    Calls Tryz.prog 22 #[.agg #[.slice A n c, .int .u16 (a.ad : Int), .int .u16 (a.sz : Int), .int .u32 (a.pr : Int), .int .u8 (a.wy : Int)], .int .i64 (k : Int)] w fun r w' => r = .returned (enV (entOf a k)) ∧ Below w.heap.size w w' := by
  obtain ⟨ns, ad, sz, pr, wy⟩ := a
  obtain ⟨h1, h2, h3, h4⟩ := hF
  dsimp only at *
  have hrune := rune_at k hk
  have hadd : ∀ w, (Op.stringOp .add (strB (nmL ns)) (strB [UInt8.ofNat (97 + k)])).run Tryz.prog w = .ok (.string (strB (nmL ns ++ [UInt8.ofNat (97 + k)]))) w := fun w => run_strAdd _ _ (by have := nmL_len ns; simp; omega) w
  have HR : Hid (∀ z : Int, (if ad % 8 = 7 then z = (ad : Int) else z = ((k * 2048 : Nat) : Int)) → enV (entOf ⟨ns, ad, sz, pr, wy⟩ k) = .agg #[.string (strB (nmL ns ++ [UInt8.ofNat (97 + k)])), .int .i64 z, .int .i64 (1 + (sz : Int) % 600), .int .u32 (pr : Int), .int .i64 ((wy : Int) % 4)]) := keepHid (fun z hz => by
    unfold enV enA entOf
    dsimp only
    split at hz
    · rename_i h; rw [if_pos h, hz]; rfl
    · rename_i h; rw [if_neg h, hz]; rfl)
  generalize enV (entOf ⟨ns, ad, sz, pr, wy⟩ k) = R at *
  generalize strB (nmL ns ++ [UInt8.ofNat (97 + k)]) = NMC at *
  generalize strB [UInt8.ofNat (97 + k)] = CH at *
  have HN0 := keepHid hN
  obtain ⟨w1, hw1⟩ : ∃ w1, w.alloc (.cells #[.slice A n c, .int .u16 (ad : Int), .int .u16 (sz : Int), .int .u32 (pr : Int), .int .u8 (wy : Int)] 70) = w1 := ⟨_, rfl⟩
  have hK1 : Blk w1 w.heap.size 70 #[.slice A n c, .int .u16 (ad : Int), .int .u16 (sz : Int), .int .u32 (pr : Int), .int .u8 (wy : Int)] := by rw [← hw1]; exact Blk.new w _ _
  have hB1 : Below w.heap.size w w1 := by rw [← hw1]; exact (Below.refl _ _).alloc (Nat.le_refl _) _
  obtain ⟨w2, hw2⟩ : ∃ w2, w1.alloc (.cells #[.string ⟨#[]⟩, .int .i64 0, .int .i64 0, .int .u32 0, .int .i64 0] 40) = w2 := ⟨_, rfl⟩
  have hK2 : Blk w2 w1.heap.size 40 #[.string ⟨#[]⟩, .int .i64 0, .int .i64 0, .int .u32 0, .int .i64 0] := by rw [← hw2]; exact Blk.new w1 _ _
  have hB2 : Below w1.heap.size w1 w2 := by rw [← hw2]; exact (Below.refl _ _).alloc (Nat.le_refl _) _
  have hKA := hK1.below hB2 hK1.lt
  have HKA := keepHid hKA
  have HKE := keepHid hK2
  have HB2 := keepHid (hB1.trans (hB2.mono hB1.size))
  have HL1 := keepHid hB1.size
  have HNM : Hid (∀ w', Below w2.heap.size w2 w' → Calls Tryz.prog 41 #[.slice A n c] w' fun e w'' => e = .returned (.string (strB (nmL ns))) ∧ w' = w'') := keepHid (fun w' hb => nm_any A n c _ ns w' (hN.below ((hB1.trans (hB2.mono hB1.size)).trans (hb.mono (hB1.trans (hB2.mono hB1.size)).size))))
  generalize strB (nmL ns) = NM0 at *
  have HCS : Hid (∀ w', Below w2.heap.size w2 w' → w'.cell? ⟨w.heap.size, 0, none⟩ = some (.slice A n c) ∧ w'.cell? ⟨w.heap.size, 2, none⟩ = some (.int .u16 (sz : Int)) ∧ w'.cell? ⟨w.heap.size, 3, none⟩ = some (.int .u32 (pr : Int)) ∧ w'.cell? ⟨w.heap.size, 4, none⟩ = some (.int .u8 (wy : Int)) ∧ Below w2.heap.size w2 w') := keepHid (fun w' hb => by
    have := HKA.out.below hb HKA.out.lt
    exact ⟨this.cell 0, this.cell 2, this.cell 3, this.cell 4, hb⟩)
  have hk8 : (k : Int) < 8 := by omega
  have hs16 : (sz : Int) ≤ 65535 := by omega
  have ha16 : (ad : Int) ≤ 65535 := by omega
  have hw8 : (wy : Int) ≤ 255 := by omega
  clear hN hK1 hB1 hK2 hB2 hKA
  generalize hG : w.heap.size = G at *
  go_enter Tryz.func22, Tryz.ntmps22
  go_upto_region 1 with fail
  try rw [hw1]
  try rw [hw2]
  clear hw1 hw2
  go_cut [5] (fun s wx => ∃ GB, s = .pointer (some ⟨GB, 0, none⟩) ∧ w2.heap.size ≤ GB ∧ Blk wx GB 40 #[.string NMC, .int .i64 ((k : Int) * 2048), .int .i64 (1 + (sz : Int) % 600), .int .u32 (pr : Int), .int .i64 ((wy : Int) % 4)] ∧ Below w2.heap.size w2 wx)
  case first =>
    have v1 : IntKind.i64.wrap (97 + (k : Int)) = 97 + (k : Int) := by rw [IntKind.wrap_i64]; omega
    have v2 : IntKind.i32.wrap (97 + (k : Int)) = 97 + (k : Int) := by unfold IntKind.wrap; simp [IntKind.signed, IntKind.bits]; omega
    have v3 : IntKind.i64.wrap ((k : Int) * 2048) = (k : Int) * 2048 := by rw [IntKind.wrap_i64]; omega
    have v4 : IntKind.i64.wrap (sz : Int) = (sz : Int) := by rw [IntKind.wrap_i64]; omega
    have v5 : IntKind.i64.wrap (1 + (sz : Int) % 600) = 1 + (sz : Int) % 600 := by rw [IntKind.wrap_i64]; omega
    have v6 : IntKind.i64.wrap ((wy : Int) % 4) = (wy : Int) % 4 := by rw [IntKind.wrap_i64]; omega
    have v7 : Int.tmod (sz : Int) 600 = (sz : Int) % 600 := Int.tmod_eq_emod_of_nonneg (by omega)
    have v8 : Int.tmod (wy : Int) 4 = (wy : Int) % 4 := Int.tmod_eq_emod_of_nonneg (by omega)
    have v9 : IntKind.i64.wrap ((sz : Int) % 600) = (sz : Int) % 600 := by rw [IntKind.wrap_i64]; omega
    have v10 : IntKind.u8.wrap ((wy : Int) % 4) = (wy : Int) % 4 := by unfold IntKind.wrap; simp [IntKind.signed, IntKind.bits]; omega
    go_region_held3 (fun w' => w'.cell? ⟨G, 0, none⟩ = some (.slice A n c) ∧ w'.cell? ⟨G, 2, none⟩ = some (.int .u16 (sz : Int)) ∧ w'.cell? ⟨G, 3, none⟩ = some (.int .u32 (pr : Int)) ∧ w'.cell? ⟨G, 4, none⟩ = some (.int .u8 (wy : Int)) ∧ Below w2.heap.size w2 w') (exact HCS.out _ (by (repeat (first | (with_reducible exact Below.refl _ _) | (with_reducible refine Below.drew ?_) | (with_reducible refine Below.alloc ?_ (Nat.le_refl _) _))))) (first | (go_at_call 41; (with_reducible refine (HNM.out _ (by (first | exact Below.refl _ _ | exact Below.drew (Below.refl _ _) | exact (Below.refl _ _).alloc (Nat.le_refl _) _ | exact Below.drew ((Below.refl _ _).alloc (Nat.le_refl _) _) | exact (Below.drew (Below.refl _ _)).alloc (Nat.le_refl _) _))).mono ?_); rintro e w' ⟨rfl, rfl⟩))
    all_goals
      go_wp2_with fail
      go_meet
      case rel => exact ⟨_, rfl, Nat.le_refl _, Blk.new w2 _ _, ((Below.refl _ _).alloc (Nat.le_refl _) _).drew⟩
  case rest =>
    obtain ⟨GB, rfl, hGB, hKB, hBB⟩ := hcut
    have HE1 := HKE.out.below hBB HKE.out.lt
    have HA1 := HKA.out.below hBB HKA.out.lt
    have HBC := keepHid (HB2.out.trans (hBB.mono (hG ▸ HB2.out.size)))
    have hlt1 := HKE.out.lt
    have hlt2 := HKA.out.lt
    have a1 : wc.cell? ⟨G, 1, none⟩ = some (.int .u16 (ad : Int)) := HA1.cell 1
    have v11 : IntKind.i64.wrap (ad : Int) = (ad : Int) := by rw [IntKind.wrap_i64]; omega
    have v12 : Int.tmod (ad : Int) 8 = (ad : Int) % 8 := Int.tmod_eq_emod_of_nonneg (by omega)
    have HKB := keepHid hKB
    have HL1' := HL1.out
    have hne1 : ¬ GB = w1.heap.size := by omega
    have hne2 : ¬ w1.heap.size = GB := by omega
    generalize hG1 : w1.heap.size = G1 at *
    clear HKE HKA HCS HNM hBB hG1
    by_cases h7 : ad % 8 = 7
    · have e7 : ((ad : Int) % 8 == 7) = true := by simp; omega
      have e7i : (ad : Int) % 8 = 7 := by omega
      have HRR := keepHid (HR.out (ad : Int) (by rw [if_pos h7]))
      obtain ⟨wd, hwd⟩ : ∃ wd, wc.setCell ⟨GB, 1, none⟩ (.int .i64 (ad : Int)) = wd := ⟨_, rfl⟩
      have hKD : Blk wd GB 40 #[.string NMC, .int .i64 (ad : Int), .int .i64 (1 + (sz : Int) % 600), .int .u32 (pr : Int), .int .i64 ((wy : Int) % 4)] := by rw [← hwd]; exact hKB.put 1 _
      have hED : Blk wd G1 40 #[.string ⟨#[]⟩, .int .i64 0, .int .i64 0, .int .u32 0, .int .i64 0] := by rw [← hwd]; exact (Below.heap_setCell _ _ _ _ hne2).trans HE1
      have HBD : Hid (Below G w wd) := keepHid (by rw [← hwd]; exact HBC.out.setCell (p := ⟨GB, 1, none⟩) (by show G ≤ GB; omega) _)
      have c1 : wc.cell? ⟨GB, 1, none⟩ = some (.int .i64 ((k : Int) * 2048)) := hKB.cell 1
      have cf1 := hKB.frozen 1
      have g0 := hKD.cell 0; have g1 := hKD.cell 1; have g2 := hKD.cell 2; have g3 := hKD.cell 3; have g4 := hKD.cell 4
      have d0 := hED.cell 0; have d1 := hED.cell 1; have d2 := hED.cell 2; have d3 := hED.cell 3; have d4 := hED.cell 4
      have f0 := hED.frozen 0; have f1 := hED.frozen 1; have f2 := hED.frozen 2; have f3 := hED.frozen 3; have f4 := hED.frozen 4
      simp at g0 g1 g2 g3 g4 d0 d1 d2 d3 d4
      have HED := keepHid hED
      clear hKD hED h7 HR hKB HE1 HA1 h1
      go_wp2
      refine bodyPost_ret (results_cell_row (p := 4) (ty := 40) rfl _ _ G1 40 #[.string NMC, .int .i64 (ad : Int), .int .i64 (1 + (sz : Int) % 600), .int .u32 (pr : Int), .int .i64 ((wy : Int) % 4)] (0, 0) _ rfl (put5 HED.out) Tryz.underlying40 rfl sizeE) rfl ?_
      exact ⟨by rw [HRR.out], below_put5 HBD.out HL1.out _ _ _ _ _⟩
    · have e7 : ((ad : Int) % 8 == 7) = false := by simp; omega
      have e7i : ¬ (ad : Int) % 8 = 7 := by omega
      have HRR := keepHid (HR.out ((k : Int) * 2048) (by rw [if_neg h7]; push_cast; rfl))
      have g0 := hKB.cell 0; have g1 := hKB.cell 1; have g2 := hKB.cell 2; have g3 := hKB.cell 3; have g4 := hKB.cell 4
      have d0 := HE1.cell 0; have d1 := HE1.cell 1; have d2 := HE1.cell 2; have d3 := HE1.cell 3; have d4 := HE1.cell 4
      have f0 := HE1.frozen 0; have f1 := HE1.frozen 1; have f2 := HE1.frozen 2; have f3 := HE1.frozen 3; have f4 := HE1.frozen 4
      simp at g0 g1 g2 g3 g4 d0 d1 d2 d3 d4
      have HED := keepHid HE1
      clear h7 HR hKB HE1 HA1 h1
      go_wp2
      refine bodyPost_ret (results_cell_row (p := 4) (ty := 40) rfl _ _ G1 40 #[.string NMC, .int .i64 ((k : Int) * 2048), .int .i64 (1 + (sz : Int) % 600), .int .u32 (pr : Int), .int .i64 ((wy : Int) % 4)] (0, 0) _ rfl (put5 HED.out) Tryz.underlying40 rfl sizeE) rfl ?_
      exact ⟨by rw [HRR.out], below_put5 HBC.out HL1.out _ _ _ _ _⟩
end Go.Proofs.YtkhhcclomjfliaaGreatDoor
