/-
  The law's own examples: what package manifest makes of them.
-/
import Derived.Test.YtkhhcclomjfliaaGreatDoorManifestParse
import Derived.Test.YtkhhcclomjfliaaGreatDoorManifestText
import Derived.Test.YtkhhcclomjfliaaGreatDoorManifestSame
namespace Go.Proofs.YtkhhcclomjfliaaGreatDoor
open Go.RowKit
set_option linter.unusedVariables false

def awE : En := ⟨[97], 16, 3, 0, 1⟩
def awM : List UInt8 := [105, 109, 97, 103, 101, 32, 34, 97, 34, 32, 97, 116, 32, 48, 120, 49, 48, 32, 115, 105, 122, 101, 32, 51, 32, 112, 114, 105, 110, 116, 32, 48, 120, 48, 32, 98, 121, 32, 99, 114, 99, 59]
theorem aw_tells : Tells awE := ⟨⟨[97], by decide⟩, by decide, by decide, by decide, by decide⟩
theorem aw_fits : EnF awE := ⟨by decide, by decide, by decide, by decide, by decide⟩
theorem aw_all : ∀ e ∈ [awE], EnF e ∧ e.name.length ≤ 1048576 := fun e he => by
  obtain rfl : e = awE := by simpa using he
  exact ⟨aw_fits, by decide⟩
theorem aw_body : entB awE = awM := by
  have h1 : numL 16 16 = [49, 48] := by
    show digL 16 16 = _
    rw [digL_ge (by omega) (by omega), digL_lt (by omega)]; rfl
  have h2 : numL 10 3 = [51] := by
    show digL 10 3 = _
    rw [digL_lt (by omega)]; rfl
  have h3 : numL 16 0 = [48] := by
    show digL 16 0 = _
    rw [digL_lt (by omega)]; rfl
  unfold entB awE
  dsimp only
  rw [h1, h2, h3]
  rfl
theorem aw_parse : parseL awM = .ok [awE] := by
  obtain ⟨ts, h1, h2⟩ := cut_body aw_tells [] 0
  rw [List.append_nil, aw_body] at h2
  unfold parseL
  rw [h2, cut_nil]
  show parseT (ts ++ [_]) = _
  rw [parse_e aw_tells h1, parse_end rfl rfl]; rfl
theorem aw_text : textL [awE] = awM ++ [10] := by
  unfold textL
  rw [List.flatMap_cons, List.flatMap_nil, List.append_nil, line_body, aw_body]
set_option maxRecDepth 100000 in
set_option maxHeartbeats 4000000 in
theorem awake_any (w : World) (hT : NumT w) : Calls Tryz.prog 5 #[] w fun e w' => e = .returned (.bool true) ∧ Below w.heap.size w w' := by
  have HC := keepHid (show Calls Tryz.prog 6 #[.string ⟨#[105, 109, 97, 103, 101, 32, 34, 97, 34, 32, 97, 116, 32, 48, 120, 49, 48, 32, 115, 105, 122, 101, 32, 51, 32, 112, 114, 105, 110, 116, 32, 48, 120, 48, 32, 98, 121, 32, 99, 114, 99, 59]⟩] w (ParsePost awM w) from parse_any awM (by decide) w hT.errs)
  have HT := keepHid hT
  clear hT
  go_enter Tryz.func5, Tryz.ntmps5
  go_wp2_with fail
  refine HC.out.mono ?_
  rintro e w1 ⟨⟨x, hx, rfl⟩ | ⟨es, A, n, c, hes, rfl, hown⟩, hb1⟩
  · rw [aw_parse] at hx; cases hx
  · obtain rfl : [awE] = es := by rw [aw_parse] at hes; injection hes
    have hn : n = 1 := by have := hown.len; simpa using this.symm
    subst hn
    have HS := keepHid hown.ens
    obtain ⟨A', c', e0, hc1, hc2, hA⟩ := hown.form
    obtain ⟨rfl, rfl⟩ : A = A' ∧ c = c' := by injection e0 with e1 e2 e3; exact ⟨e1, e3⟩
    obtain ⟨g, rfl⟩ : ∃ g, A = some ⟨g, 0, none⟩ := by
      rcases hA with ⟨_, h⟩ | ⟨g, h, _⟩
      · omega
      · exact ⟨g, h⟩
    obtain ⟨ad, ha, _, a0, a1, a2, a3, a4⟩ := hown.ens.at_ (k := 0) (e := awE) rfl
    obtain rfl := (Option.some.inj ha).symm
    have c0 : w1.cell? ⟨g, 0, none⟩ = some (.string ⟨#[97]⟩) := a0
    have c1 : w1.cell? ⟨g, 1, none⟩ = some (.int .i64 16) := a1
    have c2 : w1.cell? ⟨g, 2, none⟩ = some (.int .i64 3) := a2
    have c3 : w1.cell? ⟨g, 3, none⟩ = some (.int .u32 0) := a3
    have c4 : w1.cell? ⟨g, 4, none⟩ = some (.int .i64 1) := a4
    have hcmp : ∀ W, (binOp .eql 40 (.agg #[.string ⟨#[97]⟩, .int .i64 16, .int .i64 3, .int .u32 0, .int .i64 1]) (.agg #[.string ⟨#[97]⟩, .int .i64 16, .int .i64 3, .int .u32 0, .int .i64 1])).run Tryz.prog W = .ok (.bool true) W := fun W => by
      have := eq_en awE awE W
      rw [decide_eq_true rfl] at this
      exact this
    have HB1 := keepHid hb1
    have HTX := keepHid (mtext_any [awE] (some ⟨g, 0, none⟩) 1 c aw_all (by rw [aw_text]; decide) (by omega) w1 (HT.out.below hb1 (Nat.le_refl _)) HS.out)
    rw [aw_text] at HTX
    have hse := strB_same (xs := awM ++ [10]) (bs := awM ++ [10]) rfl
    have hse2 : ((strB (awM ++ [10])).toList == [105, 109, 97, 103, 101, 32, 34, 97, 34, 32, 97, 116, 32, 48, 120, 49, 48, 32, 115, 105, 122, 101, 32, 51, 32, 112, 114, 105, 110, 116, 32, 48, 120, 48, 32, 98, 121, 32, 99, 114, 99, 59, 10]) = true := by rw [strB_toList]; decide
    generalize strB (awM ++ [10]) = X at *
    clear e0 hA hown hb1 ha a0 a1 a2 a3 a4 hes HC
    go_wp2_with fail
    refine HTX.out.mono ?_
    rintro e w2 ⟨rfl, hb2⟩
    have HB2 := keepHid (HB1.out.trans (hb2.mono HB1.out.size))
    clear hb2
    go_wp2
    go_ret
    exact ⟨rfl, HB2.out⟩
end Go.Proofs.YtkhhcclomjfliaaGreatDoor
