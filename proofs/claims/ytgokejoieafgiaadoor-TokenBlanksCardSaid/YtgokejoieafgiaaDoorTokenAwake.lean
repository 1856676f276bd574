/-
  The document's examples: the statements' own awake.
-/
import Derived.Test.YtgokejoieafgiaaDoorTokenCut
import Derived.Test.YtgokejoieafgiaaDoorTokenQuote
import Derived.Test.YtgokejoieafgiaaDoorTokenSame
namespace Go.Proofs.YtgokejoieafgiaaDoor
open Go.RowKit
set_option linter.unusedVariables false

def awL : List UInt8 := [97, 116, 32, 48, 120, 49, 102, 59]
theorem aw_cut : cutR awL 0 = .ok [⟨1, [97, 116], 0, 0⟩, ⟨2, [48, 120, 49, 102], 31, 3⟩, ⟨4, [59], 0, 7⟩, ⟨0, [], 0, 8⟩] := by
  have e3 : cutR [59] 7 = .ok [⟨4, [59], 0, 7⟩, ⟨0, [], 0, 8⟩] := by
    rw [cut_some (c := 59) (r := []) (t := ⟨4, [59], 0, 0⟩) (n := 1) (by decide) (by decide) (by decide +kernel)]
    show (match cutR [] 8 with | .error q => Except.error q | .ok l => .ok (_ :: l)) = _
    rw [cut_nil]
  have e2 : cutR [48, 120, 49, 102, 59] 3 = .ok [⟨2, [48, 120, 49, 102], 31, 3⟩, ⟨4, [59], 0, 7⟩, ⟨0, [], 0, 8⟩] := by
    rw [cut_some (c := 48) (r := [120, 49, 102, 59]) (t := ⟨2, [48, 120, 49, 102], 31, 0⟩) (n := 4) (by decide) (by decide) (by decide +kernel)]
    show (match cutR [59] 7 with | .error q => Except.error q | .ok l => .ok (_ :: l)) = _
    rw [e3]
  have e1 : cutR [32, 48, 120, 49, 102, 59] 2 = .ok [⟨2, [48, 120, 49, 102], 31, 3⟩, ⟨4, [59], 0, 7⟩, ⟨0, [], 0, 8⟩] := by
    rw [cut_blank (by decide)]; exact e2
  show cutR (97 :: [116, 32, 48, 120, 49, 102, 59]) 0 = _
  rw [cut_some (c := 97) (r := [116, 32, 48, 120, 49, 102, 59]) (t := ⟨1, [97, 116], 0, 0⟩) (n := 2) (by decide) (by decide) (by decide +kernel)]
  show (match cutR [32, 48, 120, 49, 102, 59] 2 with | .error q => Except.error q | .ok l => .ok (_ :: l)) = _
  rw [e1]
theorem aw_quo : quoV [97, 34, 13] = .tuple #[.string (strB [34, 97, 92, 34, 92, 114, 34]), .bool true] := by
  unfold quoV
  rw [show quoL [97, 34, 13] = some [97, 92, 34, 92, 114] by decide +kernel]
  rfl
set_option maxRecDepth 100000 in
set_option maxHeartbeats 4000000 in
theorem awake_any (w : World) (hE : Errs w) : Calls Tryd.prog 8 #[] w fun e w' => e = .returned (.bool true) ∧ Below w.heap.size w w' := by
  have HC : Hid (∀ w, Errs w → Calls Tryd.prog 9 #[.string ⟨#[97, 116, 32, 48, 120, 49, 102, 59]⟩] w (CutPost awL w)) := keepHid (cut_any awL (by decide))
  have HQ : Hid (∀ w, Calls Tryd.prog 14 #[.string ⟨#[97, 34, 13]⟩] w fun e w' => e = .returned (.tuple #[.string (strB [34, 97, 92, 34, 92, 114, 34]), .bool true]) ∧ Below w.heap.size w w') := keepHid fun w => by
    have := quote_any [97, 34, 13] (by decide) w
    rw [aw_quo] at this
    exact this
  have hE0 := keepHid hE
  clear hE
  go_enter Tryd.func8, Tryd.ntmps8
  go_wp2_with fail
  refine (HC.out _ hE0.out).mono ?_
  rintro e w1 ⟨⟨p, he, _⟩ | ⟨ts, A, n, c, hts, rfl, hown⟩, hb1⟩
  · rw [aw_cut] at he; cases he
  · rw [aw_cut] at hts
    obtain rfl := Except.ok.inj hts
    have hn := hown.len
    have HR := keepHid hown.tkr
    have HB1 := keepHid hb1
    obtain rfl : n = 4 := hn.symm
    clear hts hown hb1 hn
    go_wp2_with fail
    refine (HQ.out _).mono ?_
    rintro e w2 ⟨rfl, hb2⟩
    have HR2 := HR.out.below hb2 (Nat.le_refl _)
    have HB2 := keepHid (HB1.out.trans (hb2.mono HB1.out.size))
    obtain ⟨g, rfl, gl, a0, _, _, _⟩ := HR2.at_ (k := 0) rfl
    obtain ⟨g1, e1, _, _, _, a2, _⟩ := HR2.at_ (k := 1) rfl
    obtain ⟨g2, e2, _, _, a1, _, _⟩ := HR2.at_ (k := 2) rfl
    obtain ⟨g3, e3, _, _, _, _, a3⟩ := HR2.at_ (k := 3) rfl
    obtain rfl : g = g1 := by injection e1 with e1; injection e1
    obtain rfl : g = g2 := by injection e2 with e2; injection e2
    obtain rfl : g = g3 := by injection e3 with e3; injection e3
    have b0 : w2.cell? ⟨g, 0, none⟩ = some (.int .i64 1) := a0
    have b1 : w2.cell? ⟨g, 6, none⟩ = some (.int .i64 31) := a2
    have b2 : w2.cell? ⟨g, 9, none⟩ = some (.string ⟨#[59]⟩) := a1
    have b3 : w2.cell? ⟨g, 15, none⟩ = some (.int .i64 8) := a3
    have hs : ((strB [34, 97, 92, 34, 92, 114, 34]).toList == [34, 97, 92, 34, 92, 114, 34]) = true := by rw [strB_toList]; rfl
    clear a0 a1 a2 a3 e1 e2 e3 hb2 HR2 HR
    go_wp2
    go_ret
    exact ⟨rfl, HB2.out⟩
end Go.Proofs.YtgokejoieafgiaaDoor
