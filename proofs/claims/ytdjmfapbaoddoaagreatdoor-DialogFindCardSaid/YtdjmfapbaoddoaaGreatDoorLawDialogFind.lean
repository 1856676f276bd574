/-
  'lifelinelaw17.DialogFind' answers true for every input of the row, and leaves its arguments as they were.
  Conditions: the package-level variables that the row lists lie as the program's own text lays them (the card ties them to it; what is pinned is a constant of the library's).
-/
import Derived.Test.YtdjmfapbaoddoaaGreatDoorRows
import Derived.Test.YtdjmfapbaoddoaaGreatDoorDialogAwake
import Derived.Test.YtdjmfapbaoddoaaGreatDoorFrame
import Derived.Test.YtdjmfapbaoddoaaGreatDoorFrameNum
import Derived.Test.YtdjmfapbaoddoaaGreatDoorFrameEight
import Derived.Test.YtdjmfapbaoddoaaGreatDoorCards
import Derived.Test.YtdjmfapbaoddoaaGreatDoorDialogLaw
import Derived.Test.YtdjmfapbaoddoaaGreatDoorDialogAct
import Derived.Test.YtdjmfapbaoddoaaGreatDoorFrameDact
import Derived.Lib.QuietBelow
import Derived.Deep.DeepCutAuto
import Derived.OwnWalk
import Derived.WalkKit
import Derived.ProofKit
import Derived.OpenShut
import Derived.ShutString
import Derived.ChangeOld
import Derived.Below
namespace Go.Proofs.YtdjmfapbaoddoaaGreatDoor.dialogFind
open Go.ChangeShapes Go.WideShapes Go.ChangeAt Go.RowKit
open Go.ChangeMaps (open_string shut_string)
set_option linter.unusedVariables false

theorem own : ownKnob Tryz.prog.godebug = none := by kernel_rfl
theorem laidOut : laidOutB Tryz.prog = true := by kernel_rfl

theorem blk_one {w : World} {i : Nat} {t t' : TypeId} {cs cs' : Array Value} (h : Blk w i t cs) (h' : Blk w i t' cs') : t = t' := by
  unfold Blk at h h'
  rw [h] at h'
  injection h' with h'
  injection h'
theorem cell_heap {w w' : World} {p : Addr} (h : w'.heap[p.block]? = w.heap[p.block]?) : w'.cell? p = w.cell? p := by
  unfold World.cell?
  rw [h]
theorem own_frozen {w : World} {base n c g : Nat} {ss : List Sp} (h : OwnSt w base (.slice (some ⟨g, 0, none⟩) n c) n ss) (j : Nat) : w.frozen? ⟨g, j, none⟩ = false := by
  obtain ⟨zs, _, h1, _⟩ := h
  exact World.ownsRow.frozenAt h1 j
theorem own_arms {w : World} {base n c g k : Nat} {ss : List Sp} {x : Sp} {zs : List (Sp × Value)} {P : Option Addr} {m cc : Nat} (h1 : w.ownsRow base 36 7 (.slice (some ⟨g, 0, none⟩) n c) n (zs.flatMap fun z => stL z.1 z.2)) (h2 : ∀ z ∈ zs, ∃ m, OwnA w base z.2 m z.1.arms) (e : zs.map Prod.fst = ss) (hx : ss[k]? = some x)
    (hc : ∀ j z, (stL x (.slice P m cc))[j]? = some z → w.cell? ((⟨g, 0, none⟩ : Addr).add (k * 7 + j)) = some z) : ∃ mm, OwnA w base (.slice P m cc) mm x.arms := by
  subst e
  rw [List.getElem?_map] at hx
  obtain ⟨z, hz, rfl⟩ := Option.map_eq_some_iff.1 hx
  have hlen : zs.length = n := by
    have := h1.1
    rw [flat_len _ 7 (fun _ => rfl)] at this
    omega
  have hkn : k < n := by have := (List.getElem?_eq_some_iff.1 hz).1; omega
  have h3 := hc 3 _ rfl
  rw [addr0, World.ownsRow.cellAt h1 (k * 7 + 3) (by omega), flat_get (fun z : Sp × Value => stL z.1 z.2) 7 (fun _ => rfl) zs k z 3 hz (by omega)] at h3
  have h4 : z.2 = .slice P m cc := Option.some.inj h3
  rw [← h4]
  exact h2 z (List.mem_of_getElem? hz)
/-- A label is written into a row of steps of the call's own. -/
theorem sts_put {w : World} {base n c g idx : Nat} {ss : List Sp} {x : Sp} {l : List UInt8} (h : OwnSt w base (.slice (some ⟨g, 0, none⟩) n c) n ss) (hx : ss[idx]? = some x) :
    StS (w.setCell ⟨g, idx * 7, none⟩ (.string (strB l))) (some ⟨g, 0, none⟩) n (ss.set idx { x with label := l }) := by
  have hS := h.sts
  obtain ⟨zs, e, h1, h2⟩ := h
  obtain ⟨cur, hb⟩ := own_obj h1 (i := g) rfl
  have hold : ∀ k y P m cc j z, (∀ j z, (stL y (.slice P m cc))[j]? = some z → w.cell? ((⟨g, 0, none⟩ : Addr).add (k * 7 + j)) = some z) → (stL y (.slice P m cc))[j]? = some z → cur[k * 7 + j]? = some z := fun k y P m cc j z hc hz => by
    have := hc j z hz
    rw [addr0, hb.cell] at this
    exact this
  refine ⟨by rw [List.length_set]; exact hS.len, hS.2.1, fun k y hk => ?_⟩
  have har : ∀ (P : Option Addr) (m : Nat) (rs : List Ar) (cc : Nat), ArS w P m rs → (∃ mm, OwnA w base (.slice P m cc) mm rs) → ArS (w.setCell ⟨g, idx * 7, none⟩ (.string (strB l))) P m rs := fun P m rs cc ha ⟨mm, ho⟩ => by
    refine ⟨ha.1, ha.2.1, fun k a hk => ?_⟩
    obtain ⟨ad, e1, hl, hc⟩ := ha.2.2 k a hk
    have hne : ad.block ≠ g := fun e2 => by
      rcases ho.2 with ⟨e3, _⟩ | ⟨g', cap, cur', e3, _, hgg, _⟩
      · rw [e1] at e3; injection e3 with e3; cases e3
      · rw [e1] at e3
        injection e3 with e3
        injection e3 with e3
        rw [e3] at e2
        have := blk_one hb (by rw [← e2]; exact hgg)
        exact absurd this (by decide)
    have hh : ∀ p : Addr, p.block = ad.block → (w.setCell ⟨g, idx * 7, none⟩ (.string (strB l))).heap[p.block]? = w.heap[p.block]? := fun p hp => Below.heap_setCell w _ _ _ (fun e3 => hne (by rw [hp] at e3; exact e3))
    refine ⟨ad, e1, ?_, fun j z hz => ?_⟩
    · have := hh ad rfl
      rcases Nat.lt_or_ge ad.block (w.setCell ⟨g, idx * 7, none⟩ (.string (strB l))).heap.size with h | h
      · exact h
      · rw [Array.getElem?_eq_none h, Array.getElem?_eq_getElem hl] at this; cases this
    · rw [← hc j z hz]
      exact cell_heap (hh _ (by rw [ad_block]))
  by_cases hki : k = idx
  · subst hki
    have hlt : k < ss.length := (List.getElem?_eq_some_iff.1 hx).1
    rw [List.getElem?_set_self hlt] at hk
    obtain rfl := Option.some.inj hk
    obtain ⟨ad, P, m, cc, e1, hl, hc, ha, hm⟩ := hS.2.2 k x hx
    obtain rfl := (Option.some.inj e1).symm
    have ho := own_arms h1 h2 e hx hc
    refine ⟨_, P, m, cc, rfl, (hb.put _ _).lt, fun j z hz => ?_, har P m x.arms cc ha ho, hm⟩
    have hj : j < 7 := (List.getElem?_eq_some_iff.1 hz).1
    rw [addr0, (hb.put (k * 7) (.string (strB l))).cell]
    by_cases hj0 : j = 0
    · subst hj0
      have hin : k * 7 < cur.size := by
        have := hold k x P m cc 0 _ hc rfl
        exact (Array.getElem?_eq_some_iff.1 this).1
      obtain rfl := Option.some.inj hz
      simp [hin]
    · rw [Array.getElem?_setIfInBounds_ne (by omega)]
      refine hold k x P m cc j z hc ?_
      rw [← hz]
      cases j with
      | zero => omega
      | succ j => rfl
  · rw [List.getElem?_set_ne (by omega)] at hk
    obtain ⟨ad, P, m, cc, e1, hl, hc, ha, hm⟩ := hS.2.2 k y hk
    obtain rfl := (Option.some.inj e1).symm
    have ho := own_arms h1 h2 e hk hc
    refine ⟨_, P, m, cc, rfl, (hb.put _ _).lt, fun j z hz => ?_, har P m y.arms cc ha ho, hm⟩
    have hj : j < 7 := (List.getElem?_eq_some_iff.1 hz).1
    rw [addr0, (hb.put (idx * 7) (.string (strB l))).cell, Array.getElem?_setIfInBounds_ne (by omega)]
    exact hold k y P m cc j z hc hz
def fL (l : List UInt8) : List (List UInt8) := [l, [115, 97], [115, 99], []]
theorem fl_at (l : List UInt8) {j : Nat} (hj : j < 4) : ∃ y, (fL l)[j]? = some y ∧ ∀ (w : World) (g : Nat), Blk w g 9 #[.string (strB l), .string ⟨#[115, 97]⟩, .string ⟨#[115, 99]⟩, .string ⟨#[]⟩] → w.cell? ⟨g, j, none⟩ = some (.string (strB y)) := by
  rcases (by omega : j = 0 ∨ j = 1 ∨ j = 2 ∨ j = 3) with rfl | rfl | rfl | rfl
  all_goals exact ⟨_, rfl, fun w g hb => by rw [Blk.cell hb]; rfl⟩
set_option maxRecDepth 100000 in
set_option maxHeartbeats 8000000 in
theorem walkL (A : Option Addr) (n c : Nat) (ds : List Dc) (l : List UInt8) (k : Nat) (hnc : n ≤ c) (hc63 : c ≤ 9223372036854775807) (hk : k ≤ 255) (w : World) (hT : NumT w) (hR : ErrT w) (hS : DctS w A n ds) :
    Calls Tryz.prog 6 #[.slice A n c, .string (strB l), .int .u8 (k : Int)] w fun e w' => e = .returned (.bool true) ∧ Below w.heap.size w w' := by
  have HA := keepHid (awake_any w hT.errs)
  have HS := keepHid hS
  clear hT hR hS
  have HSTP := keepHid (fun w' h => steps_any ds A n c hnc hc63 w' h)
  go_enter Tryz.func6, Tryz.ntmps6
  go_wp2_with fail
  refine HA.out.mono ?_
  rintro e w1 ⟨rfl, hb1⟩
  have HB1 := keepHid hb1
  have HW1 : Hid (w.heap.size ≤ w1.heap.size) := keepHid hb1.size
  have HS1 := keepHid (HS.out.below hb1)
  clear hb1 HA HS
  go_wp2_with fail
  refine (HSTP.out _ HS1.out).mono ?_
  rintro e w2 ⟨⟨B, m, cb, rfl, ho2⟩, hb2⟩
  have HO2 := keepHid ho2
  have HB2 := keepHid (HB1.out.trans (hb2.mono HB1.out.size))
  generalize stepsN ds = ss at *
  clear ho2 hb2 HSTP HS1 HB1
  go_upto_if 16 with fail
  go_cut [] (fun wx => ∃ ss', Hid (StS wx B m ss') ∧ Hid (Below w.heap.size w wx))
  case first =>
    by_cases hm : 1 < m
    · have hmI : (1 : Int) < (m : Int) := by omega
      obtain ⟨B', c', e0, hc1, hc2, hA⟩ := HO2.out.form
      obtain ⟨rfl, rfl⟩ : B = B' ∧ cb = c' := by injection e0 with e1 e2 e3; exact ⟨e1, e3⟩
      obtain ⟨g, rfl, hbg⟩ : ∃ g, B = some ⟨g, 0, none⟩ ∧ w1.heap.size ≤ g := by
        rcases hA with ⟨_, h⟩ | ⟨g, h, h2, _⟩
        · omega
        · exact ⟨g, h, h2⟩
      have hlen := HO2.out.len
      obtain ⟨i, hi⟩ : ∃ i, k % m = i := ⟨_, rfl⟩
      have him : i < m := by rw [← hi]; exact Nat.mod_lt _ (by omega)
      obtain ⟨x0, hx0⟩ : ∃ x, ss[0]? = some x := ⟨_, List.getElem?_eq_getElem (by omega)⟩
      obtain ⟨xi, hxi⟩ : ∃ x, ss[i]? = some x := ⟨_, List.getElem?_eq_getElem (by omega)⟩
      obtain ⟨ad, _, _, _, ha, hgl, u0, _, _, _, _, _, _, _, _⟩ := HO2.out.sts.at_ hx0
      obtain rfl := (Option.some.inj ha).symm
      obtain ⟨ad, _, _, _, hb, _, v0, _, _, _, _, _, _, _, _⟩ := HO2.out.sts.at_ hxi
      obtain rfl := (Option.some.inj hb).symm
      have t0 : w2.cell? ⟨g, 0, none⟩ = some (.string (strB x0.label)) := by simpa [addr0] using u0
      have t1 : w2.cell? ⟨g, i * 7, none⟩ = some (.string (strB xi.label)) := by rw [addr0] at v0; exact v0
      have t2 : w2.frozen? ⟨g, i * 7, none⟩ = false := own_frozen HO2.out (i * 7)
      have HP := keepHid (sts_put (l := x0.label) HO2.out hxi)
      have HBP : Hid (Below w.heap.size w (w2.setCell ⟨g, i * 7, none⟩ (.string (strB x0.label)))) := keepHid (HB2.out.setCell (p := ⟨g, i * 7, none⟩) (by show w.heap.size ≤ g; have := HW1.out; omega) _)
      have r1 : (k : Int) % (m : Int) = (i : Int) := by rw [← hi]; rfl
      have r2 : Int.tmod (k : Int) (m : Int) = (i : Int) := by rw [Int.tmod_eq_emod_of_nonneg (by omega)]; exact r1
      have r3 : IntKind.i64.wrap (i : Int) = (i : Int) := by rw [IntKind.wrap_i64]; omega
      have r4 : IntKind.i64.wrap (k : Int) = (k : Int) := by rw [IntKind.wrap_i64]; omega
      have r5 : ¬ (m : Int) = 0 := by omega
      have r6 : ¬ m = 0 := by omega
      have r7 : ((m : Int) == 0) = false := by simp; omega
      have r8 : (i : Int) < (m : Int) := by omega
      have r9 : (0 : Int) < (m : Int) := by omega
      have r10 : 0 < m := by omega
      clear e0 hc1 hA hlen hi hx0 hxi ha hb u0 v0
      generalize strB x0.label = L0 at *
      generalize strB xi.label = L1 at *
      go_upto_region 5 with fail
      go_region
      go_wp2_with fail
      go_meet
      case rel => exact ⟨_, keepHid (HP.out.below (below_drewN (Below.refl _ _) 1) (Nat.le_refl _)), keepHid (HBP.out.drew)⟩
    · have hmI : ¬ (1 : Int) < (m : Int) := by omega
      go_wp2_with fail
      go_meet
      case rel => exact ⟨ss, keepHid HO2.out.sts, HB2⟩
  case rest =>
    obtain ⟨ss', HSS, HBX⟩ := hcut
    clear HO2 HB2
    obtain ⟨w4, hw4⟩ : ∃ z, wc.alloc (.cells #[.string (strB l), .string ⟨#[115, 97]⟩, .string ⟨#[115, 99]⟩, .string ⟨#[]⟩] 9) = z := ⟨_, rfl⟩
    have hb4 : Below wc.heap.size wc w4 := by rw [← hw4]; exact (Below.refl _ _).alloc (Nat.le_refl _) _
    have HK4 : Hid (Blk w4 wc.heap.size 9 #[.string (strB l), .string ⟨#[115, 97]⟩, .string ⟨#[115, 99]⟩, .string ⟨#[]⟩]) := keepHid (by rw [← hw4]; exact Blk.new wc _ _)
    have HB4 := keepHid (HBX.out.trans (hb4.mono HBX.out.size))
    have HS4 := keepHid (HSS.out.below hb4 (Nat.le_refl _))
    have HFL := keepHid (fun j hj => fl_at l (j := j) hj)
    clear hb4 HSS HBX
    generalize hXL : strB l = X at *
    clear hXL
    go_wp2_with fail
    try rw [hw4]
    clear hw4
    go_loopw [32] (fun iv wr => ∃ j : Nat, iv = .int .i64 (j : Int) ∧ j ≤ 4 ∧ Hid (Below w4.heap.size w4 wr)) (fun iv _ => 4 - (intOf iv).toNat)
    case atStart => exact ⟨0, rfl, Nat.zero_le _, keepHid (Below.refl _ _)⟩
    case round =>
      obtain ⟨j, rfl, hj, HBW⟩ := hrel
      generalize wr = wq at *
      by_cases hj4 : j < 4
      · obtain ⟨y, _, hy⟩ := HFL.out j hj4
        have hcell : wq.cell? ⟨wc.heap.size, j, none⟩ = some (.string (strB y)) := hy wq _ (HK4.out.below HBW.out HK4.out.lt)
        have hs := HS4.out.below HBW.out (Nat.le_refl _)
        have HF1 := keepHid (fun w' h => dfind_any ss' y B m cb w' h)
        have HF2 := keepHid (fun w' h => lfind_any ss' y B m cb w' h)
        have HSQ := keepHid hs
        have hjI : (j : Int) < 4 := by omega
        obtain ⟨F, hF⟩ : ∃ F, findS ss' y = F := ⟨_, rfl⟩
        rw [hF] at HF1 HF2
        have hne : (F != F) = false := by simp
        clear hy hs hF
        generalize strB y = Y at *
        go_wp2_with fail
        refine (HF1.out _ HSQ.out).mono ?_
        rintro e w5 ⟨rfl, hb5⟩
        have HS5 := keepHid (HSQ.out.below hb5 (Nat.le_refl _))
        have HB5 := keepHid (HBW.out.trans (hb5.mono HBW.out.size))
        clear hb5 hcell
        go_wp2_with fail
        refine (HF2.out _ HS5.out).mono ?_
        rintro e w6 ⟨rfl, hb6⟩
        have HB6 := keepHid (HB5.out.trans (hb6.mono HB5.out.size))
        clear hb6
        go_wp2
        go_roundw
        case rel => exact ⟨j + 1, by go_num, by omega, HB6⟩
        case measure => simp [intOf]; omega
      · obtain rfl : j = 4 := by omega
        go_wp2
        go_ret
        exact ⟨rfl, HB4.out.trans (HBW.out.mono HB4.out.size)⟩
theorem walk (a0 : Option Addr) (n0 c0 : Nat) (d0s : List Dc) (x1 : ByteArray) (x2 : Int) (w : World) (hT : NumT w) (hR : ErrT w) (h0 : DctS w a0 n0 d0s) (l0 : n0 ≤ c0) (s0 : c0 ≤ 9223372036854775807) (h1 : x1.size ≤ 140737488351232) (h2 : 0 ≤ x2 ∧ x2 ≤ 255) :
    Calls Tryz.prog 6 #[.slice a0 n0 c0, .string x1, .int .u8 x2] w fun e w' => e = .returned (.bool true) ∧ Below w.heap.size w w' := by
  obtain ⟨k, rfl⟩ : ∃ k : Nat, x2 = (k : Int) := ⟨x2.toNat, by omega⟩
  exact walkL a0 n0 c0 d0s x1.data.toList k l0 s0 (by omega) w hT hR h0

set_option maxRecDepth 100000 in
theorem lifted (os : Os) (started : os.Started) (H : Type) (enc : TypeId × Value → H) :
    ReturnsInHanded {} Tryz.checked os 6 .any (fun w args => (Rows.dialogFindSpec.pre enc Tryz.prog Tryz.f6 [] false w args ∧ laidMetH Tryz.prog laid8 w) ∧ sizedMet enc Tryz.prog Tryz.f6 (OpenSpec.ofChange Rows.dialogFindSpec) false w args) (Rows.dialogFindSpec.post enc Tryz.prog Tryz.f6 false true false false) := by
  refine returnsInHanded_of_change_and (C := Tryz.checked) (X := fun w _ => laidMetH Tryz.prog laid8 w) (fun _ _ _ hh h => h.of_heap hh) own started (by kernel_rfl) Tryz.func6
    (ChangeSpec.witness_shaped (enc := enc) (C := Tryz.checked) (os := os) (X := fun w _ => laidMetH Tryz.prog laid8 w) false (worldF os) #[.slice none 0 0, .string ⟨#[]⟩, .int .u8 0] 8 (worldF_os os) (World.shaped_of_RefB (by kernel_rfl) (by kernel_rfl)) (by kernel_rfl) (by kernel_rfl) (by kernel_rfl) (door8 os _)) ?_
  intro W base args ds gs before hval0 hW hcnd hsz0 hL _
  have hsz : (DataW.weightsEach Tryz.prog (Tryz.f6.params.toList ++ Rows.dialogFindSpec.plain.varTypes Tryz.prog) (ds ++ gs)).all (· ≤ reachBytes) = true := hsz0
  clear hsz0
  have hval : ∀ (j : Nat) t v, Tryz.f6.params[j]? = some t → args[j]? = some v → Value.okWide Tryz.prog W .any base t v := hval0
  have hW' := hW
  obtain ⟨p, q, hA0, hV, rfl, hfz, hnd⟩ := hW
  have hA : DataW.TrodAll enc Tryz.prog W 0 (fun _ => true) true Tryz.f6.params.toList args.toList ds p := hA0
  rw [Tryz.params6] at hA hval hsz
  obtain ⟨v0, vs0, d0, ds0, p0, q0, hargs, rfl, rfl, h0, r0⟩ := trodAll_cons hA
  obtain ⟨v1, vs1, d1, ds1, p1, q1, rfl, rfl, rfl, h1, r1⟩ := trodAll_cons r0
  obtain ⟨v2, vs2, d2, ds2, p2, q2, rfl, rfl, rfl, h2, r2⟩ := trodAll_cons r1
  obtain ⟨rfl, rfl, rfl⟩ := trodAll_nil r2
  obtain rfl : args = #[v0, v1, v2] := by cases args; simp_all
  obtain ⟨rfl, rfl⟩ := trodVars_none hV
  have k0 := h0
  have lt0 : ∀ x ∈ p0, x.block < W.heap.size := by obtain ⟨m, hm⟩ := k0; exact DataW.trod_lt m _ _ _ hm
  have k1 := h1
  have lt1 : ∀ x ∈ p1, x.block < W.heap.size := by obtain ⟨m, hm⟩ := k1; exact DataW.trod_lt m _ _ _ hm
  have k2 := h2
  have lt2 : ∀ x ∈ p2, x.block < W.heap.size := by obtain ⟨m, hm⟩ := k2; exact DataW.trod_lt m _ _ _ hm
  obtain ⟨a0, n0, c0, d0s, rfl, w0, l0, s0⟩ := open_dact Tryz.underlying22 Tryz.underlying54 ⟨rfl, rfl⟩ ⟨rfl, rfl⟩ ⟨rfl, rfl⟩ ⟨rfl, rfl⟩ ⟨rfl, rfl⟩ ⟨rfl, rfl⟩ Tryz.underlying4 Tryz.underlying5 Tryz.underlying52 Tryz.underlying55 (by kernel_rfl) (by kernel_rfl) (by kernel_rfl) (by kernel_rfl) (by kernel_rfl) (hval 0 22 v0 rfl rfl) h0
  obtain ⟨x1, rfl, rfl, rfl, _⟩ := open_string Tryz.underlying9 (hval 1 9 v1 rfl rfl) h1
  have w1 : x1.size ≤ 140737488351232 := by have := sized_string hsz (j := 1) (t := 9) rfl rfl; simpa [reachBytes] using this
  obtain ⟨x2, rfl, rfl, rfl, w2⟩ := open_int Tryz.underlying5 (hval 2 5 v2 rfl rfl) h2
  clear hA0 hval0
  refine (walk a0 n0 c0 d0s x1 x2 W (num_of (laid8_parts hL).1) (errT8 hL) w0 l0 s0 w1 (wf_u8 w2)).mono fun e W' ⟨he, bel⟩ => ?_
  subst he
  exact ⟨_, rfl, _, _, _, [], _, [], hW', trodAll_mk1 (shut_bool Tryz.underlying4 _), (trodAll_cons_mk (Below.trod laidOut (by kernel_rfl) (of_decide_eq_true (by kernel_rfl)) k0 bel lt0) (trodAll_cons_mk (Below.trod laidOut (by kernel_rfl) (of_decide_eq_true (by kernel_rfl)) k1 bel lt1) (trodAll_cons_mk (Below.trod laidOut (by kernel_rfl) (of_decide_eq_true (by kernel_rfl)) k2 bel lt2) trodAll_mk0))), rfl, bel.frame _, fun h => by cases h⟩

theorem over : Rows.dialogFindRow.holds Tryz.pinned (OpenSpec.ofChange Rows.dialogFindSpec) :=
  OpenClaim.holds_of_wide 6 Tryz.f6 rfl rfl rfl rfl rfl rfl rfl ⟨rfl, rfl, rfl, rfl, rfl⟩ rfl rfl rfl rfl rfl (by kernel_rfl) Tryz.func6 (by kernel_rfl)
    (of_decide_eq_true (by kernel_rfl)) (by unfold Func.isWrapper; first | (rw [if_pos (by decide +kernel)]; kernel_rfl) | (rw [if_neg (by decide +kernel)]; exact ⟨rfl, rfl⟩))
    (fun os started H enc _ => lifted os started H enc)

/-- The card: what the row lists is tied to the program's own text. -/
theorem proved : Rows.DialogFindCardSaid :=
  Claim7.holds_tied_plain_at .later [] [.data, .data, .data, .data, .handle, .sentinel, .sentinel, .pinned] true Rows.dialogFindCard.stood.harness true
    over (fun _ h => by cases h) (by kernel_rfl) (fun _ h => by cases h) dialogFind_row_tie rfl ⟨rfl, rfl⟩ (by kernel_rfl) rfl
    (fun f fn hf hfn => by
      obtain rfl : f = 6 := Option.some.inj ((show Tryz.prog.funcNamed "lifeline/lifelinelaw17.DialogFind" = some 6 by kernel_rfl).symm.trans hf) |>.symm
      obtain rfl : fn = Tryz.f6 := (Option.some.inj (Tryz.func6.symm.trans hfn)).symm
      exact ⟨by kernel_rfl, fun j t ht => by
        rw [Tryz.params6] at ht
        have hm : t ∈ [22, 9, 5] := by simpa using Array.mem_of_getElem? ht
        have hall : ([22, 9, 5].all fun u => !Tryz.prog.wantsStandIn u) = true := by kernel_rfl
        exact (show Tryz.prog.wantsStandIn t = false by simpa using List.all_eq_true.1 hall t hm)⟩)
    (by kernel_rfl)
end Go.Proofs.YtdjmfapbaoddoaaGreatDoor.dialogFind
