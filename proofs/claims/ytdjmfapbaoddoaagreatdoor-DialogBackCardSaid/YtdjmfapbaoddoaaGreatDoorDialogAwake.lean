/-
  The law's own examples: what package dialog makes of them.
-/
import Derived.Test.YtdjmfapbaoddoaaGreatDoorDialogCheck
import Derived.Test.YtdjmfapbaoddoaaGreatDoorDialogStep
import Derived.Test.YtdjmfapbaoddoaaGreatDoorDialogPlain
import Derived.Deep.DeepCutAuto
import Derived.Deep.RegionWith
namespace Go.Proofs.YtdjmfapbaoddoaaGreatDoor
open Go.RowKit
set_option linter.unusedVariables false

def awA : Sp := ⟨[97], 0, [13], [], 0, [], 0⟩
def awB : Sp := ⟨[], 1, [], [⟨[61, 62, 32], [98]⟩], 5, [97], 0⟩
def awC : Sp := ⟨[98], 4, [], [], 0, [], 0⟩
def awS : List Sp := [awA, awB, awC]
def awM : List UInt8 := [97, 58, 32, 115, 101, 110, 100, 32, 34, 92, 114, 34, 59, 32, 101, 120, 112, 101, 99, 116, 32, 34, 61, 62, 32, 34, 32, 103, 111, 32, 98, 32, 97, 102, 116, 101, 114, 32, 53, 32, 103, 111, 32, 97, 59, 32, 98, 58, 32, 100, 111, 110, 101, 59]
theorem isw1 {c : UInt8} (h : letL.contains c = true) : IsW [c] := ⟨c, [], rfl, h, fun b hb => by cases hb⟩
theorem awA_tell : TellS awA := ⟨.inr (isw1 (by decide)), by decide, ⟨[92, 114], by decide⟩, rfl, rfl, rfl⟩
theorem awB_tell : TellS awB := ⟨.inl rfl, by decide, rfl, ⟨by decide, fun a ha => by
  obtain rfl : a = ⟨[61, 62, 32], [98]⟩ := by simpa [awB] using ha
  exact ⟨⟨[61, 62, 32], by decide⟩, isw1 (by decide)⟩⟩, by decide, isw1 (by decide)⟩
theorem awC_tell : TellS awC := ⟨.inr (isw1 (by decide)), by decide, rfl, rfl, rfl, rfl⟩
theorem aw_five : numL 10 5 = [53] := by
  show digL 10 5 = _
  rw [digL_lt (by omega)]; rfl
theorem awB_body : bodyS awB = [101, 120, 112, 101, 99, 116, 32, 34, 61, 62, 32, 34, 32, 103, 111, 32, 98, 32, 97, 102, 116, 101, 114, 32, 53, 32, 103, 111, 32, 97, 59] := by
  have e : bodyS awB = dExpect ++ ([32] ++ armsL [⟨[61, 62, 32], [98]⟩] ++ cAfter ++ numL 10 5 ++ cGo ++ [97] ++ [59]) := rfl
  rw [e, aw_five]; rfl
theorem aw_read : ∃ xs, parseD awM = .ok xs ∧ xs.map noPos = awS.map noPos := by
  refine read_cut (ss := awS) (fun x hx => ?_) ?_
  · have : x = awA ∨ x = awB ∨ x = awC := by simpa [awS] using hx
    rcases this with rfl | rfl | rfl
    · exact awA_tell
    · exact awB_tell
    · exact awC_tell
  · have h := (cut_bodyS awA_tell).app (cut_sp.app ((cut_bodyS awB_tell).app (cut_sp.app (cut_bodyS awC_tell) (fun h => by cases h)) (fun h => by cases h)) (fun h => by cases h)) (fun h => by cases h)
    have e : bodyS awA ++ ([32] ++ (bodyS awB ++ ([32] ++ bodyS awC))) = awM := by rw [awB_body]; rfl
    rw [e] at h
    have e2 : skS awA ++ ([] ++ (skS awB ++ ([] ++ skS awC))) = awS.flatMap skS := by simp [awS]
    rw [e2] at h
    exact h
theorem of_nopos {x y : Sp} (h : noPos x = noPos y) : x = { y with pos := x.pos } := by
  obtain ⟨a, b, c, d, e, f, g⟩ := x
  obtain ⟨a', b', c', d', e', f', g'⟩ := y
  unfold noPos at h
  injection h with h1 h2 h3 h4 h5 h6
  subst h1 h2 h3 h4 h5 h6
  rfl
theorem aw_three {xs : List Sp} (h : xs.map noPos = awS.map noPos) : ∃ p q r : Int, xs = [{ awA with pos := p }, { awB with pos := q }, { awC with pos := r }] := by
  have hl : xs.length = 3 := by have := congrArg List.length h; simpa [awS] using this
  obtain ⟨a, b, c, rfl⟩ : ∃ a b c, xs = [a, b, c] := by
    cases xs with
    | nil => cases hl
    | cons a xs => cases xs with
      | nil => cases hl
      | cons b xs => cases xs with
        | nil => cases hl
        | cons c xs => cases xs with
          | nil => exact ⟨a, b, c, rfl⟩
          | cons d xs => simp at hl
  have h' : [noPos a, noPos b, noPos c] = [noPos awA, noPos awB, noPos awC] := h
  injection h' with h1 h'
  injection h' with h2 h'
  injection h' with h3 _
  exact ⟨a.pos, b.pos, c.pos, by rw [← of_nopos h1, ← of_nopos h2, ← of_nopos h3]⟩
theorem aw_pat : ∃ qs, of9 [[61, 62, 32]] = .inl qs := by
  have hp : parseF [61, 62, 32] = ((parseF [61, 62, 32]).1, [61, 62, 32].length) := by decide +kernel
  obtain ⟨r, hr⟩ : ∃ r, (parseF [61, 62, 32]).1 = some r := Option.isSome_iff_exists.1 (by decide +kernel)
  rw [hr] at hp
  have he : (((parseF [61, 62, 32]).1).map emp) = some false := by decide +kernel
  rw [hr] at he
  have he' : emp r = false := by simpa using he
  exact ⟨[] ++ [r], of9_snoc [] [] [61, 62, 32] r rfl (pat9_of (by decide) hp he')⟩
theorem aw_ok (p q r : Int) : ∀ i x, ([{ awA with pos := p }, { awB with pos := q }, { awC with pos := r }] : List Sp)[i]? = some x → ChkOk [{ awA with pos := p }, { awB with pos := q }, { awC with pos := r }] i x := by
  intro i x hx
  have hi : i < 3 := (List.getElem?_eq_some_iff.1 hx).1
  have f97 : findS ([{ awA with pos := p }, { awB with pos := q }, { awC with pos := r }] : List Sp) [97] = 0 := by
    show (if ([97] : List UInt8) = [] then (-1 : Int) else findG [[97], [], [98]] [97] 0) = 0
    decide
  have f98 : findS ([{ awA with pos := p }, { awB with pos := q }, { awC with pos := r }] : List Sp) [98] = 2 := by
    show (if ([98] : List UInt8) = [] then (-1 : Int) else findG [[97], [], [98]] [98] 0) = 2
    decide
  rcases (by omega : i = 0 ∨ i = 1 ∨ i = 2) with rfl | rfl | rfl
  · obtain rfl := Option.some.inj hx
    refine ⟨?_, (fun h => absurd (show (0 : Int) = 1 from h) (by decide)), Nat.zero_le _, (fun t ht => by cases (show t ∈ ([] : List (List UInt8)) from ht))⟩
    show (if ([97] : List UInt8) = [] then (-1 : Int) else findG [] [97] 0) < 0
    decide
  · obtain rfl := Option.some.inj hx
    refine ⟨(show (if ([] : List UInt8) = [] then (-1 : Int) else findG [[97]] [] 0) < 0 by decide), fun _ => ⟨by show 1 ≤ 1; omega, by show 1 ≤ 8; omega, aw_pat⟩, by show 1 ≤ 1000000; omega, fun t ht => ?_⟩
    have ht' : t ∈ ([[97], [98]] : List (List UInt8)) := ht
    rcases List.mem_cons.1 ht' with rfl | ht'
    · rw [f97]; decide
    · obtain rfl : t = [98] := by simpa using ht'
      rw [f98]; decide
  · obtain rfl := Option.some.inj hx
    refine ⟨?_, (fun h => absurd (show (4 : Int) = 1 from h) (by decide)), Nat.zero_le _, (fun t ht => by cases (show t ∈ ([] : List (List UInt8)) from ht))⟩
    show (if ([98] : List UInt8) = [] then (-1 : Int) else findG [[97], []] [98] 0) < 0
    decide
set_option maxRecDepth 100000 in
set_option maxHeartbeats 4000000 in
theorem awake_any (w : World) (hE : Errs w) : Calls Tryz.prog 8 #[] w fun e w' => e = .returned (.bool true) ∧ Below w.heap.size w w' := by
  have HC := keepHid (show Calls Tryz.prog 12 #[.string ⟨#[97, 58, 32, 115, 101, 110, 100, 32, 34, 92, 114, 34, 59, 32, 101, 120, 112, 101, 99, 116, 32, 34, 61, 62, 32, 34, 32, 103, 111, 32, 98, 32, 97, 102, 116, 101, 114, 32, 53, 32, 103, 111, 32, 97, 59, 32, 98, 58, 32, 100, 111, 110, 101, 59]⟩] w (DParsePost awM w) from dparse_any awM (by decide) w hE)
  clear hE
  obtain ⟨xs, hr, hn⟩ := aw_read
  obtain ⟨p, q, r, rfl⟩ := aw_three hn
  have HR := keepHid hr
  clear hr hn
  go_enter Tryz.func8, Tryz.ntmps8
  go_wp2_with fail
  refine HC.out.mono ?_
  rintro e w1 ⟨⟨x, hx, rfl⟩ | ⟨ss, A, n, c, hss, rfl, hown⟩, hb1⟩
  · rw [HR.out] at hx; cases hx
  · rw [HR.out] at hss
    injection hss with hss
    subst hss
    have hlen := hown.len
    obtain rfl : n = 3 := by simpa using hlen.symm
    obtain ⟨A', c', e0, hc1, hc2, hA⟩ := hown.form
    obtain ⟨rfl, rfl⟩ : A = A' ∧ c = c' := by injection e0 with e1 e2 e3; exact ⟨e1, e3⟩
    obtain ⟨g, rfl⟩ : ∃ g, A = some ⟨g, 0, none⟩ := by
      rcases hA with ⟨_, h⟩ | ⟨g, h, _⟩
      · omega
      · exact ⟨g, h⟩
    have HB1 := keepHid hb1
    have HS1 := keepHid hown.sts
    have HCK := keepHid (dcheck_any _ (by simp) (by simp) (aw_ok p q r) (some ⟨g, 0, none⟩) 3 c hc1 hc2 w1 HS1.out)
    clear e0 hA hown hb1 hlen HC
    go_wp2_with fail
    refine HCK.out.mono ?_
    rintro e w2 ⟨rfl, hb2⟩
    have HB2 := keepHid (HB1.out.trans (hb2.mono HB1.out.size))
    have hs2 := HS1.out.below hb2 (Nat.le_refl _)
    have HF := keepHid (show Calls Tryz.prog 16 #[.slice (some ⟨g, 0, none⟩) 3 c, .string ⟨#[98]⟩] w2 _ from dfind_any _ [98] (some ⟨g, 0, none⟩) 3 c w2 hs2)
    rw [show findS ([{ awA with pos := p }, { awB with pos := q }, { awC with pos := r }] : List Sp) [98] = 2 by
      show (if ([98] : List UInt8) = [] then (-1 : Int) else findG [[97], [], [98]] [98] 0) = 2
      decide] at HF
    obtain ⟨ad, _, _, _, ha, _, _, _, a2, _, _, _, _, _, _⟩ := hs2.at_ (k := 0) rfl
    obtain rfl := (Option.some.inj ha).symm
    obtain ⟨ad, P, m, cc, hb, _, _, _, _, b3, _, _, _, hAr, _⟩ := hs2.at_ (k := 1) rfl
    obtain rfl := (Option.some.inj hb).symm
    have hm : m = 1 := hAr.len.symm
    subst hm
    obtain ⟨ap, rfl, _, _, d1⟩ := hAr.at_ (k := 0) (a := ⟨[61, 62, 32], [98]⟩) rfl
    have t0 : w2.cell? ⟨g, 2, none⟩ = some (.string ⟨#[13]⟩) := a2
    have t1 : w2.cell? ⟨g, 10, none⟩ = some (.slice (some ap) 1 cc) := b3
    have t2 : w2.cell? ⟨ap.block, ap.off + 1, none⟩ = some (.string ⟨#[98]⟩) := d1
    clear hs2 ha hb a2 b3 d1 hAr HCK HS1 hb2
    go_wp2_with fail
    refine HF.out.mono ?_
    rintro e w3 ⟨rfl, hb3⟩
    have HB3 := keepHid (HB2.out.trans (hb3.mono HB2.out.size))
    clear hb3
    go_wp2
    go_ret
    exact ⟨rfl, HB3.out⟩

theorem neq_ar (a : Ar) (W : World) : (binOp .neq 51 (.agg #[.string (strB a.pat), .string (strB a.dst)]) (.agg #[.string (strB a.pat), .string (strB a.dst)])).run Tryz.prog W = .ok (.bool false) W := by
  rw [run_neq_struct, run_equalIn_agg W 9999 51 _ _ (by kernel_rfl) (by kernel_rfl)]
  go_simp
theorem blk_next (w : World) (o : Obj) (t : TypeId) (cs : Array Value) : Blk ((w.alloc o).alloc (.cells cs t)) (w.heap.size + 1) t cs := by
  have := Blk.new (w.alloc o) t cs
  simpa using this
set_option maxRecDepth 100000 in
set_option maxHeartbeats 8000000 in
theorem lsame_any (la lb : List Sp) (hab : la.map noPos = lb.map noPos) (A B : Option Addr) (n m ca cb : Nat) (w : World) (hA : StS w A n la) (hB : StS w B m lb) :
    Calls Tryz.prog 13 #[.slice A n ca, .slice B m cb] w fun e w' => e = .returned (.bool true) ∧ Below w.heap.size w w' := by
  have hnm : n = m := by
    have := congrArg List.length hab
    rw [List.length_map, List.length_map, hA.len, hB.len] at this
    exact this
  subst hnm
  have hnn : ((n : Int) != (n : Int)) = false := by simp
  have HA := keepHid hA
  have HB := keepHid hB
  have HN := keepHid hA.len
  have HM := keepHid hB.len
  have hn9 : n ≤ 9223372036854775807 := hA.2.1
  have HEQ : Hid (∀ (k : Nat) (x y : Sp), la[k]? = some x → lb[k]? = some y → y = { x with pos := y.pos }) := keepHid (fun k x y hx hy => of_nopos (by
    have h1 : (lb.map noPos)[k]? = some (noPos y) := by rw [List.getElem?_map, hy]; rfl
    have h2 : (la.map noPos)[k]? = some (noPos x) := by rw [List.getElem?_map, hx]; rfl
    rw [hab, h1] at h2
    exact Option.some.inj h2))
  clear hA hB hab
  go_enter Tryz.func13, Tryz.ntmps13
  go_wp2_with fail
  go_loopw [16] (fun kv wr => ∃ k : Nat, kv = .int .i64 (k : Int) ∧ k ≤ n ∧ Hid (Below w.heap.size w wr)) (fun kv _ => n - (intOf kv).toNat)
  case atStart => exact ⟨0, rfl, Nat.zero_le _, keepHid (Below.refl _ _)⟩
  case round =>
    obtain ⟨k, rfl, hk, HBW⟩ := hrel
    generalize wr = wq at *
    by_cases hlt : k < n
    · obtain ⟨x, hx⟩ : ∃ x, la[k]? = some x := ⟨_, List.getElem?_eq_getElem (by rw [HN.out]; exact hlt)⟩
      obtain ⟨y, hy⟩ : ∃ y, lb[k]? = some y := ⟨_, List.getElem?_eq_getElem (by rw [HM.out]; exact hlt)⟩
      obtain ⟨ad, P, pm, pc, rfl, hadl, a0, a1, a2, a3, a4, a5, a6, hAx, hmc⟩ := (HA.out.below HBW.out (Nat.le_refl _)).at_ hx
      obtain ⟨bd, Q, qm, qc, rfl, hbdl, b0, b1, b2, b3, b4, b5, b6, hAy, hnc⟩ := (HB.out.below HBW.out (Nat.le_refl _)).at_ hy
      have hxy := HEQ.out k x y hx hy
      obtain ⟨yp, hyp⟩ : ∃ p, y.pos = p := ⟨_, rfl⟩
      rw [hyp] at hxy
      subst hxy
      dsimp only at b0 b1 b2 b3 b4 b5 b6 hAy
      have hpq : pm = qm := by have h1 := hAx.len; have h2 := hAy.len; omega
      subst hpq
      have hk' : (k : Int) < (n : Int) := by omega
      have HAX := keepHid hAx
      have HAY := keepHid hAy
      have hpm9 : pm ≤ 9223372036854775807 := hAx.2.1
      have HARL := keepHid hAx.len
      clear hx hy hyp hAx hAy hmc hnc
      generalize strB x.label = LB at *
      generalize strB x.text = TX at *
      generalize strB x.dst = DD at *
      have HCS : Hid (∀ w', Below wq.heap.size wq w' → w'.cell? (ad.add (k * 7)) = some (.string LB) ∧ w'.cell? ⟨(ad.add (k * 7)).block, (ad.add (k * 7)).off + 1, none⟩ = some (.int .i64 x.kind) ∧ w'.cell? ⟨(ad.add (k * 7)).block, (ad.add (k * 7)).off + 2, none⟩ = some (.string TX) ∧ w'.cell? ⟨(ad.add (k * 7)).block, (ad.add (k * 7)).off + 3, none⟩ = some (.slice P pm pc) ∧ w'.cell? ⟨(ad.add (k * 7)).block, (ad.add (k * 7)).off + 4, none⟩ = some (.int .i64 x.n) ∧ w'.cell? ⟨(ad.add (k * 7)).block, (ad.add (k * 7)).off + 5, none⟩ = some (.string DD) ∧ w'.cell? ⟨(ad.add (k * 7)).block, (ad.add (k * 7)).off + 6, none⟩ = some (.int .i64 x.pos) ∧ w'.cell? (bd.add (k * 7)) = some (.string LB) ∧ w'.cell? ⟨(bd.add (k * 7)).block, (bd.add (k * 7)).off + 1, none⟩ = some (.int .i64 x.kind) ∧ w'.cell? ⟨(bd.add (k * 7)).block, (bd.add (k * 7)).off + 2, none⟩ = some (.string TX) ∧ w'.cell? ⟨(bd.add (k * 7)).block, (bd.add (k * 7)).off + 3, none⟩ = some (.slice Q pm qc) ∧ w'.cell? ⟨(bd.add (k * 7)).block, (bd.add (k * 7)).off + 4, none⟩ = some (.int .i64 x.n) ∧ w'.cell? ⟨(bd.add (k * 7)).block, (bd.add (k * 7)).off + 5, none⟩ = some (.string DD) ∧ w'.cell? ⟨(bd.add (k * 7)).block, (bd.add (k * 7)).off + 6, none⟩ = some (.int .i64 yp) ∧ Below wq.heap.size wq w') := keepHid (fun w' h => by
        have hc : ∀ p : Addr, p.block < wq.heap.size → w'.cell? p = wq.cell? p := fun p hp => h.cell hp
        have ha : ∀ j : Nat, (⟨(ad.add (k * 7)).block, (ad.add (k * 7)).off + j, none⟩ : Addr).block < wq.heap.size := fun j => by show (ad.add (k * 7)).block < _; rw [ad_block]; exact hadl
        have hb : ∀ j : Nat, (⟨(bd.add (k * 7)).block, (bd.add (k * 7)).off + j, none⟩ : Addr).block < wq.heap.size := fun j => by show (bd.add (k * 7)).block < _; rw [ad_block]; exact hbdl
        exact ⟨(hc _ (by rw [ad_block]; exact hadl)).trans a0, (hc _ (ha 1)).trans a1, (hc _ (ha 2)).trans a2, (hc _ (ha 3)).trans a3, (hc _ (ha 4)).trans a4, (hc _ (ha 5)).trans a5, (hc _ (ha 6)).trans a6, (hc _ (by rw [ad_block]; exact hbdl)).trans b0, (hc _ (hb 1)).trans b1, (hc _ (hb 2)).trans b2, (hc _ (hb 3)).trans b3, (hc _ (hb 4)).trans b4, (hc _ (hb 5)).trans b5, (hc _ (hb 6)).trans b6, h⟩)
      go_upto_region 6 with fail
      go_cut [6, 7] (fun s t wx => ∃ g6 g7, s = .pointer (some ⟨g6, 0, none⟩) ∧ t = .pointer (some ⟨g7, 0, none⟩) ∧ Hid (Blk wx g6 36 #[.string LB, .int .i64 x.kind, .string TX, .slice P pm pc, .int .i64 x.n, .string DD, .int .i64 x.pos]) ∧ Hid (Blk wx g7 36 #[.string LB, .int .i64 x.kind, .string TX, .slice Q pm qc, .int .i64 x.n, .string DD, .int .i64 yp]) ∧ Hid (Below wq.heap.size wq wx))
      case first =>
        go_region_held3 (fun w' => w'.cell? (ad.add (k * 7)) = some (.string LB) ∧ w'.cell? ⟨(ad.add (k * 7)).block, (ad.add (k * 7)).off + 1, none⟩ = some (.int .i64 x.kind) ∧ w'.cell? ⟨(ad.add (k * 7)).block, (ad.add (k * 7)).off + 2, none⟩ = some (.string TX) ∧ w'.cell? ⟨(ad.add (k * 7)).block, (ad.add (k * 7)).off + 3, none⟩ = some (.slice P pm pc) ∧ w'.cell? ⟨(ad.add (k * 7)).block, (ad.add (k * 7)).off + 4, none⟩ = some (.int .i64 x.n) ∧ w'.cell? ⟨(ad.add (k * 7)).block, (ad.add (k * 7)).off + 5, none⟩ = some (.string DD) ∧ w'.cell? ⟨(ad.add (k * 7)).block, (ad.add (k * 7)).off + 6, none⟩ = some (.int .i64 x.pos) ∧ w'.cell? (bd.add (k * 7)) = some (.string LB) ∧ w'.cell? ⟨(bd.add (k * 7)).block, (bd.add (k * 7)).off + 1, none⟩ = some (.int .i64 x.kind) ∧ w'.cell? ⟨(bd.add (k * 7)).block, (bd.add (k * 7)).off + 2, none⟩ = some (.string TX) ∧ w'.cell? ⟨(bd.add (k * 7)).block, (bd.add (k * 7)).off + 3, none⟩ = some (.slice Q pm qc) ∧ w'.cell? ⟨(bd.add (k * 7)).block, (bd.add (k * 7)).off + 4, none⟩ = some (.int .i64 x.n) ∧ w'.cell? ⟨(bd.add (k * 7)).block, (bd.add (k * 7)).off + 5, none⟩ = some (.string DD) ∧ w'.cell? ⟨(bd.add (k * 7)).block, (bd.add (k * 7)).off + 6, none⟩ = some (.int .i64 yp) ∧ Below wq.heap.size wq w') (exact HCS.out _ (by (repeat (first | (with_reducible exact Below.refl _ _) | (with_reducible refine Below.drew ?_) | (with_reducible refine Below.alloc ?_ (by first | exact Nat.le_refl _ | simp) _) | (with_reducible refine Below.setCell ?_ (by first | exact Nat.le_refl _ | simp) _))))) (fail)
        all_goals
          go_wp2_with fail
          go_meet
          case rel =>
            first
              | exact ⟨_, _, rfl, rfl, keepHid ((Blk.new wq _ _).alloc _).drew, keepHid (blk_next wq _ _ _).drew, keepHid (((Below.refl _ wq).alloc (Nat.le_refl _) _).alloc (by simp) _).drew⟩
              | exact ⟨_, _, rfl, rfl, keepHid (blk_next wq _ _ _).drew, keepHid ((Blk.new wq _ _).alloc _).drew, keepHid (((Below.refl _ wq).alloc (Nat.le_refl _) _).alloc (by simp) _).drew⟩
      case rest =>
        obtain ⟨g6, g7, rfl, rfl, HK6, HK7, HBX⟩ := hcut
        have k6 := HK6.out
        have k7 := HK7.out
        have e0 := k6.cell 0; have e1 := k6.cell 1; have e2 := k6.cell 2; have e3 := k6.cell 3; have e4 := k6.cell 4; have e5 := k6.cell 5
        have f0 := k7.cell 0; have f1 := k7.cell 1; have f2 := k7.cell 2; have f3 := k7.cell 3; have f4 := k7.cell 4; have f5 := k7.cell 5
        simp at e0 e1 e2 e3 e4 e5 f0 f1 f2 f3 f4 f5
        have HAX2 := keepHid (HAX.out.below HBX.out (Nat.le_refl _))
        have HAY2 := keepHid (HAY.out.below HBX.out (Nat.le_refl _))
        have HBC := keepHid (HBW.out.trans (HBX.out.mono HBW.out.size))
        clear k6 k7 a0 a1 a2 a3 a4 a5 a6 b0 b1 b2 b3 b4 b5 b6 HCS HBX HBW HAX HAY hadl hbdl
        go_wp2_with fail
        go_loopw [72] (fun jv wr => ∃ j : Nat, jv = .int .i64 (j : Int) ∧ j ≤ pm ∧ Hid (Below wc.heap.size wc wr)) (fun jv _ => pm - (intOf jv).toNat)
        case atStart => exact ⟨0, rfl, Nat.zero_le _, keepHid (Below.refl _ _)⟩
        case round =>
          obtain ⟨j, rfl, hj, HBI⟩ := hrel
          generalize wr = wi at *
          clear e0 e1 e2 e3 e4 e5 f0 f1 f2 f3 f4 f5
          by_cases hjl : j < pm
          · obtain ⟨a, ha⟩ : ∃ a, x.arms[j]? = some a := ⟨_, List.getElem?_eq_getElem (by rw [HARL.out]; exact hjl)⟩
            obtain ⟨pd, rfl, hpdl, u0', u1'⟩ := (HAX2.out.below HBI.out (Nat.le_refl _)).at_ ha
            obtain ⟨qd, rfl, hqdl, v0, v1⟩ := (HAY2.out.below HBI.out (Nat.le_refl _)).at_ ha
            have e3 := (HK6.out.below HBI.out HK6.out.lt).cell 3
            have f3 := (HK7.out.below HBI.out HK7.out.lt).cell 3
            simp at e3 f3
            have hne := neq_ar a
            have hj' : (j : Int) < (pm : Int) := by omega
            clear ha
            generalize strB a.pat = PA at *
            generalize strB a.dst = DA at *
            go_upto_region 12 with fail
            go_quiet (fail)
            go_wp2
            go_roundw
            case rel => exact ⟨j + 1, by go_num, by omega, keepHid (below_drewN HBI.out _)⟩
            case measure => simp [intOf]; omega
          · obtain rfl : j = pm := by omega
            go_wp2
            go_roundw
            case rel => exact ⟨k + 1, by go_num, by omega, keepHid (HBC.out.trans (HBI.out.mono HBC.out.size))⟩
            case measure => simp [intOf]; omega
    · obtain rfl : k = n := by omega
      go_wp2
      go_ret
      exact ⟨rfl, HBW.out⟩
end Go.Proofs.YtdjmfapbaoddoaaGreatDoor
