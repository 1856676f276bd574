/-
  'lifelinelaw16.ManifestCheck' answers true for every input of the row, and leaves its arguments as they were.
  Conditions: the package-level variables that the row lists lie as the program's own text lays them (the card ties them to it; what is pinned is a constant of the library's).
-/
import Derived.Test.YtkhhcclomjfliaaGreatDoorRows
import Derived.Test.YtkhhcclomjfliaaGreatDoorManifestWr
import Derived.Test.YtkhhcclomjfliaaGreatDoorFrame
import Derived.Test.YtkhhcclomjfliaaGreatDoorFrameNum
import Derived.Test.YtkhhcclomjfliaaGreatDoorFrameEight
import Derived.Test.YtkhhcclomjfliaaGreatDoorCards
import Derived.Test.YtkhhcclomjfliaaGreatDoorManifestEnts
import Derived.Test.YtkhhcclomjfliaaGreatDoorManifestAwake
import Derived.Test.YtkhhcclomjfliaaGreatDoorErrNil
import Derived.Test.YtkhhcclomjfliaaGreatDoorFrameMac
import Derived.Lib.QuietBelow
import Derived.Deep.DeepCutAuto
import Derived.OwnWalk
import Derived.WalkKit
import Derived.ProofKit
import Derived.OpenShut
import Derived.ShutString
import Derived.ChangeOld
import Derived.Below
namespace Go.Proofs.YtkhhcclomjfliaaGreatDoor.manifestCheck
open Go.ChangeShapes Go.WideShapes Go.ChangeAt Go.RowKit
open Go.ChangeMaps (open_string shut_string)
set_option linter.unusedVariables false

theorem own : ownKnob Tryz.prog.godebug = none := by kernel_rfl
theorem laidOut : laidOutB Tryz.prog = true := by kernel_rfl

theorem ens_put {w : World} {g m idx r : Nat} {t : TypeId} {cur : Array Value} {es : List En} {e e' : En} {u : Value} (hb : Blk w g t cur) (hE : EnS w (some ⟨g, 0, none⟩) m es) (he : es[idx]? = some e) (hr : r < 5) (hu : enL e' = (enL e).set r u) :
    EnS (w.setCell ⟨g, idx * 5 + r, none⟩ u) (some ⟨g, 0, none⟩) m (es.set idx e') := by
  have ha : ∀ i, (⟨g, 0, none⟩ : Addr).add i = ⟨g, i, none⟩ := fun i => by unfold Addr.add; split <;> simp_all
  have hold : ∀ k x j z, es[k]? = some x → (enL x)[j]? = some z → cur[k * 5 + j]? = some z := fun k x j z hk hz => by
    obtain ⟨ad, h0, _, hc⟩ := hE.2 k x hk
    obtain rfl := (Option.some.inj h0).symm
    have := hc j z hz
    rw [ha, hb.cell] at this
    exact this
  refine ⟨by rw [List.length_set]; exact hE.1, fun k x hk => ⟨_, rfl, (hb.put _ u).lt, fun j z hz => ?_⟩⟩
  have hj : j < 5 := (List.getElem?_eq_some_iff.1 hz).1
  rw [ha, (hb.put (idx * 5 + r) u).cell]
  by_cases hki : k = idx
  · subst hki
    have hlt : k < es.length := (List.getElem?_eq_some_iff.1 he).1
    rw [List.getElem?_set_self hlt] at hk
    obtain rfl := Option.some.inj hk
    rw [hu] at hz
    by_cases hjr : j = r
    · subst hjr
      rw [List.getElem?_set_self (by show j < 5; exact hj)] at hz
      obtain rfl := Option.some.inj hz
      have hin : k * 5 + j < cur.size := by
        have h5 : j < (enL e).length := hj
        have := hold k e j ((enL e)[j]) he (List.getElem?_eq_getElem h5)
        exact (Array.getElem?_eq_some_iff.1 this).1
      simp [hin]
    · rw [List.getElem?_set_ne (by omega)] at hz
      rw [Array.getElem?_setIfInBounds_ne (by omega)]
      exact hold k e j z he hz
  · rw [List.getElem?_set_ne (by omega)] at hk
    rw [Array.getElem?_setIfInBounds_ne (by omega)]
    exact hold k x j z hk hz
theorem addr0 (g i : Nat) : (⟨g, 0, none⟩ : Addr).add i = ⟨g, i, none⟩ := by unfold Addr.add; split <;> simp_all
theorem ownE_obj {w : World} {base n c g : Nat} {zs : List En} (h : OwnE w base (.slice (some ⟨g, 0, none⟩) n c) n zs) : ∃ cur, Blk w g 40 cur := by
  rcases h.2 with ⟨e, _⟩ | ⟨g', cap, cur, e, _, hgg, _⟩
  · cases e
  · obtain rfl : g = g' := by injection e with e1; injection e1 with e1; injection e1
    exact ⟨cur, hgg⟩
theorem set_fits {es : List En} {e' : En} {idx : Nat} (h : ∀ e ∈ es, EnF e) (h' : EnF e') : ∀ e ∈ es.set idx e', EnF e := fun e he => by
  rcases List.mem_or_eq_of_mem_set he with he | rfl
  · exact h e he
  · exact h'
set_option maxRecDepth 100000 in
set_option maxHeartbeats 8000000 in
theorem walkL (A : Option Addr) (n c : Nat) (ms : List Mac) (hw wh : Nat) (A3 : Option Addr) (n3 c3 : Nat) (raw : List En) (hh : hw ≤ 255) (hq : wh ≤ 255) (w : World) (hT : NumT w) (hR : ErrT w) (hn : n ≤ 9223372036854775807) (hS : MacS w A n ms) (hRS : EnS w A3 n3 raw) (hRF : ∀ e ∈ raw, EnF e) (hn3 : n3 ≤ c3) (hc3 : c3 ≤ 9223372036854775807) :
    Calls Tryz.prog 4 #[.slice A n c, .int .u8 (hw : Int), .int .u8 (wh : Int), .slice A3 n3 c3] w fun e w' => e = .returned (.bool true) ∧ Below w.heap.size w w' := by
  have hG := ents_good hS
  have HA := keepHid (awake_any w hT)
  have HS := keepHid hS
  have HR := keepHid hR
  have HRW := keepHid hRS
  have HRF := keepHid hRF
  have HGF : Hid (∀ e ∈ entsOf ms, EnF e) := keepHid (fun e he => (hG e he).fits)
  have hown0 := ents_len ms ms.length
  have HE8 : Hid ((entsOf ms).length ≤ 8) := keepHid hown0
  obtain ⟨es, hes⟩ : ∃ es, entsOf ms = es := ⟨_, rfl⟩
  have HEN : Hid (∀ w' , MacS w' A n ms → Calls Tryz.prog 11 #[.slice A n c] w' fun r w'' => (∃ B m cb, r = .returned (.slice B m cb) ∧ OwnE w'' w'.heap.size (.slice B m cb) m es) ∧ Below w'.heap.size w' w'') := keepHid (fun w' h => by rw [← hes]; exact ents_any ms A n c hn w' h)
  rw [hes] at HGF HE8
  clear hG hT hS hR hRS hRF hown0 hes
  go_enter Tryz.func4, Tryz.ntmps4
  go_wp2_with fail
  refine HA.out.mono ?_
  rintro e w1 ⟨rfl, hb1⟩
  have HB1 := keepHid hb1
  have HS1 := keepHid (HS.out.below hb1)
  have HR1 := keepHid (HR.out.below hb1 HR.out.pos)
  clear hb1 HA HS
  go_wp2_with fail
  refine (HEN.out _ HS1.out).mono ?_
  rintro e w2 ⟨⟨B, m, cb, rfl, hown⟩, hb2⟩
  have HB2 := keepHid (HB1.out.trans (hb2.mono HB1.out.size))
  have HR2 := keepHid (HR1.out.below hb2 HR1.out.pos)
  have HE2 := keepHid hown.ens
  have HOW := keepHid hown
  have hml : m ≤ 8 := by have := hown.len; have := HE8.out; omega
  obtain ⟨B', c', e0, hmc, hcm, hBf⟩ := hown.form
  obtain ⟨rfl, rfl⟩ : B = B' ∧ cb = c' := by injection e0 with e1 e2 e3; exact ⟨e1, e3⟩
  have HB12 := keepHid hb2
  clear e0 hown hb2 HEN HS1
  go_upto_if 23 with fail
  go_cut [10, 33, 42, 50, 59, 67] (fun _ _ _ _ _ _ wx => ∃ l, EnS wx B m l ∧ (∀ x ∈ l, EnF x) ∧ Below w.heap.size w wx)
  case first =>
    rcases Nat.eq_zero_or_pos m with hm0 | hm1
    · subst hm0
      go_wp2_with fail
      go_meet
      case rel => exact ⟨es, HE2.out, HGF.out, HB2.out⟩
    · obtain ⟨g, rfl, hbg, hgl⟩ : ∃ g, B = some ⟨g, 0, none⟩ ∧ w1.heap.size ≤ g ∧ g < w2.heap.size := by
        rcases hBf with ⟨_, h⟩ | ⟨g, h1, h2, h3⟩
        · omega
        · exact ⟨g, h1, h2, h3⟩
      obtain ⟨cur, hbk⟩ := ownE_obj HOW.out
      have hlen := HE2.out.len
      obtain ⟨idx, hix⟩ : ∃ idx, wh % m = idx := ⟨_, rfl⟩
      have hidm : idx < m := by rw [← hix]; exact Nat.mod_lt _ hm1
      have i1 : (wh : Int) % (m : Int) = (idx : Int) := by rw [← hix]; push_cast; rfl
      have i2 : Int.tmod (wh : Int) (m : Int) = (idx : Int) := by rw [Int.tmod_eq_emod_of_nonneg (by omega)]; exact i1
      have hmz : ((m : Int) == 0) = false := by simp; omega
      have hmI : 0 < (m : Int) := by omega
      have hidI : (idx : Int) < (m : Int) := by omega
      have hid0 : (0 : Int) ≤ (idx : Int) := by omega
      have hwI : (wh : Int) ≤ 255 := by omega
      have hw0 : (0 : Int) ≤ (wh : Int) := by omega
      have hmcI : (m : Int) ≤ (cb : Int) := by omega
      have u1 : IntKind.i64.wrap (wh : Int) = (wh : Int) := by rw [IntKind.wrap_i64]; omega
      have u2 : IntKind.i64.wrap ((wh : Int) * 40) = (wh : Int) * 40 := by rw [IntKind.wrap_i64]; omega
      have u3 : IntKind.i64.wrap (16384 - (wh : Int) * 3) = 16384 - (wh : Int) * 3 := by rw [IntKind.wrap_i64]; omega
      have u4 : IntKind.i64.wrap ((wh : Int) * 3) = (wh : Int) * 3 := by rw [IntKind.wrap_i64]; omega
      have u5 : IntKind.i64.wrap ((wh : Int) % 6) = (wh : Int) % 6 := by rw [IntKind.wrap_i64]; omega
      obtain ⟨e, he⟩ : ∃ e, es[idx]? = some e := ⟨_, List.getElem?_eq_getElem (by omega)⟩
      obtain ⟨e9, he9⟩ : ∃ e, es[0]? = some e := ⟨_, List.getElem?_eq_getElem (by omega)⟩
      have hFe := HGF.out e (List.mem_of_getElem? he)
      have hF9 := HGF.out e9 (List.mem_of_getElem? he9)
      have hcl : ∀ (k : Nat) x j z, es[k]? = some x → (enL x)[j]? = some z → w2.cell? ⟨g, k * 5 + j, none⟩ = some z := fun k x j z hk hz => by
        obtain ⟨ad, h0, _, hc⟩ := HE2.out.2 k x hk
        obtain rfl := (Option.some.inj h0).symm
        have := hc j z hz
        have ha := addr0 g (k * 5 + j)
        rwa [ha] at this
      have n0 : w2.cell? ⟨g, 0, none⟩ = some (.string (strB e9.name)) := hcl 0 e9 0 _ he9 rfl
      have t0 : w2.cell? ⟨g, idx * 5, none⟩ = some (.string (strB e.name)) := hcl idx e 0 _ he rfl
      have t1 : w2.cell? ⟨g, idx * 5 + 1, none⟩ = some (.int .i64 e.addr) := hcl idx e 1 _ he rfl
      have t2 : w2.cell? ⟨g, idx * 5 + 2, none⟩ = some (.int .i64 e.size) := hcl idx e 2 _ he rfl
      have t4 : w2.cell? ⟨g, idx * 5 + 4, none⟩ = some (.int .i64 e.way) := hcl idx e 4 _ he rfl
      have z0 : w2.frozen? ⟨g, idx * 5, none⟩ = false := Blk.frozen hbk _
      have z1 : w2.frozen? ⟨g, idx * 5 + 1, none⟩ = false := Blk.frozen hbk _
      have z2 : w2.frozen? ⟨g, idx * 5 + 2, none⟩ = false := Blk.frozen hbk _
      have z4 : w2.frozen? ⟨g, idx * 5 + 4, none⟩ = false := Blk.frozen hbk _
      have HPUT : Hid (∀ r u e', r < 5 → enL e' = (enL e).set r u → EnF e' → EnS (w2.setCell ⟨g, idx * 5 + r, none⟩ u) (some ⟨g, 0, none⟩) m (es.set idx e') ∧ (∀ x ∈ es.set idx e', EnF x) ∧ Below w.heap.size w (w2.setCell ⟨g, idx * 5 + r, none⟩ u)) := keepHid (fun r u e' hr hu hf => ⟨ens_put hbk HE2.out he hr hu, set_fits HGF.out hf, HB2.out.setCell (p := ⟨g, idx * 5 + r, none⟩) (Nat.le_trans HB1.out.size hbg) _⟩)
      have HFE := keepHid hFe
      have HF9 := keepHid hF9
      have hcases : ((hw : Int) % 8 = 0 ∧ Int.tmod (hw : Int) 8 = 0) ∨ ((hw : Int) % 8 = 1 ∧ Int.tmod (hw : Int) 8 = 1) ∨ ((hw : Int) % 8 = 2 ∧ Int.tmod (hw : Int) 8 = 2) ∨ ((hw : Int) % 8 = 3 ∧ Int.tmod (hw : Int) 8 = 3) ∨ ((hw : Int) % 8 = 4 ∧ Int.tmod (hw : Int) 8 = 4) ∨ (∃ r8 : Nat, (hw : Int) % 8 = (r8 : Int) ∧ Int.tmod (hw : Int) 8 = (r8 : Int) ∧ ((r8 : Int) == 0) = false ∧ ((r8 : Int) == 1) = false ∧ ((r8 : Int) == 2) = false ∧ ((r8 : Int) == 3) = false ∧ ((r8 : Int) == 4) = false) := by
        have ht : Int.tmod (hw : Int) 8 = (hw : Int) % 8 := Int.tmod_eq_emod_of_nonneg (by omega)
        rw [ht]
        rcases (by omega : hw % 8 = 0 ∨ hw % 8 = 1 ∨ hw % 8 = 2 ∨ hw % 8 = 3 ∨ hw % 8 = 4 ∨ 5 ≤ hw % 8) with h | h | h | h | h | h
        · exact .inl (by omega)
        · exact .inr (.inl (by omega))
        · exact .inr (.inr (.inl (by omega)))
        · exact .inr (.inr (.inr (.inl (by omega))))
        · exact .inr (.inr (.inr (.inr (.inl (by omega)))))
        · exact .inr (.inr (.inr (.inr (.inr ⟨hw % 8, by omega, by omega, by simp; omega, by simp; omega, by simp; omega, by simp; omega, by simp; omega⟩))))
      clear hix hBf hcl he he9 hFe hF9 hbk hlen hm1 HB12 HOW
      rcases hcases with ⟨g1, g2⟩ | ⟨g1, g2⟩ | ⟨g1, g2⟩ | ⟨g1, g2⟩ | ⟨g1, g2⟩ | ⟨r8, g1, g2, s0, s1, s2, s3, s4⟩
      · have hput := HPUT.out 0 (.string (strB e9.name)) (⟨e9.name, e.addr, e.size, e.print, e.way⟩) (by omega) rfl (⟨HF9.out.name, HFE.out.addr, HFE.out.size, HFE.out.print, HFE.out.way⟩)
        obtain ⟨wz, hwz⟩ : ∃ wz, w2.setCell ⟨g, idx * 5, none⟩ (.string (strB e9.name)) = wz := ⟨_, rfl⟩
        have hwz' : w2.setCell ⟨g, idx * 5 + 0, none⟩ (.string (strB e9.name)) = wz := hwz
        rw [hwz'] at hput
        have HEZ := keepHid hput.1
        have HEF := keepHid hput.2.1
        have HBZ := keepHid hput.2.2
        clear hput hwz' HPUT HB2 HR2 HE2 HGF HR1
        go_wp2_with fail
        go_meet
        case rel => exact ⟨_, HEZ.out, HEF.out, HBZ.out⟩
      · have hput := HPUT.out 2 (.int .i64 ((wh : Int) * 40)) (⟨e.name, e.addr, (wh : Int) * 40, e.print, e.way⟩) (by omega) rfl (⟨HFE.out.name, HFE.out.addr, (by show _ ≤ (wh : Int) * 40 ∧ (wh : Int) * 40 ≤ _; omega), HFE.out.print, HFE.out.way⟩)
        obtain ⟨wz, hwz⟩ : ∃ wz, w2.setCell ⟨g, idx * 5 + 2, none⟩ (.int .i64 ((wh : Int) * 40)) = wz := ⟨_, rfl⟩
        have hwz' : w2.setCell ⟨g, idx * 5 + 2, none⟩ (.int .i64 ((wh : Int) * 40)) = wz := hwz
        rw [hwz'] at hput
        have HEZ := keepHid hput.1
        have HEF := keepHid hput.2.1
        have HBZ := keepHid hput.2.2
        clear hput hwz' HPUT HB2 HR2 HE2 HGF HR1
        go_wp2_with fail
        go_meet
        case rel => exact ⟨_, HEZ.out, HEF.out, HBZ.out⟩
      · have hput := HPUT.out 1 (.int .i64 (16384 - (wh : Int) * 3)) (⟨e.name, 16384 - (wh : Int) * 3, e.size, e.print, e.way⟩) (by omega) rfl (⟨HFE.out.name, (by show _ ≤ 16384 - (wh : Int) * 3 ∧ 16384 - (wh : Int) * 3 ≤ _; omega), HFE.out.size, HFE.out.print, HFE.out.way⟩)
        obtain ⟨wz, hwz⟩ : ∃ wz, w2.setCell ⟨g, idx * 5 + 1, none⟩ (.int .i64 (16384 - (wh : Int) * 3)) = wz := ⟨_, rfl⟩
        have hwz' : w2.setCell ⟨g, idx * 5 + 1, none⟩ (.int .i64 (16384 - (wh : Int) * 3)) = wz := hwz
        rw [hwz'] at hput
        have HEZ := keepHid hput.1
        have HEF := keepHid hput.2.1
        have HBZ := keepHid hput.2.2
        clear hput hwz' HPUT HB2 HR2 HE2 HGF HR1
        go_wp2_with fail
        go_meet
        case rel => exact ⟨_, HEZ.out, HEF.out, HBZ.out⟩
      · have hput := HPUT.out 4 (.int .i64 ((wh : Int) % 6)) (⟨e.name, e.addr, e.size, e.print, (wh : Int) % 6⟩) (by omega) rfl (⟨HFE.out.name, HFE.out.addr, HFE.out.size, HFE.out.print, (by show _ ≤ (wh : Int) % 6 ∧ (wh : Int) % 6 ≤ _; omega)⟩)
        obtain ⟨wz, hwz⟩ : ∃ wz, w2.setCell ⟨g, idx * 5 + 4, none⟩ (.int .i64 ((wh : Int) % 6)) = wz := ⟨_, rfl⟩
        have hwz' : w2.setCell ⟨g, idx * 5 + 4, none⟩ (.int .i64 ((wh : Int) % 6)) = wz := hwz
        rw [hwz'] at hput
        have HEZ := keepHid hput.1
        have HEF := keepHid hput.2.1
        have HBZ := keepHid hput.2.2
        clear hput hwz' HPUT HB2 HR2 HE2 HGF HR1
        go_wp2_with fail
        go_meet
        case rel => exact ⟨_, HEZ.out, HEF.out, HBZ.out⟩
      · have hput := HPUT.out 0 (.string ⟨#[49]⟩) (⟨[49], e.addr, e.size, e.print, e.way⟩) (by omega) rfl (⟨(by show 1 ≤ 9223372036854775807; omega), HFE.out.addr, HFE.out.size, HFE.out.print, HFE.out.way⟩)
        obtain ⟨wz, hwz⟩ : ∃ wz, w2.setCell ⟨g, idx * 5, none⟩ (.string ⟨#[49]⟩) = wz := ⟨_, rfl⟩
        have hwz' : w2.setCell ⟨g, idx * 5 + 0, none⟩ (.string ⟨#[49]⟩) = wz := hwz
        rw [hwz'] at hput
        have HEZ := keepHid hput.1
        have HEF := keepHid hput.2.1
        have HBZ := keepHid hput.2.2
        clear hput hwz' HPUT HB2 HR2 HE2 HGF HR1
        go_wp2_with fail
        go_meet
        case rel => exact ⟨_, HEZ.out, HEF.out, HBZ.out⟩
      · go_wp2_with fail
        go_meet
        case rel => exact ⟨es, HE2.out, HGF.out, HB2.out⟩
  case rest =>
    obtain ⟨l, hez, hef, hbz⟩ := hcut
    obtain ⟨wz, hwz⟩ : ∃ wz, wc = wz := ⟨_, rfl⟩
    rw [hwz] at hez hbz ⊢
    have HEZ := keepHid hez
    have HEF := keepHid hef
    have HBZ := keepHid hbz
    have HRZ := keepHid (HR.out.below hbz HR.out.pos)
    clear hez hef hbz hwz HB2 HR2 HE2 HGF HOW HB12 hBf HR1
    obtain ⟨w5, hw5⟩ : ∃ w5, wz.alloc (.cells #[.slice B m cb, .slice A3 n3 c3] 23) = w5 := ⟨_, rfl⟩
    have hK5 : Blk w5 wz.heap.size 23 #[.slice B m cb, .slice A3 n3 c3] := by rw [← hw5]; exact Blk.new wz _ _
    have hB5 : Below wz.heap.size wz w5 := by rw [← hw5]; exact (Below.refl _ _).alloc (Nat.le_refl _) _
    have HB5 := keepHid (HBZ.out.trans (hB5.mono HBZ.out.size))
    have HG5 := keepHid hK5.lt
    have HR5 := keepHid (HRZ.out.below hB5 HRZ.out.pos)
    have HES5 := keepHid (HEZ.out.below hB5 (Nat.le_refl _))
    have HRW5 := keepHid (HRW.out.below HB5.out (Nat.le_refl _))
    have HLS : Hid (∀ wx, Below w5.heap.size w5 wx → ∀ k, k < 2 → ∃ B' m' c' l, wx.cell? ⟨wz.heap.size, k, none⟩ = some (.slice B' m' c') ∧ EnS wx B' m' l ∧ (∀ e ∈ l, EnF e) ∧ m' ≤ c' ∧ c' ≤ 9223372036854775807 ∧ ErrT wx) := keepHid (fun wx hb k hk => by
      have hkx := hK5.below hb HG5.out
      rcases (by omega : k = 0 ∨ k = 1) with rfl | rfl
      · exact ⟨B, m, cb, _, hkx.cell 0, HES5.out.below hb (Nat.le_refl _), HEF.out, hmc, hcm, HR5.out.below hb HR5.out.pos⟩
      · exact ⟨A3, n3, c3, _, hkx.cell 1, HRW5.out.below hb (Nat.le_refl _), HRF.out, hn3, hc3, HR5.out.below hb HR5.out.pos⟩)
    generalize hGZ : wz.heap.size = GZ at *
    clear hK5 hB5
    go_upto_region 17 with fail
    go_wp2_with fail
    try rw [hGZ]
    try rw [hw5]
    clear hw5 hGZ
    go_loopw [76] (fun iv wr => ∃ k : Nat, k ≤ 2 ∧ iv = .int .i64 (k : Int) ∧ Hid (Below w5.heap.size w5 wr)) (fun iv _ => 2 - (intOf iv).toNat)
    case atStart => exact ⟨0, Nat.zero_le _, rfl, keepHid (Below.refl _ _)⟩
    case round =>
      obtain ⟨k, hk, rfl, HBW⟩ := hrel
      generalize wr = wq at *
      by_cases hlt : k < 2
      · have hk2 : (k : Int) < 2 := by omega
        obtain ⟨B', m', c', l, hcell, hes, hef, hm', hc', hrr⟩ := HLS.out wq HBW.out k hlt
        have HCK := keepHid (mchk_any l hef B' m' c' hm' hc' wq hes)
        have HWR := keepHid (fun w' hb => wr_any l hef B' m' c' hm' hc' w' (EnS.below hes hb (Nat.le_refl _)))
        have HRR := keepHid hrr
        obtain ⟨Z, hZ⟩ : ∃ Z, (checkL l).1 = Z := ⟨_, rfl⟩
        obtain ⟨Q, hQ⟩ : ∃ Q, (checkL l).2 = Q := ⟨_, rfl⟩
        rw [hZ, hQ] at HCK HWR
        clear hes hef hrr hZ hQ
        by_cases hq0 : Q = 0
        · subst hq0
          have hv : noV 0 = .nilIface := rfl
          rw [hv] at HCK
          go_wp2_with fail
          refine HCK.out.mono ?_
          rintro e w6 ⟨rfl, hb6⟩
          have HB6 := keepHid (HBW.out.trans (hb6.mono HBW.out.size))
          have HW6 := keepHid (HWR.out w6 hb6)
          clear hb6 hv
          go_wp2_with fail
          refine HW6.out.mono ?_
          rintro e w7 ⟨rfl, hb7⟩
          have HB7 := keepHid (HB6.out.trans (hb7.mono HB6.out.size))
          clear hb7
          rw [show ((0 : Nat) : Int) = 0 from rfl]
          go_wp2_with fail
          refine (number_nil _).mono ?_
          rintro e w8 ⟨rfl, hb8⟩
          have HB8 := keepHid (HB7.out.trans (hb8.mono HB7.out.size))
          clear hb8
          go_wp2
          go_roundw
          case rel => exact ⟨k + 1, by omega, by go_num, HB8⟩
          case measure => simp [intOf]; omega
        · have hv : noV Q = .iface 28 (.int .i64 (Q : Int)) := by unfold noV; rw [if_neg hq0]
          have hz : ((Q : Int) == 0) = false := by simp; omega
          rw [hv] at HCK
          clear hq0 hv
          generalize (Q : Int) = QI at *
          go_wp2_with fail
          refine HCK.out.mono ?_
          rintro e w6 ⟨rfl, hb6⟩
          have HB6 := keepHid (HBW.out.trans (hb6.mono HBW.out.size))
          have HW6 := keepHid (HWR.out w6 hb6)
          have HR6 := keepHid (HRR.out.below hb6 HRR.out.pos)
          clear hb6
          go_wp2_with fail
          refine HW6.out.mono ?_
          rintro e w7 ⟨rfl, hb7⟩
          have HB7 := keepHid (HB6.out.trans (hb7.mono HB6.out.size))
          have HR7 := keepHid (HR6.out.below hb7 HR6.out.pos)
          clear hb7
          go_wp2_with fail
          refine (number_e QI _ HR7.out).mono ?_
          rintro e w8 ⟨rfl, hb8⟩
          have HB8 := keepHid (HB7.out.trans (hb8.mono HB7.out.size))
          clear hb8
          go_wp2
          go_roundw
          case rel => exact ⟨k + 1, by omega, by go_num, HB8⟩
          case measure => simp [intOf]; omega
      · obtain rfl : k = 2 := by omega
        go_wp2
        go_ret
        exact ⟨rfl, HB5.out.trans (HBW.out.mono HB5.out.size)⟩
theorem walk (a0 : Option Addr) (n0 c0 : Nat) (m0 : List Mac) (x1 : Int) (x2 : Int) (a3 : Option Addr) (n3 c3 : Nat) (e3 : List En) (w : World) (hT : NumT w) (hR : ErrT w) (h0 : MacS w a0 n0 m0) (l0 : n0 ≤ c0) (s0 : c0 ≤ 9223372036854775807) (h1 : 0 ≤ x1 ∧ x1 ≤ 255) (h2 : 0 ≤ x2 ∧ x2 ≤ 255) (h3 : EnS w a3 n3 e3) (g3 : ∀ e ∈ e3, EnF e) (l3 : n3 ≤ c3) (s3 : c3 ≤ 9223372036854775807) :
    Calls Tryz.prog 4 #[.slice a0 n0 c0, .int .u8 x1, .int .u8 x2, .slice a3 n3 c3] w fun e w' => e = .returned (.bool true) ∧ Below w.heap.size w w' := by
  obtain ⟨p, rfl⟩ : ∃ p : Nat, x1 = (p : Int) := ⟨x1.toNat, by omega⟩
  obtain ⟨q, rfl⟩ : ∃ q : Nat, x2 = (q : Int) := ⟨x2.toNat, by omega⟩
  exact walkL a0 n0 c0 m0 p q a3 n3 c3 e3 (by omega) (by omega) w hT hR (by omega) h0 h3 g3 l3 s3

set_option maxRecDepth 100000 in
theorem lifted (os : Os) (started : os.Started) (H : Type) (enc : TypeId × Value → H) :
    ReturnsInHanded {} Tryz.checked os 4 .any (fun w args => (Rows.manifestCheckSpec.pre enc Tryz.prog Tryz.f4 [] false w args ∧ laidMetH Tryz.prog laid8 w) ∧ sizedMet enc Tryz.prog Tryz.f4 (OpenSpec.ofChange Rows.manifestCheckSpec) false w args) (Rows.manifestCheckSpec.post enc Tryz.prog Tryz.f4 false true false false) := by
  refine returnsInHanded_of_change_and (C := Tryz.checked) (X := fun w _ => laidMetH Tryz.prog laid8 w) (fun _ _ _ hh h => h.of_heap hh) own started (by kernel_rfl) Tryz.func4
    (ChangeSpec.witness_shaped (enc := enc) (C := Tryz.checked) (os := os) (X := fun w _ => laidMetH Tryz.prog laid8 w) false (worldF os) #[.slice none 0 0, .int .u8 0, .int .u8 0, .slice none 0 0] 8 (worldF_os os) (World.shaped_of_RefB (by kernel_rfl) (by kernel_rfl)) (by kernel_rfl) (by kernel_rfl) (by kernel_rfl) (door8 os _)) ?_
  intro W base args ds gs before hval0 hW hcnd hsz0 hL _
  have hsz : (DataW.weightsEach Tryz.prog (Tryz.f4.params.toList ++ Rows.manifestCheckSpec.plain.varTypes Tryz.prog) (ds ++ gs)).all (· ≤ reachBytes) = true := hsz0
  clear hsz0
  have hval : ∀ (j : Nat) t v, Tryz.f4.params[j]? = some t → args[j]? = some v → Value.okWide Tryz.prog W .any base t v := hval0
  have hW' := hW
  obtain ⟨p, q, hA0, hV, rfl, hfz, hnd⟩ := hW
  have hA : DataW.TrodAll enc Tryz.prog W 0 (fun _ => true) true Tryz.f4.params.toList args.toList ds p := hA0
  rw [Tryz.params4] at hA hval hsz
  obtain ⟨v0, vs0, d0, ds0, p0, q0, hargs, rfl, rfl, h0, r0⟩ := trodAll_cons hA
  obtain ⟨v1, vs1, d1, ds1, p1, q1, rfl, rfl, rfl, h1, r1⟩ := trodAll_cons r0
  obtain ⟨v2, vs2, d2, ds2, p2, q2, rfl, rfl, rfl, h2, r2⟩ := trodAll_cons r1
  obtain ⟨v3, vs3, d3, ds3, p3, q3, rfl, rfl, rfl, h3, r3⟩ := trodAll_cons r2
  obtain ⟨rfl, rfl, rfl⟩ := trodAll_nil r3
  obtain rfl : args = #[v0, v1, v2, v3] := by cases args; simp_all
  obtain ⟨rfl, rfl⟩ := trodVars_none hV
  have k0 := h0
  have lt0 : ∀ x ∈ p0, x.block < W.heap.size := by obtain ⟨m, hm⟩ := k0; exact DataW.trod_lt m _ _ _ hm
  have k1 := h1
  have lt1 : ∀ x ∈ p1, x.block < W.heap.size := by obtain ⟨m, hm⟩ := k1; exact DataW.trod_lt m _ _ _ hm
  have k2 := h2
  have lt2 : ∀ x ∈ p2, x.block < W.heap.size := by obtain ⟨m, hm⟩ := k2; exact DataW.trod_lt m _ _ _ hm
  have k3 := h3
  have lt3 : ∀ x ∈ p3, x.block < W.heap.size := by obtain ⟨m, hm⟩ := k3; exact DataW.trod_lt m _ _ _ hm
  obtain ⟨a0, n0, c0, m0, rfl, w0, l0, s0⟩ := open_mac Tryz.underlying34 Tryz.underlying70 ⟨rfl, rfl⟩ ⟨rfl, rfl⟩ ⟨rfl, rfl⟩ ⟨rfl, rfl⟩ ⟨rfl, rfl⟩ Tryz.underlying62 Tryz.underlying5 Tryz.underlying68 Tryz.underlying37 (by kernel_rfl) (by kernel_rfl) (by kernel_rfl) (by kernel_rfl) (by kernel_rfl) (hval 0 34 v0 rfl rfl) h0
  obtain ⟨x1, rfl, rfl, rfl, w1⟩ := open_int Tryz.underlying5 (hval 1 5 v1 rfl rfl) h1
  obtain ⟨x2, rfl, rfl, rfl, w2⟩ := open_int Tryz.underlying5 (hval 2 5 v2 rfl rfl) h2
  obtain ⟨a3, n3, c3, e3, rfl, w3, g3, l3, s3, b3⟩ := open_ens Tryz.underlying23 Tryz.underlying40 ⟨rfl, rfl⟩ ⟨rfl, rfl⟩ ⟨rfl, rfl⟩ ⟨rfl, rfl⟩ ⟨rfl, rfl⟩ Tryz.underlying9 Tryz.underlying3 Tryz.underlying37 Tryz.underlying38 (by kernel_rfl) (by kernel_rfl) (by kernel_rfl) (by kernel_rfl) (by kernel_rfl) (hval 3 23 v3 rfl rfl) h3
  clear hA0 hval0
  refine (walk a0 n0 c0 m0 x1 x2 a3 n3 c3 e3 W (num_of (laid8_parts hL).1) (errT8 hL) w0 l0 s0 (wf_u8 w1) (wf_u8 w2) w3 g3 l3 s3).mono fun e W' ⟨he, bel⟩ => ?_
  subst he
  exact ⟨_, rfl, _, _, _, [], _, [], hW', trodAll_mk1 (shut_bool Tryz.underlying4 _), (trodAll_cons_mk (Below.trod laidOut (by kernel_rfl) (of_decide_eq_true (by kernel_rfl)) k0 bel lt0) (trodAll_cons_mk (Below.trod laidOut (by kernel_rfl) (of_decide_eq_true (by kernel_rfl)) k1 bel lt1) (trodAll_cons_mk (Below.trod laidOut (by kernel_rfl) (of_decide_eq_true (by kernel_rfl)) k2 bel lt2) (trodAll_cons_mk (Below.trod laidOut (by kernel_rfl) (of_decide_eq_true (by kernel_rfl)) k3 bel lt3) trodAll_mk0)))), rfl, bel.frame _, fun h => by cases h⟩

theorem over : Rows.manifestCheckRow.holds Tryz.pinned (OpenSpec.ofChange Rows.manifestCheckSpec) :=
  OpenClaim.holds_of_wide 4 Tryz.f4 rfl rfl rfl rfl rfl rfl rfl ⟨rfl, rfl, rfl, rfl, rfl⟩ rfl rfl rfl rfl rfl (by kernel_rfl) Tryz.func4 (by kernel_rfl)
    (of_decide_eq_true (by kernel_rfl)) (by unfold Func.isWrapper; first | (rw [if_pos (by decide +kernel)]; kernel_rfl) | (rw [if_neg (by decide +kernel)]; exact ⟨rfl, rfl⟩))
    (fun os started H enc _ => lifted os started H enc)

/-- The card: what the row lists is tied to the program's own text. -/
theorem proved : Rows.ManifestCheckCardSaid :=
  Claim7.holds_tied_plain_at .later [] [.data, .data, .data, .data, .handle, .sentinel, .sentinel, .pinned] true Rows.manifestCheckCard.stood.harness true
    over (fun _ h => by cases h) (by kernel_rfl) (fun _ h => by cases h) manifestCheck_row_tie rfl ⟨rfl, rfl⟩ (by kernel_rfl) rfl
    (fun f fn hf hfn => by
      obtain rfl : f = 4 := Option.some.inj ((show Tryz.prog.funcNamed "lifeline/lifelinelaw16.ManifestCheck" = some 4 by kernel_rfl).symm.trans hf) |>.symm
      obtain rfl : fn = Tryz.f4 := (Option.some.inj (Tryz.func4.symm.trans hfn)).symm
      exact ⟨by kernel_rfl, fun j t ht => by
        rw [Tryz.params4] at ht
        have hm : t ∈ [34, 5, 5, 23] := by simpa using Array.mem_of_getElem? ht
        have hall : ([34, 5, 5, 23].all fun u => !Tryz.prog.wantsStandIn u) = true := by kernel_rfl
        exact (show Tryz.prog.wantsStandIn t = false by simpa using List.all_eq_true.1 hall t hm)⟩)
    (by kernel_rfl)
end Go.Proofs.YtkhhcclomjfliaaGreatDoor.manifestCheck
