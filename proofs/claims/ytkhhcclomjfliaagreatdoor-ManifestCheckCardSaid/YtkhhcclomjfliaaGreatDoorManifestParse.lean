/-
  A manifest of a text: package manifest's Parse.
-/
import Derived.Test.YtkhhcclomjfliaaGreatDoorManifestEntry
import Derived.Test.YtkhhcclomjfliaaGreatDoorTokenCut
namespace Go.Proofs.YtkhhcclomjfliaaGreatDoor
open Go.RowKit
set_option linter.unusedVariables false

/-- What Parse answers. -/
def ParsePost (l : List UInt8) (w : World) (e : Ending) (w' : World) : Prop :=
  ((∃ x, parseL l = .error x ∧ e = .returned (.tuple #[.slice none 0 0, faultV (x.1 : Int) (x.2 : Int)])) ∨
   (∃ es A n c, parseL l = .ok es ∧ e = .returned (.tuple #[.slice A n c, .nilIface]) ∧ OwnE w' w.heap.size (.slice A n c) n es)) ∧ Below w.heap.size w w'
/-- So far the tokens have been read. -/
structure ParS (ts : List Tk) (k : Nat) (es : List En) : Prop where
  par : preE es (parseT (ts.drop (11 * k))) = parseT ts
  lt : 11 * k < ts.length
theorem cut_many (l : List UInt8) (p : Nat) : ∀ ts, cutR l p = .ok ts → ts.length ≤ l.length + 1 := by
  refine cut_ind (fun l p x => ∀ ts, x = .ok ts → ts.length ≤ l.length + 1) ?_ ?_ ?_ ?_ ?_ l p
  · intro p ts h; cases h; simp
  · intro l p k h1 h2 h ts hts
    have := h ts hts
    rw [List.length_drop] at this
    omega
  · intro c r p ts h; cases h
  · intro l p t n q hf h ts hts; cases hts
  · intro l p t n ts hf h us hus
    cases hus
    have hx := firstT_le hf
    have := h ts rfl
    rw [List.length_drop] at this
    simp at hx ⊢
    omega
theorem ent_way {ts : List Tk} (he : Ended ts) (h : errE ts = none) : wayOf (tkAt ts 9).text ≠ none ∧ 11 < ts.length := by
  have hb := errI_none 11 0 h
  have hb' : ∀ j, j < 11 → badI ts j = none := fun j hj => hb j (Nat.zero_le _) (by omega)
  have hl := he.more 11 (by omega) hb'
  refine ⟨?_, hl⟩
  obtain ⟨t, ht⟩ : ∃ t, ts[9]? = some t := ⟨_, List.getElem?_eq_getElem (by omega)⟩
  have h9 := hb' 9 (by omega)
  rw [badI_is (s := ⟨1, [], 0, 0⟩) rfl ht] at h9
  have hT : badT 9 ⟨1, [], 0, 0⟩ t = none := by cases hT : badT 9 ⟨1, [], 0, 0⟩ t with | none => rfl | some x => rw [hT] at h9; cases h9
  have e : tkAt ts 9 = t := by unfold tkAt; rw [List.getD_eq_getElem?_getD, ht]; rfl
  rw [e]
  exact (badT_none hT).2 rfl
set_option maxRecDepth 100000 in
set_option maxHeartbeats 8000000 in
theorem parse_any (l : List UInt8) (hl : l.length ≤ 4096) (w : World) (hE : Errs w) :
    Calls Tryz.prog 6 #[.string (strB l)] w (ParsePost l w) := by
  have HC := keepHid (cut_any l hl w hE)
  clear hE
  go_enter Tryz.func6, Tryz.ntmps6
  go_wp2_with fail
  refine HC.out.mono ?_
  rintro e w1 ⟨⟨p, hp, rfl⟩ | ⟨ts, A, n, c, hts, rfl, hown⟩, hb1⟩
  · have HB1 := keepHid hb1
    have HP : Hid (parseL l = .error (1, p)) := keepHid (by unfold parseL; rw [hp])
    have hf : faultV 1 (p : Int) = .iface 59 (.agg #[.int .i64 1, .int .i64 (p : Int)]) := rfl
    rw [hf]
    clear hb1 hp HC
    go_wp2
    go_ret2
    exact ⟨.inl ⟨(1, p), HP.out, rfl⟩, HB1.out⟩
  · obtain ⟨hEnd, hTok⟩ := cut_told l 0 ts hts
    have HP : Hid (parseL l = parseT ts) := keepHid (by unfold parseL; rw [hts])
    obtain ⟨A', c', e0, hnc, hc63, hA⟩ := hown.form
    obtain ⟨rfl, rfl⟩ : A = A' ∧ c = c' := by injection e0 with e1 e2 e3; exact ⟨e1, e3⟩
    have hlen := hown.len
    have hne : 0 < ts.length := by have := hEnd.more 0 (by omega) (fun j h => absurd h (Nat.not_lt_zero _)); exact this
    obtain ⟨g, rfl⟩ : ∃ g, A = some ⟨g, 0, none⟩ := by
      rcases hA with ⟨_, h⟩ | ⟨g, h, _⟩
      · omega
      · exact ⟨g, h⟩
    have HTS := keepHid hown.tks
    have HLN := keepHid hlen
    have HEN := keepHid hEnd
    have HTK := keepHid hTok
    have HB1 := keepHid hb1
    have HSM : Hid (ts.length ≤ 4097) := keepHid (by have := cut_many l 0 ts hts; omega)
    have hn4 : n ≤ 4097 := by have := HSM.out; omega
    have hne2 : 0 < n := by omega
    clear e0 hA hown hlen hEnd hTok hts hb1 HC hne
    go_wp2_with fail
    go_loopw [4, 6] (fun tv ev wr => ∃ (k : Nat) (es : List En) (A : Option Addr) (me ca OFF m c2 : Nat), tv = .slice (some ⟨g, OFF, none⟩) m c2 ∧ ev = .slice A me ca ∧ OFF = 11 * k * 4 ∧ m + 11 * k = n ∧ m ≤ c2 ∧ c2 ≤ 9223372036854775807 ∧ Hid (ParS ts k es) ∧ Hid (es.length = k) ∧ Hid (OwnE wr w1.heap.size (.slice A me ca) me es) ∧ Hid (Below w1.heap.size w1 wr)) (fun tv _ _ => match tv with | .slice _ n _ => n | _ => 0)
    case atStart => exact ⟨0, [], none, 0, 0, 0, n, c, rfl, rfl, rfl, rfl, hnc, hc63, keepHid ⟨by rw [preE_nil]; rfl, by have := HLN.out; omega⟩, keepHid rfl, keepHid (OwnE.nil _ _), keepHid (Below.refl _ _)⟩
    case round =>
      obtain ⟨k, es, A, me, ca, OFF, m, c2, rfl, rfl, hoff, hm, hmc, hc2, HPS, HEL, HO, HBW⟩ := hrel
      generalize wr = wq at *
      have hTA : TkA wq ⟨g, OFF, none⟩ (ts.drop (11 * k)) := by rw [hoff]; exact (HTS.out.below HBW.out HTS.out.lt).tka (11 * k)
      have HTA := keepHid hTA
      have HEK := keepHid (HEN.out.drop HPS.out.lt)
      have HPR := keepHid HPS.out.par
      have HDL : Hid ((ts.drop (11 * k)).length = m) := keepHid (by rw [List.length_drop, HLN.out]; omega)
      have HDM : Hid (∀ t ∈ ts.drop (11 * k), t.val < 4294967296) := keepHid (fun t ht => (HTK.out t (List.mem_of_mem_drop ht)).1)
      have HDD : Hid (11 < m → (ts.drop (11 * k)).drop 11 = ts.drop (11 * (k + 1)) ∧ 11 * (k + 1) < ts.length) := keepHid (fun h => ⟨by rw [List.drop_drop]; congr 1, by rw [HLN.out]; omega⟩)
      have hm0 : 0 < m := by have := HPS.out.lt; rw [HLN.out] at this; omega
      obtain ⟨us, hus⟩ : ∃ us, ts.drop (11 * k) = us := ⟨_, rfl⟩
      rw [hus] at HTA HEK HPR HDL HDM HDD
      obtain ⟨t, ht⟩ : ∃ t, us[0]? = some t := ⟨_, List.getElem?_eq_getElem (by rw [HDL.out]; exact hm0)⟩
      have k0 : wq.cell? ⟨g, OFF, none⟩ = some (.int .i64 (t.kind : Int)) := (HTA.out 0 t ht).2.1
      have HT0 := keepHid ht
      have hm4 : m ≤ 4097 := by omega
      have HOFF := keepHid hoff
      have HMM := keepHid hm
      clear hus hTA ht HPS hoff hm
      by_cases hk : t.kind = 0
      · have hkI : (t.kind : Int) = 0 := by omega
        have hkb : ((t.kind : Int) != 0) = false := by simp [hk]
        have HR : Hid (parseL l = .ok es) := keepHid (by rw [HP.out, ← HPR.out, parse_end HT0.out hk]; show Except.ok (es ++ []) = _; rw [List.append_nil])
        clear hk
        generalize (t.kind : Int) = K0 at *
        go_wp2
        go_ret2
        exact ⟨.inr ⟨es, A, me, ca, HR.out, rfl, HO.out.low HB1.out.size⟩, HB1.out.trans (HBW.out.mono HB1.out.size)⟩
      · have hkb : ((t.kind : Int) != 0) = true := by simp; omega
        have HKK := keepHid hk
        have HWR := keepHid (wrong_any us ⟨g, OFF, none⟩ m c2 HEK.out HDL.out wq HTA.out)
        clear hk
        generalize (t.kind : Int) = K0 at *
        cases he : errE us with
        | some x =>
          rw [he] at HWR
          have HR : Hid (parseL l = .error x) := keepHid (by rw [HP.out, ← HPR.out, parse_err HT0.out HKK.out he]; rfl)
          have hf : errM (some x) = .iface 59 (.agg #[.int .i64 (x.1 : Int), .int .i64 (x.2 : Int)]) := rfl
          rw [hf] at HWR
          have HX : Hid (faultV (x.1 : Int) (x.2 : Int) = .iface 59 (.agg #[.int .i64 (x.1 : Int), .int .i64 (x.2 : Int)])) := keepHid rfl
          generalize hx1 : (x.1 : Int) = X1 at *
          generalize hx2 : (x.2 : Int) = X2 at *
          have HX1 := keepHid hx1
          have HX2 := keepHid hx2
          clear he hf hx1 hx2
          go_wp2_with fail
          refine HWR.out.mono ?_
          rintro e w2 ⟨rfl, hb2⟩
          have HB2 := keepHid (HBW.out.trans (hb2.mono HBW.out.size))
          clear hb2
          go_wp2
          go_ret2
          exact ⟨.inl ⟨x, HR.out, by rw [HX1.out, HX2.out, HX.out]; rfl⟩, HB1.out.trans (HB2.out.mono HB1.out.size)⟩
        | none =>
          rw [he] at HWR
          obtain ⟨hw9, hl11⟩ := ent_way HEK.out he
          rw [HDL.out] at hl11
          have HEY := keepHid (fun w hT => entry_any us ⟨g, OFF, none⟩ m c2 (by rw [HDL.out]; exact hl11) HDL.out HDM.out hw9 w hT)
          obtain ⟨hd1, hd2⟩ := HDD.out hl11
          have HPR2 : Hid (preE (es ++ [entT us]) (parseT (ts.drop (11 * (k + 1)))) = parseT ts) := keepHid (by rw [← HPR.out, parse_ent HT0.out HKK.out he, preE_preE, hd1])
          have HD2 := keepHid hd2
          have hf : errM none = .nilIface := rfl
          rw [hf] at HWR
          have hke : es.length ≤ 4097 := by have := HEL.out; have := HMM.out; omega
          have hmI : 11 < (m : Int) := by omega
          have hcI : 11 < (c2 : Int) := by omega
          have hmcI : (m : Int) ≤ (c2 : Int) := by omega
          clear he hf hw9 hd1 hd2 HDD
          go_wp2_with fail
          refine HWR.out.mono ?_
          rintro e w2 ⟨rfl, hb2⟩
          have HB2 := keepHid (HBW.out.trans (hb2.mono HBW.out.size))
          have HO2 := keepHid (HO.out.below hb2)
          have HTA2 := keepHid (HTA.out.below hb2 (Nat.le_refl _))
          clear hb2 HWR
          go_wp2_with fail
          refine (HEY.out _ HTA2.out).mono ?_
          rintro e w3 ⟨rfl, hb3⟩
          have HB3 := keepHid (HB2.out.trans (hb3.mono HB2.out.size))
          have HO3 := keepHid (HO2.out.below hb3)
          clear hb3 HEY
          obtain ⟨w4, hw4⟩ : ∃ w4, w3.alloc (.cells (enA (entT us)) 40) = w4 := ⟨_, rfl⟩
          have hK4 : Blk w4 w3.heap.size 40 (enA (entT us)) := by rw [← hw4]; exact Blk.new w3 _ _
          have hB4 : Below w3.heap.size w3 w4 := by rw [← hw4]; exact (Below.refl _ _).alloc (Nat.le_refl _) _
          have HK4 := keepHid hK4
          have HO4 := keepHid (HO3.out.below hB4)
          have HB4 := keepHid (HB3.out.trans (hB4.mono HB3.out.size))
          have HELN : Hid (es.length = me) := keepHid HO.out.len
          clear hK4 hB4 HO HO2 HO3
          have hme : me ≤ 4097 := by have := HELN.out; omega
          unfold enV
          generalize hEE : entT us = EE at *
          unfold enA at hw4
          unfold enA
          go_wp2_with (at_builtin; refine wpList_append_en rfl _ _ rfl w1.heap.size (.slice A me ca) me es (by rfl) HO4.out w3.heap.size (by rfl) EE HK4.out (by omega) HB4.out.size ?_)
          intro G5 cap5 w5 q1 q2
          have HO5 := keepHid q1
          have HB5 := keepHid (HB4.out.trans q2)
          clear q1 q2 hw4
          go_wp2_with fail
          refine (shape_any _).mono ?_
          rintro e w6 ⟨rfl, hb6, -⟩
          have HB6 := keepHid (HB5.out.trans (hb6.mono HB5.out.size))
          have HO6 := keepHid (HO5.out.below hb6)
          clear hb6
          go_wp2
          go_roundw
          case rel => exact ⟨k + 1, es ++ [EE], _, _, _, OFF + 44, m - 11, c2 - 11, by go_num, rfl, by have := HOFF.out; omega, by have := HMM.out; omega, by omega, by omega, keepHid ⟨HPR2.out, HD2.out⟩, keepHid (by rw [List.length_append, HEL.out]; rfl), HO6, HB6⟩
          case measure => simp; omega
end Go.Proofs.YtkhhcclomjfliaaGreatDoor
