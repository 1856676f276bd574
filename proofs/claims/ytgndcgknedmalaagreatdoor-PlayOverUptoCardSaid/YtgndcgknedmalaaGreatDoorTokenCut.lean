/-
  The tokens of a text: package token's Cut, a scan by goto.
-/
import Derived.Test.YtgndcgknedmalaaGreatDoorTokenOps
import Derived.Test.YtgndcgknedmalaaGreatDoorErrWrap
import Derived.ScopeJumps
import Derived.WalkMore
namespace Go.Proofs.YtgndcgknedmalaaGreatDoor
open Go.RowKit
set_option linter.unusedVariables false

theorem wp_scope_once {P : Program} {a : Act} {w : World} {Q : Exit → Act → World → Prop} {c body : Code} (l : Nat) (J : Act → World → Prop) (μ : Act → World → Nat) (hf : findLabel c l = some (Code.skip.seq body))
    (first : Hid (∀ a w, J a w → body.wp P (Exit.jump l J Q) a w) → c.wp P (Exit.jump l J Q) a w)
    (pass : ∀ a w, J a w → body.wp P (Exit.jump l (fun a' w' => J a' w' ∧ μ a' w' < μ a w) Q) a w) : (Code.scope c).wp P Q a w :=
  wp_scope_jumps l J μ hf (first (keepHid fun a w h => Code.wp_mono (fun e a w he => by cases e <;> first | exact he | exact ⟨he.1, he.2.1⟩) (pass a w h)))
    (fun a w h => wp_seq (wp_skip (pass a w h)))

/-- What Cut answers. -/
def CutPost (l : List UInt8) (w : World) (e : Ending) (w' : World) : Prop :=
  ((∃ p, cutR l 0 = .error p ∧ e = .returned (.tuple #[.slice none 0 0, faultV 1 (p : Int)])) ∨
   (∃ ts A n c, cutR l 0 = .ok ts ∧ e = .returned (.tuple #[.slice A n c, .nilIface]) ∧ OwnT w' w.heap.size (.slice A n c) n ts)) ∧ Below w.heap.size w w'
/-- So far the text has been cut. -/
structure CutS (w : World) (l : List UInt8) (k : Nat) (v : Value) (n : Nat) (acc : List Tk) (wr : World) : Prop where
  own : OwnT wr w.heap.size v n acc
  bel : Below w.heap.size w wr
  cut : cutR l 0 = preT acc (cutR (l.drop k) k)
  len : n ≤ k
def CutJ (w : World) (l : List UInt8) (a' : Act) (w' : World) : Prop :=
  ∃ (k n : Nat) (A : Option Addr) (c : Nat) (acc : List Tk) (z : Int) (u1 u6 u7 u8 u9 u10 u11 u12 u13 u14 u15 u16 u17 u18 u19 u20 u21 u22 u23 u24 u25 u26 u27 u28 u29 u30 u31 u32 u33 u34 u35 u36 u37 u38 u39 u40 u41 u42 u43 u44 u45 u46 u47 u48 u49 u50 u51 u52 u53 u54 u55 u56 : Value), a' = { tmps := #[.string (strB l), u1, .slice none 0 0, .nilIface, .slice A n c, .int .i64 z, u6, u7, u8, u9, u10, u11, u12, u13, u14, u15, u16, u17, u18, u19, u20, u21, u22, u23, u24, u25, u26, u27, u28, u29, u30, u31, u32, u33, u34, u35, u36, u37, u38, u39, u40, u41, u42, u43, u44, u45, u46, u47, u48, u49, u50, u51, u52, u53, u54, u55, u56], defers := [] } ∧ z = (k : Int) ∧ k ≤ l.length ∧ Hid (CutS w l k (.slice A n c) n acc w')
def cutM (l : List UInt8) (a' : Act) (w' : World) : Nat := l.length - (intOf (a'.tmps.getD 5 undef)).toNat
theorem drop_comN (l : List UInt8) (k : Nat) : (l.drop k).drop (comN (l.drop k)) = l.drop (k + comN (l.drop k)) := by rw [List.drop_drop]
theorem cuts_ok {w wr : World} {l : List UInt8} {k n : Nat} {v : Value} {acc : List Tk} (h : CutS w l k v n acc wr) (hk : l.length ≤ k) : cutR l 0 = .ok (acc ++ [⟨0, [], 0, k⟩]) := by
  rw [h.cut, List.drop_of_length_le hk, cut_nil]; rfl

set_option maxRecDepth 100000 in
set_option maxHeartbeats 8000000 in
theorem cut_any (l : List UInt8) (hl : l.length ≤ 4096) (w : World) (hE : Errs w) :
    Calls Tryz.prog 24 #[.string (strB l)] w (CutPost l w) := by
  have hlen : (strB l).size = l.length := strB_size l
  obtain ⟨N, hN⟩ : ∃ N, l.length = N := ⟨_, rfl⟩
  have HN := keepHid hN
  have HE := keepHid hE
  have h0 : ¬ (4096 : Int) < (N : Int) := by omega
  have HS0 : Hid (CutS w l 0 (.slice none 0 0) 0 [] w) := keepHid ⟨OwnT.nil _ _, Below.refl _ _, by rw [List.drop_zero, preT_nil], Nat.le_refl _⟩
  rw [hN] at hlen hl
  clear hN hE
  go_enter Tryz.func24, Tryz.ntmps24
  go_wp2
  refine wp_scope_once 0 (CutJ w l) (cutM l) rfl ?_ ?_
  · intro HB
    go_wp2
    go_step3
    simp only [Exit.then]
    rename_i K hK
    refine hK _ _ (HB.out _ _ ⟨0, 0, none, 0, [], 0, _, _, _, _, _, _, _, _, _, _, _, _, _, _, _, _, _, _, _, _, _, _, _, _, _, _, _, _, _, _, _, _, _, _, _, _, _, _, _, _, _, _, _, _, _, _, _, _, _, _, _, _, rfl, rfl, Nat.zero_le _, HS0⟩)
  · clear h0
    rintro a wr ⟨k, n, A, c, acc, z, u1, u6, u7, u8, u9, u10, u11, u12, u13, u14, u15, u16, u17, u18, u19, u20, u21, u22, u23, u24, u25, u26, u27, u28, u29, u30, u31, u32, u33, u34, u35, u36, u37, u38, u39, u40, u41, u42, u43, u44, u45, u46, u47, u48, u49, u50, u51, u52, u53, u54, u55, u56, rfl, rfl, hk, HX⟩
    rw [HN.out] at hk
    have hnk := HX.out.len
    by_cases hkN : k < N
    · obtain ⟨ch, hch⟩ : ∃ ch, l[k]? = some ch := ⟨_, List.getElem?_eq_getElem (by rw [HN.out]; exact hkN)⟩
      have hidx := fun w => run_idx hch (k : Int) rfl w
      have HDR : Hid (l.drop k = ch :: l.drop (k + 1)) := keepHid (drop_at hch)
      have hne : ((k : Int) == (N : Int)) = false := by simp; omega
      have HB1 : Hid (∀ w, Calls Tryz.prog 36 #[.string ⟨#[32, 9, 10]⟩, .int .u8 (ch.toNat : Int)] w fun e w' => e = .returned (.bool (blankL.contains ch)) ∧ w' = w) := keepHid (ahas_any blankL ch)
      have hfrom : ∀ w, (Instr.slice 9 (.string (strB l)) (some (.int .i64 (k : Int))) none none).run Tryz.prog w = .ok (.string (strB (l.drop k))) w := fun w => run_from (k := k) (by rw [HN.out]; omega) _ rfl w
      cases hbl : blankL.contains ch with
      | true =>
        rw [hbl] at HB1
        have HS1 : Hid (CutS w l (k + 1) (.slice A n c) n acc wr) := keepHid ⟨HX.out.own, HX.out.bel, by rw [HX.out.cut, HDR.out, cut_blank hbl], by omega⟩
        generalize (ch.toNat : Int) = cn at *
        clear hch HDR hbl hfrom HX
        go_wp2_with ((with_reducible refine (HB1.out _).mono ?_); rintro e w' ⟨rfl, rfl⟩)
        go_step3
        refine ⟨rfl, ⟨k + 1, n, A, c, acc, _, _, _, _, _, _, _, _, _, _, _, _, _, _, _, _, _, _, _, _, _, _, _, _, _, _, _, _, _, _, _, _, _, _, _, _, _, _, _, _, _, _, _, _, _, _, _, _, _, _, _, _, _, rfl, by omega, by rw [HN.out]; omega, HS1⟩, ?_⟩
        simp [cutM, intOf, HN.out]; omega
      | false =>
        rw [hbl] at HB1
        by_cases h35 : ch = 35
        · subst h35
          have hidx' : ∀ w, (Instr.index 9 (.string (strB l)) (.int .i64 (k : Int))).run Tryz.prog w = .ok (.int .u8 35) w := hidx
          have HB2 : Hid (∀ w, Calls Tryz.prog 36 #[.string ⟨#[32, 9, 10]⟩, .int .u8 35] w fun e w' => e = .returned (.bool false) ∧ w' = w) := keepHid HB1.out
          have HCM := keepHid (fun w => comment_any (l.drop k) w (by rw [List.length_drop, HN.out]; omega))
          have hcl := comN_le (l.drop k)
          have hcp : 1 ≤ comN (l.drop k) := by rw [HDR.out]; exact comN_pos _
          rw [List.length_drop, HN.out] at hcl
          have HS1 : Hid (CutS w l (k + comN (l.drop k)) (.slice A n c) n acc wr) := keepHid ⟨HX.out.own, HX.out.bel, by rw [HX.out.cut, HDR.out, cut_com, ← HDR.out, drop_comN], by omega⟩
          generalize comN (l.drop k) = m at *
          clear hch HDR hbl HX hidx HB1
          go_wp2_with (first | ((with_reducible refine (HB2.out _).mono ?_); rintro e w' ⟨rfl, rfl⟩) | ((with_reducible refine (HCM.out _).mono ?_); rintro e w' ⟨rfl, rfl⟩))
          go_step3
          refine ⟨rfl, ⟨k + m, n, A, c, acc, _, _, _, _, _, _, _, _, _, _, _, _, _, _, _, _, _, _, _, _, _, _, _, _, _, _, _, _, _, _, _, _, _, _, _, _, _, _, _, _, _, _, _, _, _, _, _, _, _, _, _, _, _, rfl, by omega, by rw [HN.out]; omega, HS1⟩, ?_⟩
          simp [cutM, intOf, HN.out]; omega
        · have e35 : ((ch.toNat : Int) == 35) = false := by
            have : ch.toNat ≠ 35 := fun h => h35 (UInt8.toNat_inj.1 h)
            simp; omega
          have HF : Hid (∀ w, Errs w → Calls Tryz.prog 38 #[.string (strB (l.drop k))] w fun e w' => e = .returned (resV (firstT (l.drop k))) ∧ Below w.heap.size w w') := keepHid fun w hE => by
            rw [HDR.out]; exact first_any ch _ (by rw [← HDR.out, List.length_drop, HN.out]; omega) w hE
          have HE1 := keepHid (HE.out.below HX.out.bel (Nat.le_refl _))
          cases hft : firstT (l.drop k) with
          | none =>
            have HR : Hid (cutR l 0 = .error k) := keepHid (by rw [HX.out.cut, HDR.out, cut_none hbl h35 (by rw [← HDR.out]; exact hft)]; rfl)
            have HF' : Hid (∀ w, Errs w → Calls Tryz.prog 38 #[.string (strB (l.drop k))] w fun e w' => e = .returned (.tuple #[.agg #[.int .i64 0, .string ⟨#[]⟩, .int .i64 0, .int .i64 0], .int .i64 0]) ∧ Below w.heap.size w w') := keepHid fun w hE => by
              have := HF.out w hE
              rw [hft] at this
              exact this
            have HWR := keepHid (wrap_any 1 (k : Int))
            have HBX := keepHid HX.out.bel
            generalize (ch.toNat : Int) = cn at *
            generalize strB (l.drop k) = X at *
            clear hch HDR hbl HX hft h35 HF
            go_wp2_with ((with_reducible refine (HB1.out _).mono ?_); rintro e w' ⟨rfl, rfl⟩)
            refine (HF'.out _ HE1.out).mono ?_
            rintro e w2 ⟨rfl, hb2⟩
            have HB3 := keepHid (HBX.out.trans (hb2.mono HBX.out.size))
            have HBA := keepHid ((HB3.out.alloc HB3.out.size (.cells #[.int .i64 0, .string ⟨#[]⟩, .int .i64 0, .int .i64 0] 87)))
            clear hb2
            go_wp2_with (refine (HWR.out _).mono ?_; rintro e w' ⟨rfl, rfl⟩)
            simp only [Exit.jump]
            go_ret2
            exact ⟨.inl ⟨k, HR.out, rfl⟩, HBA.out⟩
          | some x =>
            obtain ⟨t, m⟩ := x
            obtain ⟨m1, m2, m3, m4, m5, m6, m7⟩ := firstT_le hft
            dsimp only at m1 m2
            rw [List.length_drop, HN.out] at m2
            clear m3 m4 m5 m6 m7
            have HCUT : Hid (cutR l 0 = preT (acc ++ [{ t with pos := k }]) (cutR (l.drop (k + m)) (k + m))) := keepHid (by
              rw [HX.out.cut, HDR.out, preT_some acc hbl h35 (by rw [← HDR.out]; exact hft), ← HDR.out, List.drop_drop])
            have HF' : Hid (∀ w, Errs w → Calls Tryz.prog 38 #[.string (strB (l.drop k))] w fun e w' => e = .returned (.tuple #[.agg #[.int .i64 (t.kind : Int), .string (strB t.text), .int .i64 (t.val : Int), .int .i64 (t.pos : Int)], .int .i64 (m : Int)]) ∧ Below w.heap.size w w') := keepHid fun w hE => by
              have := HF.out w hE
              rw [hft] at this
              exact this
            have HZ : Hid (tkA (t.kind : Int) (strB t.text) (t.val : Int) (k : Int) = tkA ({ t with pos := k } : Tk).kind (strB ({ t with pos := k } : Tk).text) ({ t with pos := k } : Tk).val ({ t with pos := k } : Tk).pos) := keepHid rfl
            obtain ⟨zt, hzt⟩ : ∃ zt : Tk, { t with pos := k } = zt := ⟨_, rfl⟩
            rw [hzt] at HZ HCUT
            have hm0 : ((m : Int) == 0) = false := by simp; omega
            generalize (t.kind : Int) = KD at *
            generalize strB t.text = S at *
            generalize (t.val : Int) = VL at *
            generalize (t.pos : Int) = PS at *
            generalize (ch.toNat : Int) = cn at *
            generalize strB (l.drop k) = X at *
            clear hch HDR hbl hft h35 HF hzt
            go_wp2_with ((with_reducible refine (HB1.out _).mono ?_); rintro e w' ⟨rfl, rfl⟩)
            refine (HF'.out _ HE1.out).mono ?_
            rintro e w2 ⟨rfl, hb2⟩
            have HB2 := keepHid (HX.out.bel.trans (hb2.mono HX.out.bel.size))
            have HO2 := keepHid (HX.out.own.below hb2)
            have HLT := keepHid (fun i (hi : (Value.slice A n c).ownBlock = some i) => Nat.lt_of_lt_of_le (HX.out.own.lt hi).2 hb2.size)
            clear hb2
            go_upto_region 12 with (fail)
            obtain ⟨w3, hw3⟩ : ∃ w3, w2.alloc (.cells #[.int .i64 KD, .string S, .int .i64 VL, .int .i64 PS] 87) = w3 := ⟨_, rfl⟩
            rw [hw3]
            have HK3 : Hid (Blk w3 w2.heap.size 87 #[.int .i64 KD, .string S, .int .i64 VL, .int .i64 PS]) := keepHid (by rw [← hw3]; exact Blk.new _ _ _)
            have HB3 : Hid (Below w.heap.size w w3) := keepHid (by rw [← hw3]; exact HB2.out.alloc HB2.out.size _)
            have HO3 : Hid (OwnT w3 w.heap.size (.slice A n c) n acc) := keepHid (by rw [← hw3]; exact HO2.out.alloc _)
            have HS3 : Hid (w.heap.size ≤ w2.heap.size) := keepHid HB2.out.size
            clear hw3 HB2 HO2 HF' HB1
            obtain ⟨a0, a1, a2, a3, af⟩ := blk4 HK3.out
            generalize w2.heap.size = g at *
            go_upto_region 15 with (fail)
            obtain ⟨w4, hw4⟩ : ∃ w4, w3.setCell ⟨g, 3, none⟩ (.int .i64 (k : Int)) = w4 := ⟨_, rfl⟩
            rw [hw4]
            have HK4 : Hid (Blk w4 g 87 #[.int .i64 KD, .string S, .int .i64 VL, .int .i64 (k : Int)]) := keepHid (by rw [← hw4]; exact HK3.out.put 3 _)
            have HB4 : Hid (Below w.heap.size w w4) := keepHid (by rw [← hw4]; exact HB3.out.setCell HS3.out _)
            have HO4 : Hid (OwnT w4 w.heap.size (.slice A n c) n acc) := keepHid (by rw [← hw4]; exact HO3.out.far (p := ⟨g, 3, none⟩) (fun i hi => Nat.ne_of_lt (HLT.out i hi)) _)
            clear hw4 a0 a1 a2 a3 af HK3 HB3 HO3
            obtain ⟨a0, a1, a2, a3, af⟩ := blk4 HK4.out
            have HK5 : Hid (Blk (w4.alloc (.cells #[.int .i64 KD, .string S, .int .i64 VL, .int .i64 (k : Int)] 87)) w4.heap.size 87 (tkA zt.kind (strB zt.text) zt.val zt.pos)) := keepHid (by rw [← HZ.out]; exact Blk.new _ _ _)
            have HO5 := keepHid (HO4.out.alloc (.cells #[.int .i64 KD, .string S, .int .i64 VL, .int .i64 (k : Int)] 87))
            have HB5 := keepHid (HB4.out.alloc HB4.out.size (.cells #[.int .i64 KD, .string S, .int .i64 VL, .int .i64 (k : Int)] 87))
            go_wp2_with (at_builtin; refine wpList_append_tok rfl _ _ rfl w.heap.size (.slice A n c) n acc (by rfl) HO5.out w4.heap.size (by rfl) zt HK5.out (by omega) HB5.out.size ?_)
            intro G cap w6 q1 q2
            have HS6 : Hid (CutS w l (k + m) (.slice (some ⟨G, 0, none⟩) (n + 1) cap) (n + 1) (acc ++ [zt]) w6) := keepHid ⟨q1, HB5.out.trans q2, HCUT.out, by omega⟩
            clear q1 q2 HK5 HO5 HB5 HK4 HB4 HO4 HX HCUT HZ
            go_wp2
            go_step3
            refine ⟨rfl, ⟨k + m, n + 1, some ⟨G, 0, none⟩, cap, _, _, _, _, _, _, _, _, _, _, _, _, _, _, _, _, _, _, _, _, _, _, _, _, _, _, _, _, _, _, _, _, _, _, _, _, _, _, _, _, _, _, _, _, _, _, _, _, _, _, _, _, _, _, rfl, by omega, by rw [HN.out]; omega, HS6⟩, ?_⟩
            simp [cutM, intOf, HN.out]; omega
    · obtain rfl : k = N := by omega
      have HR := keepHid (cuts_ok HX.out (by rw [HN.out]; exact Nat.le_refl _))
      have HK5 : Hid (Blk (wr.alloc (.cells #[.int .i64 0, .string ⟨#[]⟩, .int .i64 0, .int .i64 (k : Int)] 87)) wr.heap.size 87 (tkA ((⟨0, [], 0, k⟩ : Tk).kind : Int) (strB (⟨0, [], 0, k⟩ : Tk).text) ((⟨0, [], 0, k⟩ : Tk).val : Int) ((⟨0, [], 0, k⟩ : Tk).pos : Int))) := keepHid (Blk.new _ _ _)
      have HO5 := keepHid (HX.out.own.alloc (.cells #[.int .i64 0, .string ⟨#[]⟩, .int .i64 0, .int .i64 (k : Int)] 87))
      have HB5 := keepHid (HX.out.bel.alloc HX.out.bel.size (.cells #[.int .i64 0, .string ⟨#[]⟩, .int .i64 0, .int .i64 (k : Int)] 87))
      go_wp2_with (at_builtin; refine wpList_append_tok rfl _ _ rfl w.heap.size (.slice A n c) n acc (by rfl) HO5.out wr.heap.size (by rfl) ⟨0, [], 0, k⟩ HK5.out (by omega) HB5.out.size ?_)
      intro G cap w6 q1 q2
      have HP : Hid (CutPost l w (.returned (.tuple #[.slice (some ⟨G, 0, none⟩) (n + 1) cap, .nilIface])) w6) := keepHid ⟨.inr ⟨_, _, _, _, HR.out, rfl, q1⟩, HB5.out.trans q2⟩
      clear q1 q2 HK5 HO5 HB5 HX HR
      go_wp2
      simp only [Exit.jump]
      go_ret2
      exact HP.out
end Go.Proofs.YtgndcgknedmalaaGreatDoor
