/-
  The tokens of a text, by the law's own reading.
-/
import Derived.Test.YtgokejoieafgiaaDoorTokenOneN
import Derived.Test.YtgokejoieafgiaaDoorTokenCut
namespace Go.Proofs.YtgokejoieafgiaaDoor
open Go.RowKit
set_option linter.unusedVariables false

/-- What the law's cut answers. -/
def CutLPost (l : List UInt8) (w : World) (e : Ending) (w' : World) : Prop :=
  ((∃ p : Nat, p ≤ l.length ∧ cutR l 0 = .error p ∧ e = .returned (.tuple #[.slice none 0 0, .int .i64 (p : Int)])) ∨
   (∃ ts A n c, cutR l 0 = .ok ts ∧ e = .returned (.tuple #[.slice A n c, .int .i64 (-1)]) ∧ OwnT w' w.heap.size (.slice A n c) n ts)) ∧ Below w.heap.size w w'
theorem com_lt : ∀ (r : List UInt8) (j : Nat), j < comN r → ∃ c, r[j]? = some c ∧ c ≠ 10
  | [], j, h => by simp [comN] at h
  | a :: r, j, h => by
    by_cases ha : a = 10
    · subst ha; simp [comN] at h
    · have e : comN (a :: r) = comN r + 1 := by
        unfold comN
        rw [List.takeWhile_cons_of_pos (by simpa using ha)]
        simp
      cases j with
      | zero => exact ⟨a, rfl, ha⟩
      | succ j =>
        obtain ⟨c, h1, h2⟩ := com_lt r j (by omega)
        exact ⟨c, by simpa using h1, h2⟩
theorem com_eq : ∀ (r : List UInt8) (c : UInt8), r[comN r]? = some c → c = 10
  | [], c, h => by simp at h
  | a :: r, c, h => by
    by_cases ha : a = 10
    · subst ha
      have e : comN (10 :: r) = 0 := by unfold comN; rw [List.takeWhile_cons_of_neg (by decide)]; rfl
      rw [e] at h
      simpa using h.symm
    · have e : comN (a :: r) = comN r + 1 := by
        unfold comN
        rw [List.takeWhile_cons_of_pos (by simpa using ha)]
        simp
      rw [e] at h
      exact com_eq r c (by simpa using h)

set_option maxRecDepth 100000 in
set_option maxHeartbeats 8000000 in
theorem cutl_any (l : List UInt8) (hl : l.length ≤ 4096) (w : World) :
    Calls Tryd.prog 12 #[.string (strB l)] w (CutLPost l w) := by
  have hlen : (strB l).size = l.length := strB_size l
  obtain ⟨N, hN⟩ : ∃ N, l.length = N := ⟨_, rfl⟩
  have HN := keepHid hN
  have HS0 : Hid (CutS w l 0 (.slice none 0 0) 0 [] w) := keepHid ⟨OwnT.nil _ _, Below.refl _ _, by rw [List.drop_zero, preT_nil], Nat.le_refl _⟩
  rw [hN] at hlen hl
  clear hN
  go_enter Tryd.func12, Tryd.ntmps12
  go_wp2
  go_loopw [4, 5] (fun ov av wr => ∃ (k n : Nat) (A : Option Addr) (c : Nat) (acc : List Tk), ov = .slice A n c ∧ av = .int .i64 (k : Int) ∧ k ≤ N ∧ Hid (CutS w l k (.slice A n c) n acc wr)) (fun _ av _ => N - (intOf av).toNat)
  case atStart => exact ⟨0, 0, none, 0, [], rfl, rfl, Nat.zero_le _, HS0⟩
  case round =>
    obtain ⟨k, n, A, c, acc, rfl, rfl, hk, HX⟩ := hrel
    generalize wr = wq at *
    have hnk := HX.out.len
    by_cases hkN : k < N
    · obtain ⟨ch, hch⟩ : ∃ ch, l[k]? = some ch := ⟨_, List.getElem?_eq_getElem (by rw [HN.out]; exact hkN)⟩
      have hidx := fun w => run_idx hch (k : Int) rfl w
      have HDR : Hid (l.drop k = ch :: l.drop (k + 1)) := keepHid (drop_at hch)
      have hkI : (k : Int) < (N : Int) := by omega
      have HB1 : Hid (∀ w, Calls Tryd.prog 22 #[.int .u8 (ch.toNat : Int), .string ⟨#[32, 9, 10]⟩] w fun e w' => e = .returned (.bool (blankL.contains ch)) ∧ w' = w) := keepHid (in_any blankL ch (by decide))
      have hfrom : ∀ w, (Instr.slice 9 (.string (strB l)) (some (.int .i64 (k : Int))) none none).run Tryd.prog w = .ok (.string (strB (l.drop k))) w := fun w => run_from (k := k) (by rw [HN.out]; omega) _ rfl w
      cases hbl : blankL.contains ch with
      | true =>
        rw [hbl] at HB1
        have HS1 : Hid (CutS w l (k + 1) (.slice A n c) n acc wq) := keepHid ⟨HX.out.own, HX.out.bel, by rw [HX.out.cut, HDR.out, cut_blank hbl], by omega⟩
        generalize (ch.toNat : Int) = cn at *
        clear hch HDR hbl hfrom HX
        go_wp2_with ((with_reducible refine (HB1.out _).mono ?_); rintro e w' ⟨rfl, rfl⟩)
        go_roundw
        case rel => exact ⟨k + 1, n, A, c, acc, rfl, by go_num, by omega, HS1⟩
        case measure => simp [intOf]; omega
      | false =>
        rw [hbl] at HB1
        by_cases h35 : ch = 35
        · subst h35
          have hidx' : ∀ w, (Instr.index 9 (.string (strB l)) (.int .i64 (k : Int))).run Tryd.prog w = .ok (.int .u8 35) w := hidx
          have HB2 : Hid (∀ w, Calls Tryd.prog 22 #[.int .u8 35, .string ⟨#[32, 9, 10]⟩] w fun e w' => e = .returned (.bool false) ∧ w' = w) := keepHid HB1.out
          have hcl := comN_le (l.drop k)
          have hcp : 1 ≤ comN (l.drop k) := by rw [HDR.out]; exact comN_pos _
          rw [List.length_drop, HN.out] at hcl
          have HCL : Hid (∀ j, j < comN (l.drop k) → ∃ d, l[k + j]? = some d ∧ d ≠ 10) := keepHid fun j hj => by
            obtain ⟨d, h1, h2⟩ := com_lt _ j hj
            exact ⟨d, by rw [List.getElem?_drop] at h1; exact h1, h2⟩
          have HCE : Hid (∀ d, l[k + comN (l.drop k)]? = some d → d = 10) := keepHid fun d hd => com_eq (l.drop k) d (by rw [List.getElem?_drop]; exact hd)
          have HS1 : Hid (CutS w l (k + comN (l.drop k)) (.slice A n c) n acc wq) := keepHid ⟨HX.out.own, HX.out.bel, by rw [HX.out.cut, HDR.out, cut_com, ← HDR.out, drop_comN], by omega⟩
          generalize comN (l.drop k) = m at *
          clear hch HDR hbl HX hidx HB1 hfrom
          go_wp2_with ((with_reducible refine (HB2.out _).mono ?_); rintro e w' ⟨rfl, rfl⟩)
          go_loop [5] (fun av => ∃ j : Nat, av = .int .i64 ((k + j : Nat) : Int) ∧ j ≤ m) (fun av => N - (intOf av).toNat)
          case atStart => exact ⟨0, rfl, Nat.zero_le _⟩
          case round =>
            obtain ⟨j, rfl, hj⟩ := hrel
            obtain ⟨q, hq⟩ : ∃ q, k + j = q := ⟨_, rfl⟩
            rw [hq]
            by_cases hjm : j < m
            · obtain ⟨d, hd, hd10⟩ := HCL.out j hjm
              rw [hq] at hd
              have hix := fun w => run_idx hd (q : Int) rfl w
              have hqI : (q : Int) < (N : Int) := by have := (List.getElem?_eq_some_iff.1 hd).1; rw [HN.out] at this; omega
              have hd1 : ((d.toNat : Int) != 10) = true := by
                have : d.toNat ≠ 10 := fun h => hd10 (UInt8.toNat_inj.1 h)
                simp; omega
              generalize (d.toNat : Int) = dn at *
              clear hd hd10
              go_wp2
              go_round
              case rel => exact ⟨j + 1, by go_num, by omega⟩
              case measure => simp [intOf]; omega
            · obtain rfl : j = m := by omega
              have HS2 : Hid (CutS w l q (.slice A n c) n acc w') := keepHid (by rw [← hq]; exact HS1.out)
              have hkq : k < q := by omega
              by_cases hqN : q < N
              · obtain ⟨d, hd⟩ : ∃ d, l[q]? = some d := ⟨_, List.getElem?_eq_getElem (by rw [HN.out]; exact hqN)⟩
                have hd10 := HCE.out d (by rw [hq]; exact hd)
                subst hd10
                have hix : ∀ w, (Instr.index 9 (.string (strB l)) (.int .i64 (q : Int))).run Tryd.prog w = .ok (.int .u8 10) w := fun w => run_idx hd (q : Int) rfl w
                have hqI : (q : Int) < (N : Int) := by omega
                clear hd HS1
                go_wp2
                go_roundw
                case rel => exact ⟨q, n, A, c, acc, rfl, rfl, by omega, HS2⟩
                case measure => simp [intOf]; omega
              · have hqI : ¬ (q : Int) < (N : Int) := by omega
                have hqe : q ≤ N := by omega
                clear HS1
                go_wp2
                go_roundw
                case rel => exact ⟨q, n, A, c, acc, rfl, rfl, by omega, HS2⟩
                case measure => simp [intOf]; omega
        · have e35 : ((ch.toNat : Int) == 35) = false := by
            have : ch.toNat ≠ 35 := fun h => h35 (UInt8.toNat_inj.1 h)
            simp; omega
          have HF : Hid (∀ w, Calls Tryd.prog 23 #[.string (strB (l.drop k))] w fun e w' => e = .returned (resV (firstT (l.drop k))) ∧ Below w.heap.size w w') := keepHid fun w => by
            rw [HDR.out]; exact one_any ch _ (by rw [← HDR.out, List.length_drop, HN.out]; omega) w
          cases hft : firstT (l.drop k) with
          | none =>
            have HR : Hid (cutR l 0 = .error k) := keepHid (by rw [HX.out.cut, HDR.out, cut_none hbl h35 (by rw [← HDR.out]; exact hft)]; rfl)
            have HF' : Hid (∀ w, Calls Tryd.prog 23 #[.string (strB (l.drop k))] w fun e w' => e = .returned (.tuple #[.agg #[.int .i64 0, .string ⟨#[]⟩, .int .i64 0, .int .i64 0], .int .i64 0]) ∧ Below w.heap.size w w') := keepHid fun w => by
              have := HF.out w
              rw [hft] at this
              exact this
            have HBX := keepHid HX.out.bel
            generalize (ch.toNat : Int) = cn at *
            generalize strB (l.drop k) = X at *
            clear hch HDR hbl HX hft h35 HF
            go_wp2_with ((with_reducible refine (HB1.out _).mono ?_); rintro e w' ⟨rfl, rfl⟩)
            refine (HF'.out _).mono ?_
            rintro e w2 ⟨rfl, hb2⟩
            have HB3 := keepHid (HBX.out.trans (hb2.mono HBX.out.size))
            have HBA := keepHid ((HB3.out.alloc HB3.out.size (.cells #[.int .i64 0, .string ⟨#[]⟩, .int .i64 0, .int .i64 0] 36)))
            clear hb2
            go_wp2
            go_ret2
            exact ⟨.inl ⟨k, by rw [HN.out]; omega, HR.out, rfl⟩, HBA.out⟩
          | some x =>
            obtain ⟨t, m⟩ := x
            obtain ⟨m1, m2, m3, m4, m5, m6, m7⟩ := firstT_le hft
            dsimp only at m1 m2
            rw [List.length_drop, HN.out] at m2
            clear m3 m4 m5 m6 m7
            have HCUT : Hid (cutR l 0 = preT (acc ++ [{ t with pos := k }]) (cutR (l.drop (k + m)) (k + m))) := keepHid (by
              rw [HX.out.cut, HDR.out, preT_some acc hbl h35 (by rw [← HDR.out]; exact hft), ← HDR.out, List.drop_drop])
            have HF' : Hid (∀ w, Calls Tryd.prog 23 #[.string (strB (l.drop k))] w fun e w' => e = .returned (.tuple #[.agg #[.int .i64 (t.kind : Int), .string (strB t.text), .int .i64 (t.val : Int), .int .i64 (t.pos : Int)], .int .i64 (m : Int)]) ∧ Below w.heap.size w w') := keepHid fun w => by
              have := HF.out w
              rw [hft] at this
              exact this
            have HZ : Hid (tkA (t.kind : Int) (strB t.text) (t.val : Int) (k : Int) = tkA ({ t with pos := k } : Tk).kind (strB ({ t with pos := k } : Tk).text) ({ t with pos := k } : Tk).val ({ t with pos := k } : Tk).pos) := keepHid rfl
            obtain ⟨zt, hzt⟩ : ∃ zt : Tk, { t with pos := k } = zt := ⟨_, rfl⟩
            rw [hzt] at HZ HCUT
            have hm0 : ((m : Int) == 0) = false := by simp; omega
            generalize (t.kind : Int) = KD at *
            generalize strB t.text = S at *
            generalize (t.val : Int) = VL at *
            generalize (t.pos : Int) = PS at *
            generalize (ch.toNat : Int) = cn at *
            generalize strB (l.drop k) = X at *
            clear hch HDR hbl hft h35 HF hzt
            go_wp2_with ((with_reducible refine (HB1.out _).mono ?_); rintro e w' ⟨rfl, rfl⟩)
            refine (HF'.out _).mono ?_
            rintro e w2 ⟨rfl, hb2⟩
            have HB2 := keepHid (HX.out.bel.trans (hb2.mono HX.out.bel.size))
            have HO2 := keepHid (HX.out.own.below hb2)
            have HLT := keepHid (fun i (hi : (Value.slice A n c).ownBlock = some i) => Nat.lt_of_lt_of_le (HX.out.own.lt hi).2 hb2.size)
            clear hb2
            go_upto_region 5 with (fail)
            obtain ⟨w3, hw3⟩ : ∃ w3, w2.alloc (.cells #[.int .i64 KD, .string S, .int .i64 VL, .int .i64 PS] 36) = w3 := ⟨_, rfl⟩
            rw [hw3]
            have HK3 : Hid (Blk w3 w2.heap.size 36 #[.int .i64 KD, .string S, .int .i64 VL, .int .i64 PS]) := keepHid (by rw [← hw3]; exact Blk.new _ _ _)
            have HB3 : Hid (Below w.heap.size w w3) := keepHid (by rw [← hw3]; exact HB2.out.alloc HB2.out.size _)
            have HO3 : Hid (OwnT w3 w.heap.size (.slice A n c) n acc) := keepHid (by rw [← hw3]; exact HO2.out.alloc _)
            have HS3 : Hid (w.heap.size ≤ w2.heap.size) := keepHid HB2.out.size
            clear hw3 HB2 HO2 HF' HB1
            obtain ⟨a0, a1, a2, a3, af⟩ := blk4 HK3.out
            generalize w2.heap.size = g at *
            go_upto_region 8 with (fail)
            obtain ⟨w4, hw4⟩ : ∃ w4, w3.setCell ⟨g, 3, none⟩ (.int .i64 (k : Int)) = w4 := ⟨_, rfl⟩
            rw [hw4]
            have HK4 : Hid (Blk w4 g 36 #[.int .i64 KD, .string S, .int .i64 VL, .int .i64 (k : Int)]) := keepHid (by rw [← hw4]; exact HK3.out.put 3 _)
            have HB4 : Hid (Below w.heap.size w w4) := keepHid (by rw [← hw4]; exact HB3.out.setCell HS3.out _)
            have HO4 : Hid (OwnT w4 w.heap.size (.slice A n c) n acc) := keepHid (by rw [← hw4]; exact HO3.out.far (p := ⟨g, 3, none⟩) (fun i hi => Nat.ne_of_lt (HLT.out i hi)) _)
            clear hw4 a0 a1 a2 a3 af HK3 HB3 HO3
            obtain ⟨a0, a1, a2, a3, af⟩ := blk4 HK4.out
            have HK5 : Hid (Blk (w4.alloc (.cells #[.int .i64 KD, .string S, .int .i64 VL, .int .i64 (k : Int)] 36)) w4.heap.size 36 (tkA zt.kind (strB zt.text) zt.val zt.pos)) := keepHid (by rw [← HZ.out]; exact Blk.new _ _ _)
            have HO5 := keepHid (HO4.out.alloc (.cells #[.int .i64 KD, .string S, .int .i64 VL, .int .i64 (k : Int)] 36))
            have HB5 := keepHid (HB4.out.alloc HB4.out.size (.cells #[.int .i64 KD, .string S, .int .i64 VL, .int .i64 (k : Int)] 36))
            go_wp2_with (at_builtin; refine wpList_append_tok rfl _ _ rfl w.heap.size (.slice A n c) n acc (by rfl) HO5.out w4.heap.size (by rfl) zt HK5.out (by omega) HB5.out.size ?_)
            intro G cap w6 q1 q2
            have HS6 : Hid (CutS w l (k + m) (.slice (some ⟨G, 0, none⟩) (n + 1) cap) (n + 1) (acc ++ [zt]) w6) := keepHid ⟨q1, HB5.out.trans q2, HCUT.out, by omega⟩
            clear q1 q2 HK5 HO5 HB5 HK4 HB4 HO4 HX HCUT HZ
            go_wp2
            go_roundw
            case rel => exact ⟨k + m, n + 1, _, cap, _, rfl, by go_num, by omega, HS6⟩
            case measure => simp [intOf]; omega
    · obtain rfl : k = N := by omega
      have HR := keepHid (cuts_ok HX.out (by rw [HN.out]; exact Nat.le_refl _))
      have HK5 : Hid (Blk (wq.alloc (.cells #[.int .i64 0, .string ⟨#[]⟩, .int .i64 0, .int .i64 (k : Int)] 36)) wq.heap.size 36 (tkA ((⟨0, [], 0, k⟩ : Tk).kind : Int) (strB (⟨0, [], 0, k⟩ : Tk).text) ((⟨0, [], 0, k⟩ : Tk).val : Int) ((⟨0, [], 0, k⟩ : Tk).pos : Int))) := keepHid (Blk.new _ _ _)
      have HO5 := keepHid (HX.out.own.alloc (.cells #[.int .i64 0, .string ⟨#[]⟩, .int .i64 0, .int .i64 (k : Int)] 36))
      have HB5 := keepHid (HX.out.bel.alloc HX.out.bel.size (.cells #[.int .i64 0, .string ⟨#[]⟩, .int .i64 0, .int .i64 (k : Int)] 36))
      go_wp2_with (at_builtin; refine wpList_append_tok rfl _ _ rfl w.heap.size (.slice A n c) n acc (by rfl) HO5.out wq.heap.size (by rfl) ⟨0, [], 0, k⟩ HK5.out (by omega) HB5.out.size ?_)
      intro G cap w6 q1 q2
      have HP : Hid (CutLPost l w (.returned (.tuple #[.slice (some ⟨G, 0, none⟩) (n + 1) cap, .int .i64 (-1)])) w6) := keepHid ⟨.inr ⟨_, _, _, _, HR.out, rfl, q1⟩, HB5.out.trans q2⟩
      clear q1 q2 HK5 HO5 HB5 HX HR
      go_wp2
      go_ret2
      exact HP.out
end Go.Proofs.YtgokejoieafgiaaDoor
