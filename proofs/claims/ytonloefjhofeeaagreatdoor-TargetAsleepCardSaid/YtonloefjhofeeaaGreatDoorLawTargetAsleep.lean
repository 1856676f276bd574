/-
  'lifelinelaw20.TargetAsleep' answers true for every input of the row, and leaves its arguments as they were.
  Conditions: the package-level variables that the row lists lie as the program's own text lays them (the card ties them to it; what is pinned is a constant of the library's).
-/
import Derived.Test.YtonloefjhofeeaaGreatDoorRows
import Derived.Test.YtonloefjhofeeaaGreatDoorBoardHex
import Derived.Test.YtonloefjhofeeaaGreatDoorFrameTwo
import Derived.Test.YtonloefjhofeeaaGreatDoorConv
import Derived.Test.YtonloefjhofeeaaGreatDoorFrame
import Derived.Test.YtonloefjhofeeaaGreatDoorFrameBoard
import Derived.Test.YtonloefjhofeeaaGreatDoorCards
import Derived.WalkKit
import Derived.ProofKit
import Derived.OpenShut
import Derived.ShutString
import Derived.ChangeOld
import Derived.Below
namespace Go.Proofs.YtonloefjhofeeaaGreatDoor.targetAsleep
open Go.ChangeShapes Go.WideShapes Go.ChangeAt Go.RowKit
open Go.ChangeMaps (open_string shut_string)
set_option linter.unusedVariables false

theorem own : ownKnob Tryz.prog.godebug = none := by kernel_rfl
theorem laidOut : laidOutB Tryz.prog = true := by kernel_rfl


theorem feed_linex {p : BP Fl} (l r : List UInt8) (hl : ∀ c ∈ l, c ≠ 13) : ∀ {s : Bd}, s.aw = true → s.ld = .non → s.ln.length ≤ 80 → feed20 p s (l ++ r) = feed20 p { s with ln := (s.ln ++ l).take 80 } r := by
  induction l with
  | nil =>
    intro s _ _ h
    obtain ⟨aw, ln, ld, ad, rp, st⟩ := s
    have : ln.take 80 = ln := List.take_of_length_le h
    simp [this]
  | cons c l ih =>
    intro s ha hn hs
    show feed20 p s (c :: (l ++ r)) = _
    by_cases hlt : s.ln.length < 80
    · rw [feed_take hn, take_byte ha (hl c (by simp)) hlt]
      simp only [List.nil_append]
      rw [ih (fun x hx => hl x (by simp [hx])) (s := { s with ln := s.ln ++ [c] }) ha hn (by simp only [List.length_append, List.length_singleton]; omega)]
      simp
    · rw [feed_take hn, take_lost ha (hl c (by simp)) hlt]
      simp only [List.nil_append]
      rw [ih (fun x hx => hl x (by simp [hx])) ha hn hs]
      have h1 : (s.ln ++ l).take 80 = s.ln := by rw [List.take_append_of_le_length (by omega), List.take_of_length_le (by omega)]
      have h2 : (s.ln ++ c :: l).take 80 = s.ln := by rw [List.take_append_of_le_length (by omega), List.take_of_length_le (by omega)]
      rw [h1, h2]
theorem feed_query {p : BP Fl} (l : List UInt8) (hl : ∀ c ∈ l, c ≠ 13) : feed20 p aw20 ((63 :: l) ++ [13]) = (noL, aw20) := by
  have h13 : ∀ c ∈ (63 :: l), c ≠ 13 := fun c hc => by
    rcases List.mem_cons.1 hc with rfl | hc
    · decide
    · exact hl c hc
  rw [feed_linex (63 :: l) [13] h13 (s := aw20) rfl rfl (by show 0 ≤ 80; omega)]
  have h1 : (aw20.ln ++ 63 :: l).take 80 = 63 :: l.take 79 := rfl
  rw [h1]
  have ht : take20 p { aw20 with ln := 63 :: l.take 79 } 13 = (noL, aw20) := by
    rw [take_cr rfl]
    exact exec_query (l.take 79)
  rw [feed_take rfl, ht]
  have : feed20 p aw20 [] = ([], aw20) := feed_nil rfl
  rw [this, List.append_nil]
def AsI (s : Bd) (n : Nat) (rest : List UInt8) : Prop :=
  s.ld = .non ∧ s.rp = [] ∧ s.aw = true ∧ ((n = 0 ∧ ∃ r, rest = r ++ [13] ∧ (∀ c ∈ r, c ≠ 13) ∧ (s.ln.head? = some 63 ∨ (s.ln = [] ∧ r.head? = some 63))) ∨ (rest = [] ∧ n ≤ 64))
theorem asI_zero (l : List UInt8) (hl : ∀ c ∈ l, c ≠ 13) : AsI aw20 0 ((63 :: l) ++ [13]) :=
  ⟨rfl, rfl, rfl, .inl ⟨rfl, 63 :: l, rfl, fun c hc => by
    rcases List.mem_cons.1 hc with rfl | hc
    · decide
    · exact hl c hc, .inr ⟨rfl, rfl⟩⟩⟩
theorem asI_step {p : BP Fl} (s : Bd) (n : Nat) (c : UInt8) (rest : List UInt8) (h : AsI s n (c :: rest)) : AsI (take20 p s c).2 (n + (take20 p s c).1.length) rest := by
  obtain ⟨h1, h2, h3, ⟨rfl, r, hr, hno, hh⟩ | ⟨e, _⟩⟩ := h
  · cases r with
    | nil =>
      have hr' : c :: rest = [13] := hr
      injection hr' with e1 e2
      subst e1 e2
      have hhd : s.ln.head? = some 63 := by
        rcases hh with hh | ⟨_, hh⟩
        · exact hh
        · simp at hh
      obtain ⟨q, hq⟩ : ∃ q, s.ln = 63 :: q := by
        cases hl : s.ln with
        | nil => rw [hl] at hhd; simp at hhd
        | cons a q => rw [hl] at hhd; simp at hhd; exact ⟨q, by rw [hhd]⟩
      rw [take_cr h3, hq, exec_query]
      exact ⟨h1, h2, h3, .inr ⟨rfl, by show 0 + 6 ≤ 64; omega⟩⟩
    | cons a r =>
      have hr' : c :: rest = a :: (r ++ [13]) := hr
      injection hr' with e1 e2
      subst e1 e2
      have hc : c ≠ 13 := hno c (by simp)
      by_cases hlt : s.ln.length < 80
      · rw [take_byte h3 hc hlt]
        refine ⟨h1, h2, h3, .inl ⟨rfl, r, rfl, fun x hx => hno x (by simp [hx]), .inl ?_⟩⟩
        show (s.ln ++ [c]).head? = some 63
        rcases hh with hh | ⟨hl, hh⟩
        · cases hl : s.ln with
          | nil => rw [hl] at hh; simp at hh
          | cons b q => rw [hl] at hh; simpa using hh
        · rw [hl]; simpa using hh
      · rw [take_lost h3 hc hlt]
        refine ⟨h1, h2, h3, .inl ⟨rfl, r, rfl, fun x hx => hno x (by simp [hx]), .inl ?_⟩⟩
        rcases hh with hh | ⟨hl, hh⟩
        · exact hh
        · rw [hl] at hlt; simp at hlt
  · cases e
theorem asI_bound (s : Bd) (n : Nat) (rest : List UInt8) (h : AsI s n rest) : n ≤ 100000000000 ∧ (s.ld ≠ .non → rest.length ≤ 400000000) ∧ s.rp.length ≤ 1000000000 := by
  obtain ⟨h1, h2, h3, h4⟩ := h
  refine ⟨?_, fun hn => absurd h1 hn, by rw [h2]; simp⟩
  rcases h4 with ⟨h, _⟩ | ⟨_, h⟩ <;> omega
/-- What of the bytes is no end. -/
def noEnd (b : List UInt8) : List UInt8 := b.filter fun c => decide (c ≠ 13)
theorem noEnd_no (b : List UInt8) : ∀ c ∈ noEnd b, c ≠ 13 := fun c hc => of_decide_eq_true (List.mem_filter.1 hc).2
theorem noEnd_le (b : List UInt8) : (noEnd b).length ≤ b.length := List.length_filter_le _ _
theorem noEnd_take {b : List UInt8} {k : Nat} {c : UInt8} (h : b[k]? = some c) : noEnd (b.take (k + 1)) = noEnd (b.take k) ++ (if c = 13 then [] else [c]) := by
  rw [List.take_succ_of h]
  unfold noEnd
  rw [List.filter_append]
  congr 1
  by_cases hc : c = 13
  · simp [hc]
  · simp [hc]
theorem tgt_bel {w0 w w' : World} {G : Nat} {κ : Nat → Nat} {p : BP Fl} {z1 z2 : Int} {s : Bd} (h : Tgt w0 w' G κ p z1 z2 s) : Below w0.heap.size w0 w' := h.base.bel
set_option maxRecDepth 100000 in
set_option maxHeartbeats 8000000 in
theorem walk (y0 z0 : Int) (x1 : Int) (x2 : Int) (a3 : Option Addr) (n3 c3 : Nat) (b3 : List UInt8) (w : World) (hS : Sup w) (h0 : -9223372036854775808 ≤ y0 ∧ y0 ≤ 9223372036854775807) (g0 : -9223372036854775808 ≤ z0 ∧ z0 ≤ 9223372036854775807) (h1 : 0 ≤ x1 ∧ x1 ≤ 255) (h2 : 0 ≤ x2 ∧ x2 ≤ 255) (h3 : Bys w w.heap.size a3 n3 b3) (l3 : n3 ≤ c3) (s3 : c3 ≤ 140737488351232) :
    Calls Tryz.prog 8 #[.agg #[.int .i64 y0, .int .i64 z0], .int .u8 x1, .int .u8 x2, .slice a3 n3 c3] w fun e w' => e = .returned (.bool true) ∧ Below w.heap.size w w' := by
  obtain ⟨p, hp, hT, hW⟩ := bp_ex y0 z0
  have HP := keepHid hp
  obtain ⟨T, hTT⟩ : ∃ T : Nat, x1 % 20 = (T : Int) ∧ T < 20 := ⟨(x1 % 20).toNat, by omega, by omega⟩
  obtain ⟨hTT, hT20⟩ := hTT
  have hrem : Int.tmod x1 20 = (T : Int) := by rw [Int.tmod_eq_emod_of_nonneg (by omega)]; exact hTT
  have hwT : IntKind.i64.wrap (T : Int) = (T : Int) := by rw [IntKind.wrap_i64]; omega
  obtain ⟨cx, hcx⟩ : ∃ cx : UInt8, x2 = (cx.toNat : Int) := ⟨UInt8.ofNat x2.toNat, by simp; omega⟩
  subst hcx
  have HB3 := keepHid h3
  have HCX : Hid ((1 : Int) = 1) := keepHid rfl
  obtain ⟨w1, hw1⟩ : ∃ w1, w.alloc (.cells #[.int .i64 y0, .int .i64 z0] 23) = w1 := ⟨_, rfl⟩
  have hb1 : Below w.heap.size w w1 := by rw [← hw1]; exact (Below.refl _ _).alloc (Nat.le_refl _) _
  have hk1 : Blk w1 w.heap.size 23 #[.int .i64 y0, .int .i64 z0] := by rw [← hw1]; exact Blk.new w _ _
  have HAW := keepHid (awake_any20 w1 (hS.below hb1 (Nat.le_refl _)))
  have HST : Hid (∀ wx, Below w.heap.size w wx → Stan w wx p y0 z0) := keepHid (fun wx hx => ⟨hx, hS, hT, hW⟩)
  have HB1 := keepHid hb1
  have HK1 := keepHid hk1
  clear hT hW hS hp hb1 hk1 h0 g0 h1 h2 h3 hTT
  go_enter Tryz.func8, Tryz.ntmps8
  go_wp2_with fail
  try rw [hw1]
  clear hw1
  refine HAW.out.mono ?_
  rintro e w2 ⟨rfl, hb2⟩
  have hk2 := HK1.out.below hb2 HK1.out.lt
  have d0 : w2.cell? ⟨w.heap.size, 0, none⟩ = some (.int .i64 y0) := hk2.cell 0
  have d1 : w2.cell? ⟨w.heap.size, 1, none⟩ = some (.int .i64 z0) := hk2.cell 1
  have HOF := keepHid (of_any20 (HST.out w2 (HB1.out.trans (hb2.mono HB1.out.size))))
  clear hb2 hk2 HAW HK1 HB1
  go_wp2_with fail
  refine HOF.out.mono ?_
  rintro e w3 ⟨G, κ3, rfl, hT3, hb3, _⟩
  have HT3 : Hid (∃ κ, Tgt w w3 G κ p y0 z0 new20) := keepHid ⟨κ3, hT3⟩
  clear hT3 hb3 HOF d0 d1
  have HTICK : Hid (∀ wr κ, Tgt w wr G κ p y0 z0 new20 → Calls Tryz.prog 13 #[.pointer (some ⟨G, 0, none⟩)] wr (LawR w G κ p y0 z0 [] 0 new20 wr)) := keepHid (fun wr κ h => (show Calls Tryz.prog 13 #[ptV G] wr _ from ttick_any HP.out h ⟨0, 0, trivial, by omega, by omega⟩ (by show 0 < 4294967296; omega)).mono fun e w' hh => hh.law (tick_non rfl) 0 rfl (by omega))
  have HPUT : Hid (∀ wr κ, Tgt w wr G κ p y0 z0 new20 → Calls Tryz.prog 16 #[.pointer (some ⟨G, 0, none⟩), .slice none 0 0] wr (LawR w G κ p y0 z0 [] 0 new20 wr)) := keepHid (fun wr κ h => put_lit HP.out h new_ok (by omega) (by omega) none 0 0 [] ⟨Bys.none_, fun ad e _ => by cases e⟩ (by omega) (Nat.le_refl _) (by omega) (by show 0 + 0 ≤ 1000000000; omega) [] new20 (feed_nil rfl) 0 rfl (by omega))
  have HLD : Hid (∀ wr κ s, s.ld = .non → Tgt w wr G κ p y0 z0 s → Calls Tryz.prog 26 #[.pointer (some ⟨G, 0, none⟩)] wr fun e w' => e = .returned (.bool false) ∧ wr = w') := keepHid (fun wr κ s hs h => (show Calls Tryz.prog 26 #[ptV G] wr _ from loads_any h).mono fun e w' hh => ⟨by rw [hh.1, hs]; rfl, hh.2⟩)
  unfold ptV
  go_wp2_with fail
  go_loopw [10] (fun i wr => ∃ k : Nat, k ≤ T ∧ i = .int .i64 (k : Int) ∧ Hid (∃ κ, Tgt w wr G κ p y0 z0 new20)) (fun i _ => T - (intOf i).toNat)
  case atStart => exact ⟨0, Nat.zero_le _, rfl, HT3⟩
  case round =>
    clear HT3
    obtain ⟨k, hk, rfl, HTR⟩ := hrel
    by_cases hkT : k < T
    · have hkI : (k : Int) < (T : Int) := by omega
      obtain ⟨κr, hTr⟩ := HTR.out
      have HT1 := keepHid (HTICK.out wr κr hTr)
      clear hTr HTR
      go_wp2_with fail
      refine HT1.out.mono ?_
      rintro e w5 ⟨A5, c5, κ5, rfl, hf5, hT5, ht5, hk5, hc51, hc52⟩
      have HT2 := keepHid (HPUT.out w5 κ5 hT5)
      clear hf5 hT5 ht5 hk5 hc51 hc52 HT1
      go_wp2_with fail
      refine HT2.out.mono ?_
      rintro e w6 ⟨A6, c6, κ6, rfl, hf6, hT6, ht6, hk6, hc61, hc62⟩
      have HT3 := keepHid (HLD.out w6 κ6 new20 rfl hT6)
      have HT6 : Hid (∃ κ, Tgt w w6 G κ p y0 z0 new20) := keepHid ⟨κ6, hT6⟩
      clear hf6 hT6 ht6 hk6 hc61 hc62 HT2
      go_wp2_with fail
      refine HT3.out.mono ?_
      rintro e w7 ⟨rfl, rfl⟩
      clear HT3
      go_wp2
      go_roundw
      case rel => exact ⟨k + 1, by omega, by go_num, HT6⟩
      case measure => simp [intOf]; omega
    · obtain rfl : k = T := by omega
      obtain ⟨κr, hTr⟩ := HTR.out
      obtain ⟨w4, hw4⟩ : ∃ w4, wr.alloc (.cells #[.int .u8 (cx.toNat : Int)] 5) = w4 := ⟨_, rfl⟩
      have hb4 : Below wr.heap.size wr w4 := by rw [← hw4]; exact (Below.refl _ _).alloc (Nat.le_refl _) _
      have hf4 : Fre w4 κr (some ⟨wr.heap.size, 0, none⟩) 1 [cx] := by rw [← hw4]; exact Fre.new hTr [cx] 1 rfl (by omega) _ rfl
      have HPX := keepHid (put_lit HP.out (hTr.below hb4) new_ok (by omega) (by omega) _ 1 1 [cx] hf4 (by omega) (Nat.le_refl _) (by omega) (by show 0 + 1 ≤ 1000000000; omega) readyL aw20 (feed_wake cx rfl rfl) 5 rfl (by omega))
      generalize (cx.toNat : Int) = cxi at *
      clear hTr hb4 hf4 HTR HTICK HPUT hk
      go_wp2_with fail
      try rw [hw4]
      clear hw4
      refine HPX.out.mono ?_
      rintro e w5 ⟨A5, c5, κ5, rfl, hf5, hT5, ht5, hk5, hc51, hc52⟩
      have cv5 := hf5.str c5
      have hq5 : ((strB readyL).toList == [13, 10, 61, 62, 32]) = true := by rw [strB_toList]; rfl
      have HL5 := keepHid (HLD.out w5 κ5 aw20 rfl hT5)
      have HT5 : Hid (∃ κ, Tgt w w5 G κ p y0 z0 aw20) := keepHid ⟨κ5, hT5⟩
      generalize strB readyL = KR at *
      clear hf5 hT5 ht5 hk5 hc51 hc52 HPX hkT
      go_wp2_with fail
      refine HL5.out.mono ?_
      rintro e w6 ⟨rfl, rfl⟩
      clear HL5 cv5 hq5
      have HQ0 : Hid (ByteArray.mk #[63] = strB (63 :: noEnd (b3.take 0))) := keepHid rfl
      go_wp2_with fail
      go_loopw [52, 11] (fun i v wr => ∃ k : Nat, k ≤ n3 ∧ i = .int .i64 (k : Int) ∧ v = .string (strB (63 :: noEnd (b3.take k))) ∧ Hid (∃ κ, Tgt w wr G κ p y0 z0 aw20)) (fun i _ _ => n3 - (intOf i).toNat)
      case atStart => exact ⟨0, Nat.zero_le _, rfl, by rw [← HQ0.out], HT5⟩
      case round =>
        clear HT5 HQ0
        obtain ⟨k2, hk2, rfl, rfl, HTR⟩ := hrel
        skip
        obtain ⟨κr, hTr⟩ := HTR.out
        by_cases hk3 : k2 < n3
        · have hkI : (k2 : Int) < (n3 : Int) := by omega
          obtain ⟨ad, c, had, _, hx, hcell⟩ := (HB3.out.below hTr.base.bel).at_ hk3
          subst had
          have hnt := noEnd_take hx
          have hlen : (63 :: noEnd (b3.take k2)).length ≤ 140737488351233 := by
            have h1 := noEnd_le (b3.take k2)
            have h2 : (b3.take k2).length ≤ k2 := List.length_take_le _ _
            simp only [List.length_cons]
            omega
          by_cases hc : c = 13
          · subst hc
            have HN : Hid (strB (63 :: noEnd (b3.take k2)) = strB (63 :: noEnd (b3.take (k2 + 1)))) := keepHid (by rw [hnt, if_pos rfl, List.append_nil])
            rw [show (((13 : UInt8).toNat : Nat) : Int) = 13 from rfl] at hcell
            generalize strB (63 :: noEnd (b3.take k2)) = LS at *
            clear hnt hlen hx hTr
            go_wp2
            go_roundw
            case rel => exact ⟨k2 + 1, by omega, by go_num, by rw [← HN.out], HTR⟩
            case measure => simp [intOf]; omega
          · have hq : ((c.toNat : Int) == 13) = false := by simpa using u8_ne (c := c) (d := 13) hc
            have hq2 : ¬ (c.toNat : Int) = 13 := by simpa using hq
            obtain ⟨w4, hw4⟩ : ∃ w4, wr.alloc (.cells #[.int .u8 (c.toNat : Int)] 5) = w4 := ⟨_, rfl⟩
            have hb4 : Below wr.heap.size wr w4 := by rw [← hw4]; exact (Below.refl _ _).alloc (Nat.le_refl _) _
            have hf4 : Fre w4 κr (some ⟨wr.heap.size, 0, none⟩) 1 [c] := by rw [← hw4]; exact Fre.new hTr [c] 1 rfl (by omega) _ rfl
            have cv4 := hf4.str 1
            have HT4 : Hid (∃ κ, Tgt w w4 G κ p y0 z0 aw20) := keepHid ⟨κr, hTr.below hb4⟩
            have ha4 : ∀ w, (Op.stringOp .add (strB (63 :: noEnd (b3.take k2))) (strB [c])).run Tryz.prog w = .ok (.string (strB ((63 :: noEnd (b3.take k2)) ++ [c]))) w := fun w => run_strAdd _ _ (by simp only [List.length_cons, List.length_nil] at hlen ⊢; omega) w
            have HN : Hid (strB ((63 :: noEnd (b3.take k2)) ++ [c]) = strB (63 :: noEnd (b3.take (k2 + 1)))) := keepHid (by rw [hnt, if_neg hc]; rfl)
            generalize strB ((63 :: noEnd (b3.take k2)) ++ [c]) = LS1 at *
            generalize strB (63 :: noEnd (b3.take k2)) = LS at *
            generalize strB [c] = LC at *
            generalize (c.toNat : Int) = ci at *
            clear hnt hlen hx hTr HTR hc hb4 hf4
            go_wp2
            go_roundw
            case rel => exact ⟨k2 + 1, by omega, by go_num, by rw [← HN.out], HT4⟩
            case measure => simp [intOf]; omega
        · obtain rfl : k2 = n3 := by omega
          have hbl := HB3.out.len
          have htk : b3.take k2 = b3 := List.take_of_length_le (by omega)
          rw [htk]
          have hlen : (63 :: noEnd b3).length ≤ 140737488351233 := by
            have h1 := noEnd_le b3
            simp only [List.length_cons]
            omega
          have hlen2 : ((63 :: noEnd b3) ++ [13]).length ≤ 140737488351234 := by rw [List.length_append]; simp only [List.length_cons, List.length_nil] at hlen ⊢; omega
          have ha4 : ∀ w, (Op.stringOp .add (strB (63 :: noEnd b3)) ⟨#[13]⟩).run Tryz.prog w = .ok (.string (strB ((63 :: noEnd b3) ++ [13]))) w := fun w => run_strAdd _ [13] (by simp only [List.length_cons, List.length_nil] at hlen ⊢; omega) w
          obtain ⟨cp, w4, hcv, hrow⟩ := run_str_bytes (P := Tryz.prog) wr 9 31 5 ((63 :: noEnd b3) ++ [13]) Tryz.underlying9 Tryz.underlying31 Tryz.underlying5 (by omega)
          obtain ⟨N, hN⟩ : ∃ N, ((63 :: noEnd b3) ++ [13]).length = N := ⟨_, rfl⟩
          have hcap := hrow.cap
          have hby := hrow.bys
          rw [hN] at hcv hcap hby
          have hfr : Fre w4 κr (some ⟨wr.heap.size, 0, none⟩) N ((63 :: noEnd b3) ++ [13]) := ⟨hby.more hrow.lt, fun ad e _ => by
            obtain rfl := Option.some.inj e
            show κr wr.heap.size = 0
            rcases Nat.eq_zero_or_pos (κr wr.heap.size) with q | q
            · exact q
            · have := (hTr.lt wr.heap.size (by omega)).2; omega⟩
          have HPX : Hid (Calls Tryz.prog 16 #[.pointer (some ⟨G, 0, none⟩), .slice (some ⟨wr.heap.size, 0, none⟩) N cp] w4 (LawR w G κr p y0 z0 noL 6 aw20 w4)) := keepHid ((show Calls Tryz.prog 16 #[ptV G, .slice (some ⟨wr.heap.size, 0, none⟩) N cp] w4 _ from put_gen HP.out (hTr.below hrow.below) aw_ok (by omega) (by omega) _ N cp _ hfr.bys hcap.1 hcap.2 hfr.col AsI (asI_zero (noEnd b3) (noEnd_no b3)) (fun s n c rest _ h => asI_step s n c rest h) asI_bound).mono fun e w' hh => hh.law (feed_query (noEnd b3) (noEnd_no b3)) 6 rfl (by omega))
          generalize strB ((63 :: noEnd b3) ++ [13]) = LS1 at *
          generalize strB (63 :: noEnd b3) = LS at *
          clear hlen hlen2 hbl htk hN hcap hby hfr hrow HTR hTr hk3
          go_wp2_with fail
          refine HPX.out.mono ?_
          rintro e w5 ⟨A5, c5, κ5, rfl, hf5, hT5, ht5, hk5, hc51, hc52⟩
          have cv5 := hf5.str c5
          have hq5 : ((strB noL).toList == [63, 13, 10, 61, 62, 32]) = true := by rw [strB_toList]; rfl
          generalize strB noL = KN at *
          obtain ⟨w6, hw6⟩ : ∃ w6, w5.alloc (.cells #[.int .u8 13] 5) = w6 := ⟨_, rfl⟩
          have hb6 : Below w5.heap.size w5 w6 := by rw [← hw6]; exact (Below.refl _ _).alloc (Nat.le_refl _) _
          have hf6 : Fre w6 κ5 (some ⟨w5.heap.size, 0, none⟩) 1 [13] := by rw [← hw6]; exact Fre.new hT5 [13] 1 rfl (by omega) _ rfl
          have HPY := keepHid (put_lit HP.out (hT5.below hb6) aw_ok (by omega) (by omega) _ 1 1 [13] hf6 (by omega) (Nat.le_refl _) (by omega) (by show 0 + 1 ≤ 1000000000; omega) readyL aw20 (feed_cr rfl rfl rfl) 5 rfl (by omega))
          clear hf5 hT5 ht5 hk5 hc51 hc52 HPX hb6 hf6 hcv ha4
          go_wp2_with fail
          try rw [hw6]
          clear hw6
          refine HPY.out.mono ?_
          rintro e w7 ⟨A7, c7, κ7, rfl, hf7, hT7, ht7, hk7, hc71, hc72⟩
          have cv7 := hf7.str c7
          have hq7 : ((strB readyL).toList == [13, 10, 61, 62, 32]) = true := by rw [strB_toList]; rfl
          generalize strB readyL = KR2 at *
          have HRP := keepHid (replies_any hT7 (by show 0 ≤ _; omega))
          have HT7 := keepHid hT7
          clear hf7 hT7 ht7 hk7 hc71 hc72 HPY cv5 hq5
          unfold ptV at HRP
          go_wp2_with fail
          refine HRP.out.mono ?_
          rintro e w8 ⟨A8, c8, rfl, ho8, hb8⟩
          have HB8 := keepHid (HT7.out.below hb8).base.bel
          have hl0 : aw20.rp.length = 0 := rfl
          rw [hl0]
          clear ho8 hb8 HRP cv7 hq7
          go_wp2
          go_ret
          exact ⟨rfl, HB8.out⟩

set_option maxRecDepth 100000 in
theorem lifted (os : Os) (started : os.Started) (H : Type) (enc : TypeId × Value → H) :
    ReturnsInHanded {} Tryz.checked os 8 .any (fun w args => (Rows.targetAsleepSpec.pre enc Tryz.prog Tryz.f8 [] false w args ∧ laidMetH Tryz.prog laid7 w) ∧ sizedMet enc Tryz.prog Tryz.f8 (OpenSpec.ofChange Rows.targetAsleepSpec) false w args) (Rows.targetAsleepSpec.post enc Tryz.prog Tryz.f8 false true false false) := by
  refine returnsInHanded_of_change_and (C := Tryz.checked) (X := fun w _ => laidMetH Tryz.prog laid7 w) (fun _ _ _ hh h => h.of_heap hh) own started (by kernel_rfl) Tryz.func8
    (ChangeSpec.witness_shaped (enc := enc) (C := Tryz.checked) (os := os) (X := fun w _ => laidMetH Tryz.prog laid7 w) false (worldF os) #[.agg #[.int .i64 0, .int .i64 0], .int .u8 0, .int .u8 0, .slice none 0 0] 8 (worldF_os os) (World.shaped_of_RefB (by kernel_rfl) (by kernel_rfl)) (by kernel_rfl) (by kernel_rfl) (by kernel_rfl) (door7 os _)) ?_
  intro W base args ds gs before hval0 hW hcnd hsz0 hL _
  have hsz : (DataW.weightsEach Tryz.prog (Tryz.f8.params.toList ++ Rows.targetAsleepSpec.plain.varTypes Tryz.prog) (ds ++ gs)).all (· ≤ reachBytes) = true := hsz0
  clear hsz0
  have hval : ∀ (j : Nat) t v, Tryz.f8.params[j]? = some t → args[j]? = some v → Value.okWide Tryz.prog W .any base t v := hval0
  have hW' := hW
  obtain ⟨p, q, hA0, hV, rfl, hfz, hnd⟩ := hW
  have hA : DataW.TrodAll enc Tryz.prog W 0 (fun _ => true) true Tryz.f8.params.toList args.toList ds p := hA0
  rw [Tryz.params8] at hA hval hsz
  obtain ⟨v0, vs0, d0, ds0, p0, q0, hargs, rfl, rfl, h0, r0⟩ := trodAll_cons hA
  obtain ⟨v1, vs1, d1, ds1, p1, q1, rfl, rfl, rfl, h1, r1⟩ := trodAll_cons r0
  obtain ⟨v2, vs2, d2, ds2, p2, q2, rfl, rfl, rfl, h2, r2⟩ := trodAll_cons r1
  obtain ⟨v3, vs3, d3, ds3, p3, q3, rfl, rfl, rfl, h3, r3⟩ := trodAll_cons r2
  obtain ⟨rfl, rfl, rfl⟩ := trodAll_nil r3
  obtain rfl : args = #[v0, v1, v2, v3] := by cases args; simp_all
  obtain ⟨rfl, rfl⟩ := trodVars_none hV
  have k0 := h0
  have lt0 : ∀ x ∈ p0, x.block < W.heap.size := by obtain ⟨m, hm⟩ := k0; exact DataW.trod_lt m _ _ _ hm
  have k1 := h1
  have lt1 : ∀ x ∈ p1, x.block < W.heap.size := by obtain ⟨m, hm⟩ := k1; exact DataW.trod_lt m _ _ _ hm
  have k2 := h2
  have lt2 : ∀ x ∈ p2, x.block < W.heap.size := by obtain ⟨m, hm⟩ := k2; exact DataW.trod_lt m _ _ _ hm
  have k3 := h3
  have lt3 : ∀ x ∈ p3, x.block < W.heap.size := by obtain ⟨m, hm⟩ := k3; exact DataW.trod_lt m _ _ _ hm
  obtain ⟨y0, z0, rfl, w0, u0⟩ := open_two Tryz.underlying23 ⟨rfl, rfl⟩ ⟨rfl, rfl⟩ Tryz.underlying3 (by kernel_rfl) (by kernel_rfl) (hval 0 23 v0 rfl rfl) h0
  obtain ⟨x1, rfl, rfl, rfl, w1⟩ := open_int Tryz.underlying5 (hval 1 5 v1 rfl rfl) h1
  obtain ⟨x2, rfl, rfl, rfl, w2⟩ := open_int Tryz.underlying5 (hval 2 5 v2 rfl rfl) h2
  obtain ⟨a3, n3, c3, b3, rfl, w3, l3, s3⟩ := open_bys Tryz.underlying31 Tryz.underlying5 (by kernel_rfl) (by kernel_rfl) (hval 3 31 v3 rfl rfl) (fun _ => rfl) h3 (fun el sp hd => sized_slice hsz (j := 3) (t := 31) (e := 5) rfl (by rw [hd]; rfl) Tryz.underlying31)
  clear hA0 hval0
  refine (walk y0 z0 x1 x2 a3 n3 c3 b3 W (sup7 hL) w0 u0 (wf_u8 w1) (wf_u8 w2) w3 l3 s3).mono fun e W' ⟨he, bel⟩ => ?_
  subst he
  exact ⟨_, rfl, _, _, _, [], _, [], hW', trodAll_mk1 (shut_bool Tryz.underlying4 _), (trodAll_cons_mk (Below.trod laidOut (by kernel_rfl) (of_decide_eq_true (by kernel_rfl)) k0 bel lt0) (trodAll_cons_mk (Below.trod laidOut (by kernel_rfl) (of_decide_eq_true (by kernel_rfl)) k1 bel lt1) (trodAll_cons_mk (Below.trod laidOut (by kernel_rfl) (of_decide_eq_true (by kernel_rfl)) k2 bel lt2) (trodAll_cons_mk (Below.trod laidOut (by kernel_rfl) (of_decide_eq_true (by kernel_rfl)) k3 bel lt3) trodAll_mk0)))), rfl, bel.frame _, fun h => by cases h⟩

theorem over : Rows.targetAsleepRow.holds Tryz.pinned (OpenSpec.ofChange Rows.targetAsleepSpec) :=
  OpenClaim.holds_of_wide 8 Tryz.f8 rfl rfl rfl rfl rfl rfl rfl ⟨rfl, rfl, rfl, rfl, rfl⟩ rfl rfl rfl rfl rfl (by kernel_rfl) Tryz.func8 (by kernel_rfl)
    (of_decide_eq_true (by kernel_rfl)) (by unfold Func.isWrapper; first | (rw [if_pos (by decide +kernel)]; kernel_rfl) | (rw [if_neg (by decide +kernel)]; exact ⟨rfl, rfl⟩))
    (fun os started H enc _ => lifted os started H enc)

/-- The card: what the row lists is tied to the program's own text. -/
theorem proved : Rows.TargetAsleepCardSaid :=
  Claim7.holds_tied_plain_at .later [] [.data, .data, .data, .data, .sentinel, .sentinel, .pinned] true Rows.targetAsleepCard.stood.harness true
    over (fun _ h => by cases h) (by kernel_rfl) (fun _ h => by cases h) targetAsleep_row_tie rfl ⟨rfl, rfl⟩ (by kernel_rfl) rfl
    (fun f fn hf hfn => by
      obtain rfl : f = 8 := Option.some.inj ((show Tryz.prog.funcNamed "lifeline/lifelinelaw20.TargetAsleep" = some 8 by kernel_rfl).symm.trans hf) |>.symm
      obtain rfl : fn = Tryz.f8 := (Option.some.inj (Tryz.func8.symm.trans hfn)).symm
      exact ⟨by kernel_rfl, fun j t ht => by
        rw [Tryz.params8] at ht
        have hm : t ∈ [23, 5, 5, 31] := by simpa using Array.mem_of_getElem? ht
        have hall : ([23, 5, 5, 31].all fun u => !Tryz.prog.wantsStandIn u) = true := by kernel_rfl
        exact (show Tryz.prog.wantsStandIn t = false by simpa using List.all_eq_true.1 hall t hm)⟩)
    (by kernel_rfl)
end Go.Proofs.YtonloefjhofeeaaGreatDoor.targetAsleep
