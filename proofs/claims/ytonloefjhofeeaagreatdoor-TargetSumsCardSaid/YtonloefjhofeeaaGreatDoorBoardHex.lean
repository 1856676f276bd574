/-
  A number in base 16, as the law writes it.
-/
import Derived.Test.YtonloefjhofeeaaGreatDoorBoardNum
import Derived.Test.YtonloefjhofeeaaGreatDoorBoardTake
namespace Go.Proofs.YtonloefjhofeeaaGreatDoor
open Go.RowKit
set_option linter.unusedVariables false

def hexC : List UInt8 := hexL
theorem hexC_get {n : Nat} (h : n < 16) : hexL[n]? = some (chr n) := by
  unfold chr
  rw [List.getD_eq_getElem?_getD]
  have : n < hexL.length := by show n < 16; exact h
  rw [List.getElem?_eq_getElem this]
  rfl
set_option maxRecDepth 100000 in
theorem hex_any (n : Nat) : ∀ (hn : n < 9223372036854775808) (w : World), Calls Tryz.prog 18 #[.int .i64 (n : Int)] w fun e w' => e = .returned (.string (strB (digL 16 n))) ∧ w = w' := by
  induction n using Nat.strongRecOn with
  | ind n ih =>
    intro hn w
    by_cases h : n < 16
    · have hi : (n : Int) < 16 := by omega
      have hwr : IntKind.i64.wrap ((n : Int) + 1) = (n : Int) + 1 := by rw [IntKind.wrap_i64]; omega
      have hc := run_cut1 (hexC_get h) (n : Int) ((n : Int) + 1) rfl rfl
      have HD : Hid (digL 16 n = [chr n]) := keepHid (digL_lt h)
      have hc' : ∀ w, (Instr.slice 9 (.string ⟨#[48, 49, 50, 51, 52, 53, 54, 55, 56, 57, 97, 98, 99, 100, 101, 102]⟩) (some (.int .i64 (n : Int))) (some (.int .i64 ((n : Int) + 1))) none).run Tryz.prog w = .ok (.string (strB [chr n])) w := fun w => hc w
      have HX : Hid (strB (digL 16 n) = strB [chr n]) := keepHid (by rw [HD.out])
      clear hc ih hn h
      generalize strB [chr n] = X at *
      go_enter Tryz.func18, Tryz.ntmps18
      go_wp2
      go_ret
      exact ⟨by rw [HX.out]; rfl, rfl⟩
    · have hi : ¬ (n : Int) < 16 := by omega
      have hlq := dig_sixteen (n := n / 16) (by omega)
      have hlr := dig_sixteen (n := n % 16) (by omega)
      have hadd : ∀ w, (Op.stringOp .add (strB (digL 16 (n / 16))) (strB (digL 16 (n % 16)))).run Tryz.prog w = .ok (.string (strB (digL 16 (n / 16) ++ digL 16 (n % 16)))) w := fun w => run_strAdd _ _ (by omega) w
      have HD : Hid (strB (digL 16 n) = strB (digL 16 (n / 16) ++ digL 16 (n % 16))) := keepHid (by rw [digL_ge (n := n) (by omega) (by omega), digL_lt (n := n % 16) (by omega)])
      have HQ := keepHid (ih (n / 16) (by omega) (by omega))
      have HR := keepHid (ih (n % 16) (by omega) (by omega))
      obtain ⟨q, hq⟩ : ∃ q, n / 16 = q := ⟨_, rfl⟩
      obtain ⟨r, hr⟩ : ∃ r, n % 16 = r := ⟨_, rfl⟩
      have t1 : Int.tdiv (n : Int) 16 = (q : Int) := by rw [Int.tdiv_eq_ediv_of_nonneg (by omega)]; omega
      have t2 : Int.tmod (n : Int) 16 = (r : Int) := by rw [Int.tmod_eq_emod_of_nonneg (by omega)]; omega
      have t3 : (n : Int) / 16 = (q : Int) := by omega
      have t4 : (n : Int) % 16 = (r : Int) := by omega
      rw [hq, hr] at hadd HD
      rw [hq] at HQ
      rw [hr] at HR
      generalize strB (digL 16 q ++ digL 16 r) = X at *
      generalize strB (digL 16 q) = XQ at *
      generalize strB (digL 16 r) = XR at *
      have hq1 : (q : Int) ≤ 9223372036854775807 := by omega
      have hr1 : (r : Int) < 16 := by omega
      clear ih h hlq hlr hq hr
      go_enter Tryz.func18, Tryz.ntmps18
      go_wp2_with fail
      refine (HQ.out _).mono ?_
      rintro e w1 ⟨rfl, rfl⟩
      go_wp2_with fail
      refine (HR.out _).mono ?_
      rintro e w1 ⟨rfl, rfl⟩
      go_wp2
      go_ret
      exact ⟨by rw [HD.out]; rfl, rfl⟩


theorem bp_ex (z1 z2 : Int) : ∃ p : BP Fl, Rdr p ∧ capZ z1 9 = p.T ∧ capZ z2 99 = p.W := by
  obtain ⟨rd, h1, h2⟩ := rd_ex
  exact ⟨⟨capZ z1 9, capZ z2 99, [], [], [], rd, fun f => f.size.toNat, endsB⟩, ⟨h1, h2, fun f => rfl, fun bs => rfl⟩, rfl, rfl⟩
/-- Bytes apart from a board. -/
structure Fre (w : World) (κ : Nat → Nat) (A : Option Addr) (n : Nat) (b : List UInt8) : Prop where
  bys : Bys w w.heap.size A n b
  col : ∀ ad, A = some ad → 0 < n → κ ad.block = 0
theorem Fre.turn {w w' : World} {κ κ' : Nat → Nat} {A : Option Addr} {n : Nat} {b : List UInt8} (h : Fre w κ A n b) (ht : Turn (fun i => κ i ≠ 0) w w') (hk : ∀ i, κ' i ≠ 0 → κ i ≠ 0 ∨ w.heap.size ≤ i) : Fre w' κ' A n b := by
  refine ⟨(h.bys.turn ht (Nat.le_refl _) (fun h0 ad e hh => hh (h.col ad e h0))).more ht.size, fun ad e h0 => ?_⟩
  obtain ⟨ad', c, e', hlt, _⟩ := h.bys.at_ h0
  have : ad' = ad := by rw [e] at e'; exact (Option.some.inj e').symm
  subst this
  rcases Nat.eq_zero_or_pos (κ' ad'.block) with q | q
  · exact q
  · rcases hk ad'.block (by omega) with q1 | q1
    · exact absurd (h.col ad' e h0) q1
    · omega
theorem Fre.below {w w' : World} {κ : Nat → Nat} {A : Option Addr} {n : Nat} {b : List UInt8} (h : Fre w κ A n b) (hb : Below w.heap.size w w') : Fre w' κ A n b := ⟨(h.bys.below hb).more hb.size, h.col⟩
theorem Fre.str {w : World} {κ : Nat → Nat} {A : Option Addr} {n : Nat} {b : List UInt8} (h : Fre w κ A n b) (c : Nat) : (convert 31 9 (.slice A n c)).run Tryz.prog w = .ok (.string (strB b)) w :=
  run_str (P := Tryz.prog) (w := w) (c := c) 31 5 9 Tryz.underlying31 Tryz.underlying5 Tryz.underlying9 h.bys
/-- A row that is made: apart. -/
theorem Fre.new {w0 w : World} {G : Nat} {κ : Nat → Nat} {p : BP Fl} {z1 z2 : Int} {s : Bd} (h : Tgt w0 w G κ p z1 z2 s) (b : List UInt8) (n : Nat) (hn : b.length = n) (hm : n ≤ 9223372036854775807) (cs : Array Value) (hcs : cs = byteVals b) : Fre (w.alloc (.cells cs 5)) κ (some ⟨w.heap.size, 0, none⟩) n b := by
  subst hn hcs
  have hk : Blk (w.alloc (.cells (byteVals b) 5)) w.heap.size 5 (byteVals b) := Blk.new w _ _
  refine ⟨(bys_blk hk rfl hm).more (by simp), fun ad e _ => ?_⟩
  obtain rfl := Option.some.inj e
  show κ w.heap.size = 0
  rcases Nat.eq_zero_or_pos (κ w.heap.size) with q | q
  · exact q
  · have := (h.lt w.heap.size (by omega)).2; omega
/-- A row that is made and may not be written. -/
theorem Fre.newm {w0 w : World} {G : Nat} {κ : Nat → Nat} {p : BP Fl} {z1 z2 : Int} {s : Bd} (h : Tgt w0 w G κ p z1 z2 s) (b : List UInt8) (n : Nat) (hn : b.length = n) (hm : n ≤ 1000000) (cs : Array Value) (hcs : cs = byteVals b) (m : Nat × Nat) : Fre (w.alloc (.cells cs 5 m)) κ (some ⟨w.heap.size, 0, none⟩) n b := by
  refine ⟨(bys_newm w 5 b n hn (by unfold maxLen; omega) cs hcs m _ rfl).more (by simp), fun ad e _ => ?_⟩
  obtain rfl := Option.some.inj e
  show κ w.heap.size = 0
  rcases Nat.eq_zero_or_pos (κ w.heap.size) with q | q
  · exact q
  · have := (h.lt w.heap.size (by omega)).2; omega
/-- What a call told, as a law sees it. -/
def LawR (w0 : World) (G : Nat) (κ : Nat → Nat) (p : BP Fl) (z1 z2 : Int) (out : List UInt8) (n : Nat) (s' : Bd) (w : World) (e : Ending) (w' : World) : Prop :=
  ∃ A c κ', e = .returned (.slice A n c) ∧ Fre w' κ' A n out ∧ Tgt w0 w' G κ' p z1 z2 s' ∧ Turn (fun i => κ i ≠ 0) w w' ∧ (∀ i, κ' i ≠ 0 → κ i ≠ 0 ∨ w.heap.size ≤ i) ∧ n ≤ c ∧ c ≤ 9223372036854775807
theorem TRow.law {w0 w w' : World} {G : Nat} {κ : Nat → Nat} {p : BP Fl} {z1 z2 : Int} {r : List UInt8 × Bd} {out : List UInt8} {s' : Bd} {e : Ending} (h : TRow w0 G κ p z1 z2 r w e w') (hr : r = (out, s')) (n : Nat) (hn : out.length = n) (hm : n ≤ 9223372036854775807) : LawR w0 G κ p z1 z2 out n s' w e w' := by
  subst hr hn
  obtain ⟨A, c, κ', e1, e2, e3, e4, e5, e6, e7, e8⟩ := h
  exact ⟨A, c, κ', e1, ⟨e2.bys hm, fun ad e _ => e8 ad e⟩, e5, e6, e7, e3, e4⟩
/-- A row that is made, and comes to a board. -/
theorem put_lit {w0 w : World} {G : Nat} {κ : Nat → Nat} {p : BP Fl} (hp : Rdr p) {z1 z2 : Int} {s : Bd} (h : Tgt w0 w G κ p z1 z2 s) {C B : Nat} (hok : Ok20 C B s) (hC : C ≤ 500000) (hB : B ≤ 500000000) (A : Option Addr) (N c : Nat) (b : List UInt8) (hf : Fre w κ A N b) (hN : N ≤ 400000000) (hc : N ≤ c) (hcm : c ≤ 9223372036854775807)
    (hrp : s.rp.length + N ≤ 1000000000) (out : List UInt8) (s' : Bd) (hr : feed20 p s b = (out, s')) (n : Nat) (hn : out.length = n) (hm : n ≤ 9223372036854775807) :
    Calls Tryz.prog 16 #[.pointer (some ⟨G, 0, none⟩), .slice A N c] w (LawR w0 G κ p z1 z2 out n s' w) :=
  (show Calls Tryz.prog 16 #[ptV G, .slice A N c] w _ from put_any20 hp h hok hC hB A N c b hf.bys hN hc hcm hf.col hrp).mono fun e w' hh => hh.law hr n hn hm
theorem feed_wake {p : BP Fl} {s : Bd} (c : UInt8) (h1 : s.aw = false) (h2 : s.ld = .non) : feed20 p s [c] = (readyL, { s with aw := true }) := by
  have ht : take20 p s c = (readyL, { s with aw := true }) := by unfold take20; rw [if_pos h1]
  rw [feed_take h2, ht]
  have : feed20 p { s with aw := true } [] = ([], { s with aw := true }) := feed_nil h2
  rw [this, List.append_nil]
theorem feed_cr {p : BP Fl} {s : Bd} (h1 : s.aw = true) (h2 : s.ld = .non) (h3 : s.ln = []) : feed20 p s [13] = (readyL, s) := by
  have ht : take20 p s 13 = (readyL, s) := by
    unfold take20
    rw [if_neg (by rw [h1]; simp), if_pos rfl, h3]
    obtain ⟨aw, ln, ld, ad, rp, st⟩ := s
    obtain rfl : ln = [] := h3
    unfold exec20
    rw [if_pos rfl]
  rw [feed_take h2, ht]
  have : feed20 p s [] = ([], s) := feed_nil h2
  rw [this, List.append_nil]
/-- A board that is awake, and has told nothing yet. -/
def aw20 : Bd := { new20 with aw := true }
theorem aw_ok : Ok20 1 1 aw20 := ⟨rfl, Nat.zero_le _, by show 0 < 4294967296; omega, zeros_len _, trivial, trivial⟩
theorem ok_any {C B : Nat} {s : Bd} (h : Ok20 C B s) (hC : C ≤ 10) (hB : B ≤ 2000) : Ok20 10 2000 s := h.mono hC hB

/-! ### The document's examples -/
theorem ask_03 : askL 0 3 ++ [13] = [115, 117, 109, 32, 48, 32, 51, 13] := by
  unfold askL
  rw [digL_lt (by omega), digL_lt (by omega)]
  rfl
set_option maxRecDepth 100000 in
set_option maxHeartbeats 8000000 in
theorem awake_any20 (w : World) (hs : Sup w) : Calls Tryz.prog 9 #[] w fun e w' => e = .returned (.bool true) ∧ Below w.heap.size w w' := by
  obtain ⟨p, hp, hT, hW⟩ := bp_ex 3 5
  have hst : Stan w w p 3 5 := ⟨Below.refl _ _, hs, hT, hW⟩
  have HOF := keepHid (of_any20 hst)
  have HP := keepHid hp
  clear hs hT hW hst hp
  go_enter Tryz.func9, Tryz.ntmps9
  go_wp2_with fail
  refine HOF.out.mono ?_
  rintro e w1 ⟨G, κ1, rfl, hT1, hb1, _⟩
  have HT1 := keepHid hT1
  obtain ⟨GS, c0⟩ : ∃ GS, w1.cell? ⟨G, 0, none⟩ = some (.pointer (some ⟨GS, 0, none⟩)) := by
    obtain ⟨GS, lv, iv, rv, hM⟩ := hT1
    exact ⟨GS, hM.blk.cell 0⟩
  obtain ⟨w2, hw2⟩ : ∃ w2, w1.alloc (.cells #[.int .u8 120] 5) = w2 := ⟨_, rfl⟩
  have hb2 : Below w1.heap.size w1 w2 := by rw [← hw2]; exact (Below.refl _ _).alloc (Nat.le_refl _) _
  have hf2 : Fre w2 κ1 (some ⟨w1.heap.size, 0, none⟩) 1 [120] := by rw [← hw2]; exact Fre.new hT1 [120] 1 rfl (by omega) _ rfl
  have HPUT := keepHid (put_lit HP.out (hT1.below hb2) new_ok (by omega) (by omega) _ 1 1 [120] hf2 (by omega) (Nat.le_refl _) (by omega) (by show 0 + 1 ≤ 1000000000; omega) readyL aw20 (feed_wake 120 rfl rfl) 5 rfl (by omega))
  clear hT1 hb1 hb2 hf2 HOF
  unfold ptV
  go_wp2_with fail
  try rw [hw2]
  clear hw2 c0
  refine HPUT.out.mono ?_
  rintro e w3 ⟨A3, c3, κ3, rfl, hf3, hT3, ht3, hk3, hc31, hc32⟩
  obtain ⟨P, hPP⟩ : ∃ P, prNum (prL (getL aw20.st 0 3)) = P := ⟨_, rfl⟩
  have hP32 : P < 4294967296 := by rw [← hPP]; exact pr_u32 _
  obtain ⟨w4, hw4⟩ : ∃ w4, w3.alloc (.cells #[.int .u8 115, .int .u8 117, .int .u8 109, .int .u8 32, .int .u8 48, .int .u8 32, .int .u8 51, .int .u8 13] 5 (8, 9)) = w4 := ⟨_, rfl⟩
  have hb4 : Below w3.heap.size w3 w4 := by rw [← hw4]; exact (Below.refl _ _).alloc (Nat.le_refl _) _
  have hf4 : Fre w4 κ3 (some ⟨w3.heap.size, 0, none⟩) 8 [115, 117, 109, 32, 48, 32, 51, 13] := by rw [← hw4]; exact Fre.newm hT3 [115, 117, 109, 32, 48, 32, 51, 13] 8 rfl (by omega) _ rfl _
  obtain ⟨n5, hn5⟩ : ∃ n5, (lin20 0 3 P ++ promptL).length = n5 := ⟨_, rfl⟩
  have hlin : (lin20 0 3 P).length ≤ 64 := by
    have l1 := dig_sixteen (n := 0) (by omega)
    have l2 := dig_sixteen (n := 3) (by omega)
    have l3 := dig_sixteen (n := P) (by omega)
    unfold lin20
    simp only [List.length_append, List.length_cons, List.length_nil]
    omega
  have hn5b : n5 ≤ 9223372036854775807 := by rw [← hn5, List.length_append]; simp only [promptL, List.length_cons, List.length_nil]; omega
  have HPUT2 := keepHid (put_lit HP.out (hT3.below hb4) aw_ok (by omega) (by omega) _ 8 8 [115, 117, 109, 32, 48, 32, 51, 13] hf4 (by omega) (Nat.le_refl _) (by omega) (by show 0 + 8 ≤ 1000000000; omega) (lin20 0 3 P ++ promptL) { aw20 with rp := [(0, 3, P)] }
    (by rw [← ask_03, feed_ask (by omega) (by omega) rfl rfl rfl, if_pos (by omega), hPP]; rfl) n5 hn5 hn5b)
  have HF3 := keepHid (hf3.below hb4)
  have hcs : (convert 31 31 (.slice (some ⟨w3.heap.size, 0, none⟩) 8 8)).run Tryz.prog (w3.alloc (.cells #[.int .u8 115, .int .u8 117, .int .u8 109, .int .u8 32, .int .u8 48, .int .u8 32, .int .u8 51, .int .u8 13] 5)) = .ok (.slice (some ⟨w3.heap.size, 0, none⟩) 8 8) w4 := by
    rw [← hw4]
    exact Lib.run_convert_bytes_const (P := Tryz.prog) w3 31 5 #[.int .u8 115, .int .u8 117, .int .u8 109, .int .u8 32, .int .u8 48, .int .u8 32, .int .u8 51, .int .u8 13] 8 8 Tryz.underlying31 Tryz.underlying5
  clear hf3 hT3 ht3 hk3 hc31 hc32 hb4 hf4 HPUT hPP HT1
  go_wp2_with fail
  try rw [hw4]
  clear hw4
  refine HPUT2.out.mono ?_
  rintro e w5 ⟨A5, c5, κ5, rfl, hf5, hT5, ht5, hk5, hc51, hc52⟩
  have HF3b := keepHid (HF3.out.turn ht5 hk5)
  have HF5 := keepHid hf5
  have HT5 := keepHid hT5
  have HRP := keepHid (replies_any hT5 (by show 1 ≤ _; omega))
  clear hf5 hT5 ht5 hk5 hc51 hc52 HPUT2 HF3 HP
  unfold ptV at HRP
  go_wp2_with fail
  refine HRP.out.mono ?_
  rintro e w6 ⟨A6, c6, rfl, ho6, hb6⟩
  obtain ⟨g6, c6', hv6, _, hg6, hc6⟩ := ho6.form (by show 0 < 1; omega)
  obtain ⟨rfl, rfl⟩ : A6 = some ⟨g6, 0, none⟩ ∧ c6 = c6' := by injection hv6 with q1 q2 q3; exact ⟨q1, q3⟩
  have hown : OwnR w6 w5.heap.size (.slice (some ⟨g6, 0, none⟩) 1 c6) 1 [((0 : Nat), (3 : Nat), P)] := ho6
  have e0 : w6.cell? ⟨g6, 0, none⟩ = some (.int .i64 0) := hown.cell (j := 0) (s := (0, 3, P)) rfl (r := 0) (by omega)
  have e1 : w6.cell? ⟨g6, 1, none⟩ = some (.int .i64 3) := hown.cell (j := 0) (s := (0, 3, P)) rfl (r := 1) (by omega)
  have e2 : w6.cell? ⟨g6, 2, none⟩ = some (.int .u32 (P : Int)) := hown.cell (j := 0) (s := (0, 3, P)) rfl (r := 2) (by omega)
  have hT6 := HT5.out.below hb6
  have hF3c := HF3b.out.below hb6
  have hF5c := HF5.out.below hb6
  have d0 := fun q os => cell_regrown e0 q os
  have d1 := fun q os => cell_regrown e1 q os
  have d2 := fun q os => cell_regrown e2 q os
  have cv1 : ∀ q os, (convert 31 9 (.slice A3 5 c3)).run Tryz.prog (Sort.grow (redrawn w6 q) os) = .ok (.string (strB readyL)) (Sort.grow (redrawn w6 q) os) := fun q os => (hF3c.below (below_regrown w6 q os)).str c3
  have cv2 : ∀ q os, (convert 31 9 (.slice A5 n5 c5)).run Tryz.prog (Sort.grow (redrawn w6 q) os) = .ok (.string (strB (lin20 0 3 P ++ promptL))) (Sort.grow (redrawn w6 q) os) := fun q os => (hF5c.below (below_regrown w6 q os)).str c5
  have CL := keepHid (fun q os => Calls.regrown_of (show Calls Tryz.prog 19 #[.agg #[.int .i64 0, .int .i64 3, .int .u32 (P : Int)]] (Sort.grow (redrawn w6 q) os) _ from line_any20 0 3 P (by omega) (by omega) hP32 (Sort.grow (redrawn w6 q) os) (hT6.base.supw.four.below (below_regrown w6 q os) (Nat.le_refl _))))
  have k1 : ∀ w, (Op.stringOp .add (strB (lin20 0 3 P)) ⟨#[61, 62, 32]⟩).run Tryz.prog w = .ok (.string (strB (lin20 0 3 P ++ promptL))) w := fun w => run_strAdd _ promptL (by simp only [promptL, List.length_cons, List.length_nil]; omega) w
  have hq1 : ((strB readyL).toList == [13, 10, 61, 62, 32]) = true := by rw [strB_toList]; rfl
  have hq2 : ((strB (lin20 0 3 P ++ promptL)).toList == (strB (lin20 0 3 P ++ promptL)).toList) = true := by rw [str_eqB]; exact decide_eq_true rfl
  have hl1 : ([((0 : Nat), (3 : Nat), P)] : List Rp).length = 1 := rfl
  have HB6 := keepHid (hT6.base.bel)
  have hc6i : (1 : Int) ≤ (c6 : Int) := by omega
  generalize strB readyL = K1 at *
  generalize strB (lin20 0 3 P ++ promptL) = K2 at *
  generalize strB (lin20 0 3 P) = K3 at *
  clear ho6 hown hb6 hT6 hF3c hF5c hv6 hg6 hlin hn5b hn5 HRP e0 e1 e2 hP32 hc6
  go_upto_region 7 with fail
  refine wp_region_quiet_below (by kernel_rfl) (by kernel_rfl) ?_
  repeat (go_big_quiet_step (first | (with_reducible exact CL.out _ _)))
  refine wpQuiet_nil ?_
  intro _ hw'
  obtain ⟨⟨dq, osq⟩, hw''⟩ := hw'
  subst hw''
  have HB3 := keepHid (HB6.out.trans ((below_regrown w6 dq osq).mono HB6.out.size))
  clear d0 d1 d2 cv1 cv2 CL
  go_wp2
  go_ret
  exact ⟨rfl, HB3.out⟩
end Go.Proofs.YtonloefjhofeeaaGreatDoor
