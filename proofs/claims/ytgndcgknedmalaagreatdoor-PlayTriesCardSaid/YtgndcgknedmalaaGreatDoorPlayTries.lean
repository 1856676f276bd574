/-
  What is tried so often is sent so often, and once more: the law's walk.
-/
import Derived.Test.YtgndcgknedmalaaGreatDoorPlayStep
namespace Go.Proofs.YtgndcgknedmalaaGreatDoor
open Go.RowKit
set_option linter.unusedVariables false

def trS (k w : Nat) : List Sp := [⟨[97], 0, [120], [], 0, [], 0⟩, ⟨[], 1, [], [⟨[121], [98]⟩], (w : Int), [99], 0⟩, ⟨[99], 3, [], [], (k : Int), [97], 0⟩, ⟨[], 5, [], [], 0, [], 0⟩, ⟨[98], 4, [], [], 0, [], 0⟩]
def trX (k w : Nat) : List Pst := [⟨0, [120], [], [], 0, -1⟩, ⟨1, [], [[121]], [4], (w : Int), 2⟩, ⟨3, [], [], [], (k : Int), 0⟩, ⟨5, [], [], [], 0, -1⟩, ⟨4, [], [], [], 0, -1⟩]
theorem trX_is (k w : Nat) : pstsO (trS k w) = trX k w := by
  have h97 : findS (trS k w) [97] = 0 := by show (if ([97] : List UInt8) = [] then (-1 : Int) else findG [[97], [], [99], [], [98]] [97] 0) = 0; decide
  have h98 : findS (trS k w) [98] = 4 := by show (if ([98] : List UInt8) = [] then (-1 : Int) else findG [[97], [], [99], [], [98]] [98] 0) = 4; decide
  have h99 : findS (trS k w) [99] = 2 := by show (if ([99] : List UInt8) = [] then (-1 : Int) else findG [[97], [], [99], [], [98]] [99] 0) = 2; decide
  have h0 : findS (trS k w) [] = -1 := by unfold findS; rw [if_pos rfl]
  have e : pstsO (trS k w) = [pstO (trS k w) ⟨[97], 0, [120], [], 0, [], 0⟩, pstO (trS k w) ⟨[], 1, [], [⟨[121], [98]⟩], (w : Int), [99], 0⟩, pstO (trS k w) ⟨[99], 3, [], [], (k : Int), [97], 0⟩, pstO (trS k w) ⟨[], 5, [], [], 0, [], 0⟩, pstO (trS k w) ⟨[98], 4, [], [], 0, [], 0⟩] := rfl
  rw [e]
  generalize trS k w = ss at *
  have e1 : pstO ss ⟨[97], 0, [120], [], 0, [], 0⟩ = ⟨0, [120], [], [], 0, -1⟩ := by show (⟨0, [120], [], [], 0, findS ss []⟩ : Pst) = _; rw [h0]
  have e2 : pstO ss ⟨[], 1, [], [⟨[121], [98]⟩], (w : Int), [99], 0⟩ = ⟨1, [], [[121]], [4], (w : Int), 2⟩ := by
    show (⟨1, [], [[121]], [(findS ss [98]).toNat], (w : Int), findS ss [99]⟩ : Pst) = _
    rw [h98, h99]; rfl
  have e3 : pstO ss ⟨[99], 3, [], [], (k : Int), [97], 0⟩ = ⟨3, [], [], [], (k : Int), 0⟩ := by show (⟨3, [], [], [], (k : Int), findS ss [97]⟩ : Pst) = _; rw [h97]
  have e4 : pstO ss ⟨[], 5, [], [], 0, [], 0⟩ = ⟨5, [], [], [], 0, -1⟩ := by show (⟨5, [], [], [], 0, findS ss []⟩ : Pst) = _; rw [h0]
  have e5 : pstO ss ⟨[98], 4, [], [], 0, [], 0⟩ = ⟨4, [], [], [], 0, -1⟩ := by show (⟨4, [], [], [], 0, findS ss []⟩ : Pst) = _; rw [h0]
  rw [e1, e2, e3, e4, e5]
  rfl
theorem tr_ok {k w : Nat} (hk : k ≤ 9) (hw : w ≤ 9) : OfOk (trS k w) := by
  have h97 : findS (trS k w) [97] = 0 := by show (if ([97] : List UInt8) = [] then (-1 : Int) else findG [[97], [], [99], [], [98]] [97] 0) = 0; decide
  have h98 : findS (trS k w) [98] = 4 := by show (if ([98] : List UInt8) = [] then (-1 : Int) else findG [[97], [], [99], [], [98]] [98] 0) = 4; decide
  have h99 : findS (trS k w) [99] = 2 := by show (if ([99] : List UInt8) = [] then (-1 : Int) else findG [[97], [], [99], [], [98]] [99] 0) = 2; decide
  have h5 : ∀ x ∈ trS k w, x = ⟨[97], 0, [120], [], 0, [], 0⟩ ∨ x = ⟨[], 1, [], [⟨[121], [98]⟩], (w : Int), [99], 0⟩ ∨ x = ⟨[99], 3, [], [], (k : Int), [97], 0⟩ ∨ x = ⟨[], 5, [], [], 0, [], 0⟩ ∨ x = ⟨[98], 4, [], [], 0, [], 0⟩ := fun x hx => by simpa [trS] using hx
  refine ⟨⟨by show 1 ≤ 5; omega, by show 5 ≤ 64; omega⟩, fun i x hx => ?_, fun x hx => ?_, fun x hx a ha => ?_, fun x hx => ?_, fun x hx => ?_⟩
  · have hi : i < 5 := (List.getElem?_eq_some_iff.1 hx).1
    rcases (by omega : i = 0 ∨ i = 1 ∨ i = 2 ∨ i = 3 ∨ i = 4) with rfl | rfl | rfl | rfl | rfl
    · obtain rfl := Option.some.inj hx
      exact ⟨(show (if ([97] : List UInt8) = [] then (-1 : Int) else findG [] [97] 0) < 0 by decide), (fun h => absurd (show (0 : Int) = 1 from h) (by decide)), Nat.zero_le _, (fun t ht => by cases (show t ∈ ([] : List (List UInt8)) from ht))⟩
    · obtain rfl := Option.some.inj hx
      refine ⟨(show (if ([] : List UInt8) = [] then (-1 : Int) else findG [[97]] [] 0) < 0 by decide), fun _ => ⟨by show 1 ≤ 1; omega, by show 1 ≤ 8; omega, of9_one (l := [121]) (by decide +kernel)⟩, by show 1 ≤ 1000000; omega, fun t ht => ?_⟩
      have ht' : t ∈ ([[99], [98]] : List (List UInt8)) := ht
      rcases List.mem_cons.1 ht' with rfl | ht'
      · rw [h99]; decide
      · obtain rfl : t = [98] := by simpa using ht'
        rw [h98]; decide
    · obtain rfl := Option.some.inj hx
      refine ⟨(show (if ([99] : List UInt8) = [] then (-1 : Int) else findG [[97], []] [99] 0) < 0 by decide), (fun h => absurd (show (3 : Int) = 1 from h) (by decide)), Nat.zero_le _, fun t ht => ?_⟩
      obtain rfl : t = [97] := by simpa using (show t ∈ ([[97]] : List (List UInt8)) from ht)
      rw [h97]; decide
    · obtain rfl := Option.some.inj hx
      exact ⟨(show (if ([] : List UInt8) = [] then (-1 : Int) else findG [[97], [], [99]] [] 0) < 0 by decide), (fun h => absurd (show (5 : Int) = 1 from h) (by decide)), Nat.zero_le _, (fun t ht => by cases (show t ∈ ([] : List (List UInt8)) from ht))⟩
    · obtain rfl := Option.some.inj hx
      exact ⟨(show (if ([98] : List UInt8) = [] then (-1 : Int) else findG [[97], [], [99], []] [98] 0) < 0 by decide), (fun h => absurd (show (4 : Int) = 1 from h) (by decide)), Nat.zero_le _, (fun t ht => by cases (show t ∈ ([] : List (List UInt8)) from ht))⟩
  · rcases h5 x hx with rfl | rfl | rfl | rfl | rfl
    · exact (by decide : (1 : Nat) ≤ 1048576)
    · exact (by decide : (0 : Nat) ≤ 1048576)
    · exact (by decide : (0 : Nat) ≤ 1048576)
    · exact (by decide : (0 : Nat) ≤ 1048576)
    · exact (by decide : (0 : Nat) ≤ 1048576)
  · rcases h5 x hx with rfl | rfl | rfl | rfl | rfl
    · cases ha
    · obtain rfl : a = ⟨[121], [98]⟩ := by simpa using ha
      decide
    · cases ha
    · cases ha
    · cases ha
  · rcases h5 x hx with rfl | rfl | rfl | rfl | rfl <;> dsimp only <;> omega
  · rcases h5 x hx with rfl | rfl | rfl | rfl | rfl <;> dsimp only <;> omega
/-- So many ticks, as long as it waits. -/
def goTr (xs : List Pst) : Nat → Pd → List UInt8 → Option (Pd × List UInt8)
  | 0, p, a => some (p, a)
  | n + 1, p, a => if p.st = 0 then goTr xs n (tickP xs p).1 (a ++ (tickP xs p).2) else none
theorem goTr_le {xs : List Pst} : ∀ (n : Nat) (p : Pd) (a : List UInt8) (q : Pd) (b : List UInt8), goTr xs n p a = some (q, b) → a.length ≤ b.length
  | 0, p, a, q, b, h => by
    unfold goTr at h
    injection h with h
    injection h with h1 h2
    rw [h2]; exact Nat.le_refl _
  | n + 1, p, a, q, b, h => by
    unfold goTr at h
    split at h
    · have := goTr_le n _ _ q b h
      rw [List.length_append] at this
      omega
    · cases h
def chkTr (k w : Nat) : Bool := match goTr (trX k w) ((k + 1) * w) (ofP (trX k w)).1 (ofP (trX k w)).2 with
  | some (p, a) => p.st == 2 && p.pos == 3 && a == List.replicate (k + 1) 120
  | none => false
theorem tr_all : ∀ k : Fin 9, ∀ w : Fin 9, chkTr (k.val + 1) (w.val + 1) = true := by decide +kernel
theorem tr_come {k w : Nat} (h1 : 1 ≤ k) (h2 : k ≤ 9) (h3 : 1 ≤ w) (h4 : w ≤ 9) : ∃ q, goTr (trX k w) ((k + 1) * w) (ofP (trX k w)).1 (ofP (trX k w)).2 = some (q, List.replicate (k + 1) 120) ∧ q.st = 2 ∧ q.pos = 3 := by
  have h := tr_all ⟨k - 1, by omega⟩ ⟨w - 1, by omega⟩
  rw [show k - 1 + 1 = k by omega, show w - 1 + 1 = w by omega] at h
  unfold chkTr at h
  split at h
  · rename_i p a e
    simp only [Bool.and_eq_true, beq_iff_eq] at h
    exact ⟨p, by rw [e, h.2], h.1.1, h.1.2⟩
  · cases h
/-- A Play that the law made and ticks: what was sent so far. -/
structure TrMid (w wr : World) (O : Nat → Prop) (gp k m j : Nat) (p : Pd) (a : List UInt8) : Prop where
  ply : Ply wr O gp (trX k m) p
  low : ∀ b, O b → w.heap.size ≤ b
  bel : Below w.heap.size w wr
  ok : PdOk (trX k m) p
  few : PdT p
  left : ∃ q, goTr (trX k m) j p a = some (q, List.replicate (k + 1) 120) ∧ q.st = 2 ∧ q.pos = 3
theorem rep_snoc (j : Nat) : List.replicate j (120 : UInt8) ++ [120] = List.replicate (j + 1) 120 := by rw [List.replicate_succ']
set_option maxRecDepth 100000 in
set_option maxHeartbeats 16000000 in
theorem tries_walk (a b : Nat) (ha : a ≤ 255) (hb : b ≤ 255) (w : World) (hE : Errs w) :
    Calls Tryz.prog 3 #[.int .u8 (a : Int), .int .u8 (b : Int)] w fun e w' => e = .returned (.bool true) ∧ Below w.heap.size w w' := by
  have HA := keepHid (awake_any w hE)
  clear hE
  obtain ⟨n, hn⟩ : ∃ n, a % 9 = n := ⟨_, rfl⟩
  obtain ⟨m0, hm⟩ : ∃ m, b % 9 = m := ⟨_, rfl⟩
  have a1 : (a : Int) % 9 = (n : Int) := by omega
  have a2 : Int.tmod (a : Int) 9 = (n : Int) := by rw [Int.tmod_eq_emod_of_nonneg (by omega)]; exact a1
  have a3 : IntKind.u8.wrap (n : Int) = (n : Int) := by unfold IntKind.wrap; simp [IntKind.signed, IntKind.bits]; omega
  have a4 : IntKind.i64.wrap (n : Int) = (n : Int) := by rw [IntKind.wrap_i64]; omega
  have b1 : (b : Int) % 9 = (m0 : Int) := by omega
  have b2 : Int.tmod (b : Int) 9 = (m0 : Int) := by rw [Int.tmod_eq_emod_of_nonneg (by omega)]; exact b1
  have b3 : IntKind.u8.wrap (m0 : Int) = (m0 : Int) := by unfold IntKind.wrap; simp [IntKind.signed, IntKind.bits]; omega
  have b4 : IntKind.i64.wrap (m0 : Int) = (m0 : Int) := by rw [IntKind.wrap_i64]; omega
  obtain ⟨k, hk⟩ : ∃ k, n + 1 = k := ⟨_, rfl⟩
  obtain ⟨m, hmm⟩ : ∃ m, m0 + 1 = m := ⟨_, rfl⟩
  have c1 : 1 + (n : Int) = (k : Int) := by omega
  have c2 : 1 + (m0 : Int) = (m : Int) := by omega
  have hk1 : 1 ≤ k := by omega
  have hk9 : k ≤ 9 := by omega
  have hm1 : 1 ≤ m := by omega
  have hm9 : m ≤ 9 := by omega
  obtain ⟨N, hN⟩ : ∃ N, (k + 1) * m = N := ⟨_, rfl⟩
  have hN90 : N ≤ 90 := by rw [← hN]; exact Nat.mul_le_mul (show k + 1 ≤ 10 by omega) hm9
  have hNI : ((k : Int) + 1) * (m : Int) = (N : Int) := by rw [← hN]; push_cast; rfl
  have hcome := tr_come hk1 hk9 hm1 hm9
  rw [hN] at hcome
  have HCOME := keepHid hcome
  have hok := tr_ok hk9 hm9
  have HXS : Hid (PstsOk (trX k m)) := keepHid (by rw [← trX_is]; exact psts_ok hok)
  have HOF := keepHid (fun A n c h1 h2 w' hS => of_any18 hok A n c h1 h2 w' hS)
  rw [trX_is] at HOF
  have hkI : (k : Int) ≤ 9 := by omega
  have hmI : (m : Int) ≤ 9 := by omega
  clear hcome hok hn hm hk hmm hN ha hb
  go_enter Tryz.func3, Tryz.ntmps3
  go_wp2_with fail
  refine HA.out.mono ?_
  rintro e w1 ⟨rfl, hb1⟩
  have HB1 := keepHid hb1
  clear hb1 HA
  obtain ⟨w2, hw2⟩ : ∃ w2, w1.alloc (.cells #[.string ⟨#[121]⟩, .string ⟨#[98]⟩] 28) = w2 := ⟨_, rfl⟩
  obtain ⟨w3, hw3⟩ : ∃ w3, w2.alloc (.cells #[.string ⟨#[97]⟩, .int .i64 0, .string ⟨#[120]⟩, .slice none 0 0, .int .i64 0, .string ⟨#[]⟩, .int .i64 0, .string ⟨#[]⟩, .int .i64 1, .string ⟨#[]⟩, .slice (some ⟨w1.heap.size, 0, none⟩) 1 1, .int .i64 (m : Int), .string ⟨#[99]⟩, .int .i64 0, .string ⟨#[99]⟩, .int .i64 3, .string ⟨#[]⟩, .slice none 0 0, .int .i64 (k : Int), .string ⟨#[97]⟩, .int .i64 0, .string ⟨#[]⟩, .int .i64 5, .string ⟨#[]⟩, .slice none 0 0, .int .i64 0, .string ⟨#[]⟩, .int .i64 0, .string ⟨#[98]⟩, .int .i64 4, .string ⟨#[]⟩, .slice none 0 0, .int .i64 0, .string ⟨#[]⟩, .int .i64 0] 26) = w3 := ⟨_, rfl⟩
  have hB2 : Below w1.heap.size w1 w2 := by rw [← hw2]; exact (Below.refl _ _).alloc (Nat.le_refl _) _
  have hB3 : Below w2.heap.size w2 w3 := by rw [← hw3]; exact (Below.refl _ _).alloc (Nat.le_refl _) _
  have hO2 : OwnA w2 w1.heap.size (.slice (some ⟨w1.heap.size, 0, none⟩) 1 1) 1 [⟨[121], [98]⟩] := by rw [← hw2]; exact OwnA.new w1 w1.heap.size ⟨[121], [98]⟩ (Nat.le_refl _)
  have hS3 : OwnSt w3 w1.heap.size (.slice (some ⟨w2.heap.size, 0, none⟩) 5 5) 5 (trS k m) := by
    have h := sts_lit w2 w1.heap.size [(⟨[97], 0, [120], [], 0, [], 0⟩, .slice none 0 0), (⟨[], 1, [], [⟨[121], [98]⟩], (m : Int), [99], 0⟩, .slice (some ⟨w1.heap.size, 0, none⟩) 1 1), (⟨[99], 3, [], [], (k : Int), [97], 0⟩, .slice none 0 0), (⟨[], 5, [], [], 0, [], 0⟩, .slice none 0 0), (⟨[98], 4, [], [], 0, [], 0⟩, .slice none 0 0)] 5 rfl _ rfl (fun z hz => by
      have hz5 : z = (⟨[97], 0, [120], [], 0, [], 0⟩, .slice none 0 0) ∨ z = (⟨[], 1, [], [⟨[121], [98]⟩], (m : Int), [99], 0⟩, .slice (some ⟨w1.heap.size, 0, none⟩) 1 1) ∨ z = (⟨[99], 3, [], [], (k : Int), [97], 0⟩, .slice none 0 0) ∨ z = (⟨[], 5, [], [], 0, [], 0⟩, .slice none 0 0) ∨ z = (⟨[98], 4, [], [], 0, [], 0⟩, .slice none 0 0) := by simpa using hz
      rcases hz5 with rfl | rfl | rfl | rfl | rfl
      · exact ⟨0, OwnA.nil _ _⟩
      · exact ⟨1, hO2⟩
      · exact ⟨0, OwnA.nil _ _⟩
      · exact ⟨0, OwnA.nil _ _⟩
      · exact ⟨0, OwnA.nil _ _⟩) hB2.size (by omega)
    rw [← hw3]
    exact h
  have HB3 := keepHid ((HB1.out.trans (hB2.mono HB1.out.size)).trans (hB3.mono (Nat.le_trans HB1.out.size hB2.size)))
  have HOF3 := keepHid (HOF.out _ 5 5 (Nat.le_refl _) (by omega) w3 hS3.sts)
  have HOK := keepHid (of_ok HXS.out)
  have HPT := keepHid (pdt_of HXS.out)
  clear hB2 hB3 hO2 hS3 HOF
  obtain ⟨p0, s0, hps⟩ : ∃ p s, ofP (trX k m) = (p, s) := ⟨_, _, rfl⟩
  rw [hps] at HOF3 HOK HPT HCOME
  dsimp only at HOK HPT HCOME
  clear hps
  go_wp2_with fail
  try rw [hw2]
  try rw [hw3]
  clear hw2 hw3
  go_wp2_with fail
  refine HOF3.out.mono ?_
  rintro e w4 ⟨O4, gp, A4, k4, rfl, ho4, hp4, hl4, ha4, hb4⟩
  dsimp only at ho4 hp4
  have hb4' := HB3.out.trans (hb4.mono HB3.out.size)
  have HM0 : Hid (TrMid w w4 O4 gp k m N p0 s0) := keepHid ⟨hp4, fun b hb => Nat.le_trans HB3.out.size (hl4 b hb), hb4', HOK.out.1, HPT.out, HCOME.out⟩
  have cv4 := run_str (c := k4) 31 5 9 Tryz.underlying31 Tryz.underlying5 Tryz.underlying9 ho4.bys2
  clear ho4 hp4 hl4 ha4 hb4 hb4' HOF3 HCOME HOK HPT
  dsimp only
  go_wp2_with fail
  clear cv4 a1 a2 a3 a4 b1 b2 b3 b4 c1 c2
  go_loopw [11, 10] (fun iv sv wr => ∃ (i : Nat) (O : Nat → Prop) (p : Pd) (al : List UInt8), i ≤ N ∧ iv = .int .i64 (i : Int) ∧ sv = .string (strB al) ∧ Hid (TrMid w wr O gp k m (N - i) p al)) (fun iv _ _ => N - (intOf iv).toNat)
  case atStart => exact ⟨0, O4, p0, s0, Nat.zero_le _, rfl, rfl, HM0⟩
  case round =>
    obtain ⟨i, O, p, al, hi, rfl, rfl, HM⟩ := hrel
    generalize wr = wq at *
    clear HM0
    by_cases hlt : i < N
    · have hltI : (i : Int) < (N : Int) := by omega
      obtain ⟨j, hj⟩ : ∃ j, N - i = j + 1 := ⟨N - i - 1, by omega⟩
      rw [hj] at HM
      have HJ : Hid (N - (i + 1) = j) := keepHid (by omega)
      obtain ⟨q, hq1, hq2, hq3⟩ := HM.out.left
      have hst : p.st = 0 := by
        unfold goTr at hq1
        split at hq1
        · assumption
        · cases hq1
      unfold goTr at hq1
      rw [if_pos hst] at hq1
      have hal := goTr_le _ _ _ _ _ hq1
      rw [List.length_append, List.length_replicate] at hal
      have HQ : Hid (∃ q, goTr (trX k m) j (tickP (trX k m) p).1 (al ++ (tickP (trX k m) p).2) = some (q, List.replicate (k + 1) 120) ∧ q.st = 2 ∧ q.pos = 3) := keepHid ⟨q, hq1, hq2, hq3⟩
      have HSA := keepHid (state_any18 HM.out.ply)
      rw [hst, show ((0 : Nat) : Int) = 0 from rfl] at HSA
      have HTK := keepHid (tick_ply HXS.out HM.out.ply HM.out.ok HM.out.few.le)
      have HOK := keepHid (tick_ok HXS.out HM.out.ok).1
      have HPT := keepHid (pdt_tick HXS.out HM.out.few)
      obtain ⟨p2, s2, hps⟩ : ∃ p' s', tickP (trX k m) p = (p', s') := ⟨_, _, rfl⟩
      rw [hps] at HTK HOK HPT HQ hal
      dsimp only at HOK HPT HQ hal
      have hadd : ∀ w, (Op.stringOp .add (strB al) (strB s2)).run Tryz.prog w = .ok (.string (strB (al ++ s2))) w := fun w => run_strAdd al s2 (by omega) w
      clear hps hq1 hq2 hq3 hst hal hj
      go_wp2_with fail
      refine HSA.out.mono ?_
      rintro e w5 ⟨rfl, hw5⟩
      subst w5
      go_wp2_with fail
      refine HTK.out.mono ?_
      intro e w6 hp6
      obtain ⟨O6, A6, k6, rfl, h6⟩ := hp6.out
      clear hp6
      dsimp only at h6 ⊢
      have HM6 : Hid (TrMid w w6 O6 gp k m j p2 (al ++ s2)) := keepHid ⟨h6.ply, h6.low HM.out.low HM.out.bel.size, HM.out.bel.trans (h6.below HM.out.low HM.out.bel.size), HOK.out, HPT.out, HQ.out⟩
      have cv6 := run_str (c := k6) 31 5 9 Tryz.underlying31 Tryz.underlying5 Tryz.underlying9 h6.snt.bys
      dsimp only at cv6
      clear h6 HSA HTK HOK HPT HQ
      go_wp2
      go_roundw
      case rel => exact ⟨i + 1, O6, p2, al ++ s2, by omega, by go_num, by first | rfl | trivial, keepHid (by rw [HJ.out]; exact HM6.out)⟩
      case measure => simp [intOf]; omega
    · obtain rfl : i = N := by omega
      rw [Nat.sub_self] at HM
      obtain ⟨q, hq1, hq2, hq3⟩ := HM.out.left
      unfold goTr at hq1
      injection hq1 with hq1
      injection hq1 with hq1 hq4
      subst hq1 hq4
      have HSA := keepHid (state_any18 HM.out.ply)
      have HAT := keepHid (at_any18 HM.out.ply)
      rw [hq2, show ((2 : Nat) : Int) = 2 from rfl] at HSA
      rw [hq3, show ((3 : Nat) : Int) = 3 from rfl] at HAT
      have hiN : ¬ (i : Int) < (i : Int) := by omega
      have HBE := keepHid HM.out.bel
      clear hq2 hq3 HM
      go_wp2_with fail
      go_loopw [13, 12] (fun iv sv wr => ∃ i2 : Nat, i2 ≤ k + 1 ∧ iv = .int .i64 (i2 : Int) ∧ sv = .string (strB (List.replicate i2 120)) ∧ wr = wq) (fun iv _ _ => k + 1 - (intOf iv).toNat)
      case atStart => exact ⟨0, Nat.zero_le _, rfl, rfl, rfl⟩
      case round =>
        obtain ⟨i2, hi2, rfl, rfl, rfl⟩ := hrel
        by_cases hle : i2 ≤ k
        · have hleI : (i2 : Int) ≤ (k : Int) := by omega
          have hadd : ∀ w, (Op.stringOp .add (strB (List.replicate i2 120)) ⟨#[120]⟩).run Tryz.prog w = .ok (.string (strB (List.replicate (i2 + 1) 120))) w := fun w => by
            rw [← rep_snoc]
            exact run_strAdd _ [120] (by rw [List.length_replicate]; simp; omega) w
          go_wp2
          go_roundw
          case rel => exact ⟨i2 + 1, by omega, by go_num, by first | rfl | trivial, by first | rfl | trivial⟩
          case measure => simp [intOf]; omega
        · obtain rfl : i2 = k + 1 := by omega
          have hleI : ¬ (((k + 1 : Nat) : Int)) ≤ (k : Int) := by omega
          have hq := strB_beq (List.replicate (k + 1) 120) (List.replicate (k + 1) 120)
          rw [decide_eq_true rfl] at hq
          go_wp2_with (first | ((with_reducible refine HSA.out.mono ?_); rintro e w6 ⟨rfl, rfl⟩) | ((with_reducible refine HAT.out.mono ?_); rintro e w6 ⟨rfl, rfl⟩))
          go_ret
          exact ⟨rfl, HBE.out⟩
end Go.Proofs.YtgndcgknedmalaaGreatDoor
