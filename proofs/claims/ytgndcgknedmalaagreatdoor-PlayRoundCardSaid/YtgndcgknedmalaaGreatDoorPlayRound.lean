/-
  A dialogue that goes round without waiting: the law's walk.
-/
import Derived.Test.YtgndcgknedmalaaGreatDoorPlayStep
namespace Go.Proofs.YtgndcgknedmalaaGreatDoor
open Go.RowKit
set_option linter.unusedVariables false

def rnA : Sp := ⟨[97], 0, [120], [], 0, [], 0⟩
def rnB : Sp := ⟨[], 0, [120], [], 0, [], 0⟩
def rnC : Sp := ⟨[], 2, [], [], 0, [97], 0⟩
/-- k texts, and back to the first one. -/
def rnS (k : Nat) : List Sp := rnA :: (List.replicate k rnB ++ [rnC])
def rnX (k : Nat) : List Pst := ⟨0, [120], [], [], 0, -1⟩ :: (List.replicate k ⟨0, [120], [], [], 0, -1⟩ ++ [⟨2, [], [], [], 0, 0⟩])
theorem rn_find (k : Nat) : findS (rnS k) [97] = 0 := by
  show (if ([97] : List UInt8) = [] then (-1 : Int) else findG ((rnS k).map Sp.label) [97] 0) = 0
  rw [if_neg (by decide)]
  show findG ([97] :: _) [97] 0 = 0
  unfold findG
  rw [if_pos rfl]; rfl
theorem rn_none (ss : List Sp) : findS ss [] = -1 := by unfold findS; rw [if_pos rfl]
theorem rnX_is (k : Nat) : pstsO (rnS k) = rnX k := by
  have h97 := rn_find k
  have e : pstsO (rnS k) = pstO (rnS k) rnA :: (List.replicate k (pstO (rnS k) rnB) ++ [pstO (rnS k) rnC]) := by
    unfold pstsO
    show List.map (pstO (rnS k)) (rnA :: (List.replicate k rnB ++ [rnC])) = _
    rw [List.map_cons, List.map_append, List.map_replicate]; rfl
  rw [e]
  generalize rnS k = ss at *
  have e1 : pstO ss rnA = ⟨0, [120], [], [], 0, -1⟩ := by show (⟨0, [120], [], [], 0, findS ss []⟩ : Pst) = _; rw [rn_none]
  have e2 : pstO ss rnB = ⟨0, [120], [], [], 0, -1⟩ := by show (⟨0, [120], [], [], 0, findS ss []⟩ : Pst) = _; rw [rn_none]
  have e3 : pstO ss rnC = ⟨2, [], [], [], 0, 0⟩ := by show (⟨2, [], [], [], 0, findS ss [97]⟩ : Pst) = _; rw [h97]
  rw [e1, e2, e3]
  rfl
theorem rn_mem {k : Nat} {x : Sp} (h : x ∈ rnS k) : x = rnA ∨ x = rnB ∨ x = rnC := by
  unfold rnS at h
  rcases List.mem_cons.1 h with h | h
  · exact .inl h
  · rcases List.mem_append.1 h with h | h
    · exact .inr (.inl (List.eq_of_mem_replicate h))
    · exact .inr (.inr (by simpa using h))
theorem rn_ok {k : Nat} (hk : k ≤ 19) : OfOk (rnS k) := by
  have hl : (rnS k).length = k + 2 := by unfold rnS; simp
  refine ⟨by rw [hl]; omega, fun i x hx => ?_, fun x hx => ?_, fun x hx a ha => ?_, fun x hx => ?_, fun x hx => ?_⟩
  · have hf : findS ((rnS k).take i) x.label < 0 := by
      cases i with
      | zero =>
        unfold findS
        split
        · decide
        · exact (by decide : (-1 : Int) < 0)
      | succ i =>
        have hx' : (List.replicate k rnB ++ [rnC])[i]? = some x := hx
        have hm := List.mem_of_getElem? hx'
        have : x.label = [] := by
          rcases List.mem_append.1 hm with h | h
          · rw [List.eq_of_mem_replicate h]; rfl
          · obtain rfl : x = rnC := by simpa using h
            rfl
        rw [this, rn_none]; decide
    rcases rn_mem (List.mem_of_getElem? hx) with rfl | rfl | rfl
    · exact ⟨hf, (fun h => absurd (show (0 : Int) = 1 from h) (by decide)), Nat.zero_le _, (fun t ht => by cases (show t ∈ ([] : List (List UInt8)) from ht))⟩
    · exact ⟨hf, (fun h => absurd (show (0 : Int) = 1 from h) (by decide)), Nat.zero_le _, (fun t ht => by cases (show t ∈ ([] : List (List UInt8)) from ht))⟩
    · refine ⟨hf, (fun h => absurd (show (2 : Int) = 1 from h) (by decide)), Nat.zero_le _, fun t ht => ?_⟩
      obtain rfl : t = [97] := by simpa using (show t ∈ ([[97]] : List (List UInt8)) from ht)
      rw [rn_find]; decide
  · rcases rn_mem hx with rfl | rfl | rfl <;> decide
  · rcases rn_mem hx with rfl | rfl | rfl <;> cases ha
  · rcases rn_mem hx with rfl | rfl | rfl <;> decide
  · rcases rn_mem hx with rfl | rfl | rfl <;> decide
def chkRn (k : Nat) : Bool := (ofP (rnX k)).1.st == 2 && (ofP (rnX k)).1.tr == [] && decide ((ofP (rnX k)).2.length ≤ 256) && decide (256 * (k + 1) / (k + 2) ≤ (ofP (rnX k)).2.length + 1)
theorem rn_all : ∀ k : Fin 20, chkRn k.val = true := by decide +kernel
theorem rn_come {k : Nat} (hk : k ≤ 19) : (ofP (rnX k)).1.st = 2 ∧ (ofP (rnX k)).1.tr = [] ∧ (ofP (rnX k)).2.length ≤ 256 ∧ 256 * (k + 1) / (k + 2) ≤ (ofP (rnX k)).2.length + 1 := by
  have h := rn_all ⟨k, by omega⟩
  unfold chkRn at h
  simp only [Bool.and_eq_true, beq_iff_eq, decide_eq_true_eq] at h
  exact ⟨h.1.1.1, h.1.1.2, h.1.2, h.2⟩
/-- The first step's label is written. -/
theorem own_label0 {w : World} {base n c g : Nat} {x : Sp} {r : List Sp} (l : List UInt8) (h : OwnSt w base (.slice (some ⟨g, 0, none⟩) n c) n (x :: r)) :
    OwnSt (w.setCell ⟨g, 0, none⟩ (.string (strB l))) base (.slice (some ⟨g, 0, none⟩) n c) n ({ x with label := l } :: r) := by
  obtain ⟨zs, e, h1, h2⟩ := h
  cases zs with
  | nil => cases e
  | cons z zs =>
    rw [List.map_cons] at e
    injection e with e1 e2
    subst e1
    refine ⟨({ z.1 with label := l }, z.2) :: zs, by rw [List.map_cons, e2], ?_, fun y hy => ?_⟩
    · have := (World.ownsRow.stored h1 0 (.string (strB l))).1
      exact this
    · have hA : ∀ y ∈ z :: zs, ∃ m, OwnA (w.setCell ⟨g, 0, none⟩ (.string (strB l))) base y.2 m y.1.arms := fun y hy => by
        obtain ⟨m, hm⟩ := h2 y hy
        refine ⟨m, own_keep hm fun i hi hl => Below.heap_setCell w _ _ i (fun e => ?_)⟩
        obtain ⟨c1, b1⟩ := own_obj hm hi
        obtain ⟨c2, b2⟩ := own_obj h1 (i := g) rfl
        exact blk_type b1 b2 (by decide) e
      rcases List.mem_cons.1 hy with rfl | hy
      · exact hA z List.mem_cons_self
      · exact hA y (List.mem_cons_of_mem _ hy)
set_option maxRecDepth 100000 in
set_option maxHeartbeats 16000000 in
theorem round_walk (a : Nat) (ha : a ≤ 255) (w : World) (hE : Errs w) :
    Calls Tryz.prog 4 #[.int .u8 (a : Int)] w fun e w' => e = .returned (.bool true) ∧ Below w.heap.size w w' := by
  have HA := keepHid (awake_any w hE)
  clear hE
  obtain ⟨n, hn⟩ : ∃ n, a % 20 = n := ⟨_, rfl⟩
  have a1 : (a : Int) % 20 = (n : Int) := by omega
  have a2 : Int.tmod (a : Int) 20 = (n : Int) := by rw [Int.tmod_eq_emod_of_nonneg (by omega)]; exact a1
  have a3 : IntKind.u8.wrap (n : Int) = (n : Int) := by unfold IntKind.wrap; simp [IntKind.signed, IntKind.bits]; omega
  have a4 : IntKind.i64.wrap (n : Int) = (n : Int) := by rw [IntKind.wrap_i64]; omega
  obtain ⟨k, hk⟩ : ∃ k, n + 1 = k := ⟨_, rfl⟩
  have HK := keepHid hk
  have c1 : 1 + (n : Int) = (k : Int) := by omega
  have hn19 : n ≤ 19 := by omega
  have hk1 : 1 ≤ k := by omega
  have hk20 : k ≤ 20 := by omega
  have hkI : (k : Int) ≤ 20 := by omega
  have HCOME := keepHid (rn_come hn19)
  have HOKS := keepHid (rn_ok hn19)
  have HOF := keepHid (fun A m c h1 h2 w' hS => of_any18 HOKS.out A m c h1 h2 w' hS)
  rw [rnX_is] at HOF
  clear hn hk ha
  go_enter Tryz.func4, Tryz.ntmps4
  go_wp2_with fail
  refine HA.out.mono ?_
  rintro e w1 ⟨rfl, hb1⟩
  have HB1 := keepHid hb1
  clear hb1 HA
  go_wp2_with fail
  clear a1 a2 a3 a4 c1
  go_loopw [5, 4] (fun iv v wr => ∃ (i : Nat) (P : Option Addr) (pc : Nat), i ≤ k ∧ iv = .int .i64 (i : Int) ∧ v = .slice P i pc ∧ Hid (OwnSt wr w.heap.size (.slice P i pc) i (List.replicate i rnB)) ∧ Hid (Below w.heap.size w wr)) (fun iv _ _ => k - (intOf iv).toNat)
  case atStart => exact ⟨0, none, 0, Nat.zero_le _, rfl, rfl, keepHid (OwnSt.nil _ _), HB1⟩
  case round =>
    obtain ⟨i, P, pc, hi, rfl, rfl, HO, HB⟩ := hrel
    generalize wr = wq at *
    by_cases hlt : i < k
    · have hltI : (i : Int) < (k : Int) := by omega
      obtain ⟨w2, hw2⟩ : ∃ w2, wq.alloc (.cells #[.string ⟨#[]⟩, .int .i64 0, .string ⟨#[120]⟩, .slice none 0 0, .int .i64 0, .string ⟨#[]⟩, .int .i64 0] 26) = w2 := ⟨_, rfl⟩
      have hB2 : Below wq.heap.size wq w2 := by rw [← hw2]; exact (Below.refl _ _).alloc (Nat.le_refl _) _
      have HK2 : Hid (Blk w2 wq.heap.size 26 (stA rnB (.slice none 0 0))) := keepHid (by rw [← hw2]; exact Blk.new _ _ _)
      have HO2 := keepHid (HO.out.below hB2)
      have HB2 := keepHid (HB.out.trans (hB2.mono HB.out.size))
      have HG2 : Hid (w.heap.size ≤ w2.heap.size) := keepHid HB2.out.size
      clear hB2
      go_wp2_with (at_builtin; refine wpList_append_st rfl _ _ rfl w.heap.size (.slice P i pc) i (List.replicate i rnB) (by rfl) HO2.out wq.heap.size (by rfl) rnB (.slice none 0 0) 0 HK2.out (OwnA.nil _ _) (by omega) HG2.out ?_)
      intro G cap w3 h3 _ _ hb3
      have HO3 : Hid (OwnSt w3 w.heap.size (.slice (some ⟨G, 0, none⟩) (i + 1) cap) (i + 1) (List.replicate (i + 1) rnB)) := keepHid (by rw [List.replicate_succ']; exact h3)
      have HB3 := keepHid (HB2.out.trans hb3)
      clear h3 hb3 hw2
      go_wp2
      go_roundw
      case rel => exact ⟨i + 1, some ⟨G, 0, none⟩, cap, by omega, by go_num, rfl, HO3, HB3⟩
      case measure => simp [intOf]; omega
    · obtain rfl : i = k := by omega
      obtain ⟨A', c', e0, hc1, hc2, hA⟩ := HO.out.form
      obtain ⟨rfl, rfl⟩ : P = A' ∧ pc = c' := by injection e0 with e1 e2 e3; exact ⟨e1, e3⟩
      obtain ⟨g, rfl⟩ : ∃ g, P = some ⟨g, 0, none⟩ := by
        rcases hA with ⟨_, h⟩ | ⟨g, h, _⟩
        · omega
        · exact ⟨g, h⟩
      have hrep : List.replicate i rnB = rnB :: List.replicate n rnB := by rw [← HK.out, List.replicate_succ]
      rw [hrep] at HO
      obtain ⟨ad, _, _, _, had, _, b0, _⟩ := HO.out.sts.at_ (k := 0) rfl
      obtain rfl := (Option.some.inj had).symm
      have b0' : wq.cell? ⟨g, 0, none⟩ = some (.string ⟨#[]⟩) := b0
      have hfz : ∀ j, wq.frozen? ⟨g, j, none⟩ = false := fun j => by
        obtain ⟨zs, _, h1, _⟩ := HO.out
        exact World.ownsRow.frozenAt h1 j
      have HO4 := keepHid (own_label0 [97] HO.out)
      obtain ⟨w4, hw4⟩ : ∃ w4, wq.setCell ⟨g, 0, none⟩ (.string ⟨#[97]⟩) = w4 := ⟨_, rfl⟩
      have hO4 : OwnSt w4 w.heap.size (.slice (some ⟨g, 0, none⟩) i pc) i (rnA :: List.replicate n rnB) := by rw [← hw4]; exact HO4.out
      have hgw : w.heap.size ≤ g := by
        rcases hA with ⟨h, _⟩ | ⟨g', h, h', _⟩
        · cases h
        · injection h with h; injection h with h; omega
      have hB4 : Below w.heap.size w w4 := by rw [← hw4]; exact HB.out.setCell (p := ⟨g, 0, none⟩) hgw _
      obtain ⟨w5, hw5⟩ : ∃ w5, w4.alloc (.cells #[.string ⟨#[]⟩, .int .i64 2, .string ⟨#[]⟩, .slice none 0 0, .int .i64 0, .string ⟨#[97]⟩, .int .i64 0] 26) = w5 := ⟨_, rfl⟩
      have hB5 : Below w4.heap.size w4 w5 := by rw [← hw5]; exact (Below.refl _ _).alloc (Nat.le_refl _) _
      have HK5 : Hid (Blk w5 w4.heap.size 26 (stA rnC (.slice none 0 0))) := keepHid (by rw [← hw5]; exact Blk.new _ _ _)
      have HO5 := keepHid (hO4.below hB5)
      have HB5 := keepHid (hB4.trans (hB5.mono hB4.size))
      have HG5 : Hid (w.heap.size ≤ w5.heap.size) := keepHid HB5.out.size
      have hi0 : (0 : Int) < (i : Int) := by omega
      clear e0 hA hrep b0 had hO4 hB4 hB5 HO HO4 HB
      go_upto_region 10 with fail
      try rw [hw4]
      clear b0' hfz hw4
      go_wp2_with (at_builtin; refine wpList_append_st rfl _ _ rfl w.heap.size (.slice (some ⟨g, 0, none⟩) i pc) i (rnA :: List.replicate n rnB) (by rfl) HO5.out w4.heap.size (by rfl) rnC (.slice none 0 0) 0 HK5.out (OwnA.nil _ _) (by omega) HG5.out ?_)
      intro G cap w6 h6 _ _ hb6
      have HO6 : Hid (OwnSt w6 w.heap.size (.slice (some ⟨G, 0, none⟩) (i + 1) cap) (i + 1) (rnS n)) := keepHid h6
      have HB6 := keepHid (HB5.out.trans hb6)
      obtain ⟨A', c', e0, hd1, hd2, _⟩ := HO6.out.form
      obtain rfl : cap = c' := by injection e0
      have HOF6 := keepHid (HOF.out _ _ _ hd1 hd2 w6 HO6.out.sts)
      clear h6 hb6 hw5 e0 hd1 hd2 HOF
      go_wp2_with fail
      refine HOF6.out.mono ?_
      rintro e w7 ⟨O7, gp, A7, k7, rfl, ho7, hp7, hl7, ha7, hb7⟩
      obtain ⟨h1, h2, h3, h4⟩ := HCOME.out
      have HSA := keepHid (state_any18 hp7)
      have HTA := keepHid (trace_any18 hp7 (by rw [h2]; exact Nat.zero_le _))
      rw [h1, show ((2 : Nat) : Int) = 2 from rfl] at HSA
      rw [h2, List.length_nil] at HTA
      have HB7 := keepHid (HB6.out.trans (hb7.mono HB6.out.size))
      obtain ⟨L, hL⟩ : ∃ L, (ofP (rnX n)).2.length = L := ⟨_, rfl⟩
      rw [hL] at h3 h4
      obtain ⟨Q, hQ⟩ : ∃ Q, 256 * (n + 1) / (n + 2) = Q := ⟨_, rfl⟩
      rw [hQ] at h4
      have hQ256 : Q ≤ 256 := by rw [← hQ]; exact Nat.le_trans (Nat.div_le_div_right (Nat.mul_le_mul_left 256 (show n + 1 ≤ n + 2 by omega))) (by rw [Nat.mul_div_cancel _ (by omega)]; exact Nat.le_refl _)
      have hQI : Int.tdiv (256 * (i : Int)) ((i : Int) + 1) = (Q : Int) := by
        rw [← hQ, Int.tdiv_eq_ediv_of_nonneg (by omega)]
        have : (i : Int) = ((n + 1 : Nat) : Int) := by rw [HK.out]
        rw [this]
        push_cast
        rfl
      have hLI : (L : Int) ≤ 256 := by omega
      have hLQ : (Q : Int) - 1 ≤ (L : Int) := by omega
      have hne : ¬ ((i : Int) + 1) = 0 := by omega
      have hne2 : (((i : Int) + 1) == 0) = false := by simp; omega
      clear ho7 hp7 hl7 ha7 hb7 h1 h2 h4 hQ HOF6 h3
      go_wp2_with (first | ((with_reducible refine HSA.out.mono ?_); rintro e w8 ⟨rfl, rfl⟩) | ((with_reducible refine HTA.out.mono ?_); rintro e w9 ⟨⟨At, kt, rfl, hst⟩, hb9⟩; have HB9 := keepHid (HB7.out.trans (hb9.mono HB7.out.size)); clear hst hb9))
      go_ret
      exact ⟨rfl, HB9.out⟩
end Go.Proofs.YtgndcgknedmalaaGreatDoor
