/-
  A Demux is given a byte.
-/
import Derived.Test.YtadfchdcaenglaaDemux
namespace Go.Proofs.Ytadfchdcaenglaa
open Go.RowKit
set_option linter.unusedVariables false

def PutD (L g md : Nat) (ts : List Nat) (w : World) (e : Ending) (w' : World) : Prop := e = .returned (.int .i64 (md : Int)) ∧ Dmx w' L g md (ts ++ [md]) ∧ DT L w w' ∧ Turn (fun i => i = g ∨ ∃ cur, Blk w i 40 cur) w w'
theorem PutD.drew {L g md : Nat} {ts : List Nat} {w w' : World} {e : Ending} (h : PutD L g md ts w e w') : PutD L g md ts w e w'.drew :=
  ⟨h.1, h.2.1.drew, ⟨h.2.2.1.os, h.2.2.1.tape, h.2.2.1.output, h.2.2.1.size, h.2.2.1.old, h.2.2.1.oth⟩, h.2.2.2.drew⟩
theorem putD_more {ss : List Sg} {s : Sg} {md : Nat} (h : s.m = md) : putD md (ss ++ [s]) = ss ++ [⟨s.m, s.f, s.n + 1⟩] := by
  unfold putD
  rw [List.getLast?_append]
  simp [h]
theorem putD_new {ss : List Sg} {md T : Nat} (hT : lenD ss = T) (h : ∀ s, ss.getLast? = some s → s.m ≠ md) : putD md ss = ss ++ [⟨md, T, 1⟩] := by
  subst hT
  unfold putD lenD
  rcases he : ss.getLast? with _ | s
  · rw [List.getLast?_eq_none_iff] at he
    subst he; rfl
  · simp only [if_neg (h s he)]
/-- The last segment goes on. -/
theorem put_more {w : World} {L g md G c j : Nat} {ts : List Nat} {ss : List Sg} {s : Sg} (h1 : Blk w g 49 #[.int .i64 (md : Int), .slice (some ⟨G, 0, none⟩) (j + 1) c]) (h2 : OwnS w L (.slice (some ⟨G, 0, none⟩) (j + 1) c) (j + 1) (ss ++ [s])) (he : segs ts = ss ++ [s]) (hj : ss.length = j) (hm : s.m = md)
    (a1 : L ≤ g) (a2 : md ≤ 2) (a3 : ∀ m ∈ ts, m ≤ 2) (u : Nat) (hu : u = s.n + 1) : PutD L g md ts w (.returned (.int .i64 (md : Int))) (w.setCell ⟨G, j * 3 + 2, none⟩ (.int .i64 (u : Int))) := by
  subst hj hu
  have h3 := h2.grow (s.n + 1)
  obtain ⟨cur, hk⟩ := own_obj h2 (i := G) rfl
  have hne : g ≠ G := fun e => by subst e; have := blk_same h1 hk; cases this
  have hG : L ≤ G := (World.ownsRow.lt h2 G rfl).1
  have hs : segs (ts ++ [md]) = ss ++ [⟨s.m, s.f, s.n + 1⟩] := by rw [segs_snoc, he, putD_more hm]
  have hl : (segs (ts ++ [md])).length = ss.length + 1 := by rw [hs]; simp
  refine ⟨rfl, ⟨⟨some ⟨G, 0, none⟩, c, by rw [hl]; exact h1.far hne _, by rw [hl, hs]; exact h3, fun e => by rw [hs] at e; simp at e⟩, a1, a2, fun m hm => ?_⟩, DT.setCell hk (.inr rfl) hG _ _, (Turn.refl _ w).setCell (.inl (.inr ⟨cur, hk⟩)) _⟩
  rcases List.mem_append.1 hm with h | h
  · exact a3 m h
  · rw [List.mem_singleton.1 h]; exact a2
/-- A new segment. -/
theorem put_new {w w1 w2 : World} {L g md c T N G cap B : Nat} {A : Option Addr} {ts : List Nat} (h1 : Blk w g 49 #[.int .i64 (md : Int), .slice A N c]) (h2 : OwnS w L (.slice A N c) N (segs ts)) (hT : ts.length = T) (hN : (segs ts).length = N) (hm : ∀ s, (segs ts).getLast? = some s → s.m ≠ md)
    (a1 : L ≤ g) (a2 : md ≤ 2) (a3 : ∀ m ∈ ts, m ≤ 2) (hb : Below w.heap.size w w1) (k1 : OwnS w2 L (.slice (some ⟨G, 0, none⟩) (N + 1) cap) (N + 1) (segs ts ++ [⟨md, T, 1⟩])) (k2 : w1.grownBy w2 (Value.slice A N c).ownBlock) (k3 : (Value.slice A N c).ownBlock = some G ∨ w.heap.size ≤ G) :
    w2.cell? ⟨g, 0, none⟩ = some (.int .i64 (md : Int)) ∧ w2.cell? ⟨g, 1, none⟩ = some (.slice A N c) ∧ w2.frozen? ⟨g, 1, none⟩ = false ∧
      PutD L g md ts w (.returned (.int .i64 (md : Int))) (w2.setCell ⟨g, 1, none⟩ (.slice (some ⟨G, 0, none⟩) (N + 1) cap)) ∧ (w2.setCell ⟨g, 1, none⟩ (.slice (some ⟨G, 0, none⟩) (N + 1) cap)).cell? ⟨g, 0, none⟩ = some (.int .i64 (md : Int)) := by
  have hlt := h1.lt
  have hgne : (Value.slice A N c).ownBlock ≠ some g := fun e => by
    obtain ⟨cur, hk⟩ := own_obj h2 e
    have := blk_same h1 hk; cases this
  have hkg : Blk w2 g 49 #[.int .i64 (md : Int), .slice A N c] := (h1.below hb hlt).only k2 (fun e => hgne e.symm)
  have hne : G ≠ g := fun e => by
    rcases k3 with k3 | k3
    · rw [e] at k3; exact hgne k3
    · omega
  have hs : segs (ts ++ [md]) = segs ts ++ [⟨md, T, 1⟩] := by rw [segs_snoc]; exact putD_new (by rw [segs_len, hT]) hm
  have hl : (segs (ts ++ [md])).length = N + 1 := by rw [hs]; simp [hN]
  have hlow := World.ownsRow.lt h2
  have ht : Turn (fun i => (Value.slice A N c).ownBlock = some i) w w2 := ⟨k2.os.trans hb.os, k2.tape.trans hb.tape, k2.output.trans hb.output, Nat.le_trans hb.size k2.size, fun i hi hn => (k2.block i (Nat.lt_of_lt_of_le hi hb.size) (fun e => hn e.symm)).trans (hb.block i hi)⟩
  refine ⟨hkg.cell 0, hkg.cell 1, hkg.frozen 1, ⟨rfl, ⟨⟨some ⟨G, 0, none⟩, cap, by rw [hl]; exact hkg.put 1 _, by
    rw [hl, hs]
    exact k1.keep fun i hi hlt => Below.heap_setCell w2 _ _ i (fun e => hne (by rw [← Option.some.inj hi] at e; exact e)), fun e => by rw [hs] at e; simp at e⟩, a1, a2, fun m hm => ?_⟩, ?_, (ht.mono fun i hi => .inr (own_obj h2 hi)).setCell (.inl (.inl rfl)) _⟩, (hkg.put 1 _).cell 0⟩
  · rcases List.mem_append.1 hm with h | h
    · exact a3 m h
    · rw [List.mem_singleton.1 h]; exact a2
  · refine (DT.of_turn ht fun i hi => ⟨(hlow i hi).1, fun cs t hk => ?_⟩).trans (DT.setCell hkg (.inl rfl) a1 _ _)
    obtain ⟨cur, hk'⟩ := own_obj h2 hi
    exact .inr (blk_same hk hk')
set_option maxHeartbeats 4000000 in
theorem put_first {w : World} {L g md : Nat} {ts : List Nat} (h : Dmx w L g md ts) (x : Int) (hto : ts.length < 1099511627776) (h0 : segs ts = []) : Calls Try.prog 13 #[.pointer (some ⟨g, 0, none⟩), .int .u8 x] w (PutD L g md ts w) := by
  have hlt := h.lt
  have HLEN : Hid (∀ wx, Below w.heap.size w wx → Calls Try.prog 15 #[.pointer (some ⟨g, 0, none⟩)] wx fun e w' => e = .returned (.int .i64 (ts.length : Nat)) ∧ Below w.heap.size w w') := keepHid (fun wx hb => (len_any (h.below hb) (by omega)).mono fun e w' ⟨e1, e2⟩ => ⟨e1, hb.trans (e2.mono hb.size)⟩)
  obtain ⟨⟨A, c, h1, h2, h3⟩, a1, a2, a3⟩ := h
  have c0 : w.cell? ⟨g, 0, none⟩ = some (.int .i64 (md : Int)) := h1.cell 0
  have c1 : w.cell? ⟨g, 1, none⟩ = some (.slice A (segs ts).length c) := h1.cell 1
  have hcnt := (segOk ts).count
  obtain ⟨T, hT⟩ : ∃ T, ts.length = T := ⟨_, rfl⟩
  obtain ⟨N, hN⟩ : ∃ N, (segs ts).length = N := ⟨_, rfl⟩
  rw [hT] at hcnt hto HLEN
  rw [hN] at c1 h1 h2 hcnt
  have HNEW : Hid ((∀ s, (segs ts).getLast? = some s → s.m ≠ md) → ∀ w1, Below w.heap.size w w1 → w1.cell? ⟨g, 0, none⟩ = some (.int .i64 (md : Int)) ∧ w1.cell? ⟨g, 1, none⟩ = some (.slice A N c) ∧ (w1.alloc (.cells #[.int .i64 (md : Int), .int .i64 (T : Int), .int .i64 1] 40)).cell? ⟨g, 1, none⟩ = some (.slice A N c) ∧ OwnS (w1.alloc (.cells #[.int .i64 (md : Int), .int .i64 (T : Int), .int .i64 1] 40)) L (.slice A N c) N (segs ts) ∧
      (∀ j u, (([⟨md, T, 1⟩] : List Sg).flatMap sgL)[j]? = some u → (w1.alloc (.cells #[.int .i64 (md : Int), .int .i64 (T : Int), .int .i64 1] 40)).cell? ((⟨w1.heap.size, 0, none⟩ : Addr).add j) = some u) ∧ L ≤ (w1.alloc (.cells #[.int .i64 (md : Int), .int .i64 (T : Int), .int .i64 1] 40)).heap.size ∧
      ∀ G cap w2, OwnS w2 L (.slice (some ⟨G, 0, none⟩) (N + 1) cap) (N + 1) (segs ts ++ [⟨md, T, 1⟩]) → (w1.alloc (.cells #[.int .i64 (md : Int), .int .i64 (T : Int), .int .i64 1] 40)).grownBy w2 (Value.slice A N c).ownBlock → ((Value.slice A N c).ownBlock = some G ∨ G = (w1.alloc (.cells #[.int .i64 (md : Int), .int .i64 (T : Int), .int .i64 1] 40)).heap.size) →
        w2.cell? ⟨g, 0, none⟩ = some (.int .i64 (md : Int)) ∧ w2.cell? ⟨g, 1, none⟩ = some (.slice A N c) ∧ w2.frozen? ⟨g, 1, none⟩ = false ∧
        PutD L g md ts w (.returned (.int .i64 (md : Int))) (w2.setCell ⟨g, 1, none⟩ (.slice (some ⟨G, 0, none⟩) (N + 1) cap)) ∧ (w2.setCell ⟨g, 1, none⟩ (.slice (some ⟨G, 0, none⟩) (N + 1) cap)).cell? ⟨g, 0, none⟩ = some (.int .i64 (md : Int))) := keepHid (fun hm w1 hb => by
    have hb' := hb.alloc hb.size (.cells #[.int .i64 (md : Int), .int .i64 (T : Int), .int .i64 1] 40)
    refine ⟨(h1.below hb hlt).cell 0, (h1.below hb hlt).cell 1, (h1.below hb' hlt).cell 1, h2.keep fun i hi hl => hb'.block i hl, World.news_of_block (cs := #[.int .i64 (md : Int), .int .i64 (T : Int), .int .i64 1]) (heap_alloc_new w1 _), by have := hb'.size; omega, fun G cap w2 k1 k2 k3 => put_new h1 h2 hT hN hm a1 a2 a3 hb' (B := 0) k1 k2 (k3.imp id fun e => by rw [e]; exact hb'.size)⟩)
  obtain rfl := h3 h0
  obtain rfl : N = 0 := by rw [← hN, h0]; rfl
  have HNEW2 := keepHid (HNEW.out (fun s hs => by rw [h0] at hs; cases hs))
  clear h1 h2 h3 h0 hN hT HNEW hlt
  go_enter Try.func13, Try.ntmps13
  go_upto_region 2 with fail
  go_region
  go_upto_region 4 with fail
  go_region_law (first
    | (go_simp; go_at_call 15; (with_reducible refine (HLEN.out _ (by first | exact Below.refl _ _ | exact (Below.refl _ _).drew | exact (Below.refl _ _).drew.drew)).mono ?_); rintro e w2 ⟨rfl, hb⟩; obtain ⟨g0, g1, g2, ho, hc, hl, hf⟩ := HNEW2.out w2 hb; have HO2 := keepHid ho; have HC2 := keepHid hc; have HL2 := keepHid hl; have HF2 := keepHid hf; clear hb ho hc hl hf)
    | ((refine step_append_segs rfl (.tmp 44) (.tmp 52) rfl L (.slice none 0 c) 0 (segs ts) (by simp [Act.eval]) HO2.out ⟨w2.heap.size, 0, none⟩ 1 1 [⟨md, T, 1⟩] (by simp [Act.eval]) rfl HC2.out (by omega) (by omega) HL2.out ?_); intro G2 cap w4 q1 q2 q3; obtain ⟨f0, f1, f2, hp, f3⟩ := HF2.out G2 cap w4 q1 q2 q3; have HP := keepHid hp; clear q1 q2 q3 hp))
  all_goals (go_wp2; go_ret; exact HP.out)

set_option maxHeartbeats 4000000 in
theorem put_next {w : World} {L g md : Nat} {ts : List Nat} (h : Dmx w L g md ts) (x : Int) (hto : ts.length < 1099511627776) (h0 : segs ts ≠ []) : Calls Try.prog 13 #[.pointer (some ⟨g, 0, none⟩), .int .u8 x] w (PutD L g md ts w) := by
  have hlt := h.lt
  have HLEN : Hid (∀ wx, Below w.heap.size w wx → Calls Try.prog 15 #[.pointer (some ⟨g, 0, none⟩)] wx fun e w' => e = .returned (.int .i64 (ts.length : Nat)) ∧ Below w.heap.size w w') := keepHid (fun wx hb => (len_any (h.below hb) (by omega)).mono fun e w' ⟨e1, e2⟩ => ⟨e1, hb.trans (e2.mono hb.size)⟩)
  obtain ⟨⟨A, c, h1, h2, h3⟩, a1, a2, a3⟩ := h
  have c0 : w.cell? ⟨g, 0, none⟩ = some (.int .i64 (md : Int)) := h1.cell 0
  have c1 : w.cell? ⟨g, 1, none⟩ = some (.slice A (segs ts).length c) := h1.cell 1
  have hcnt := (segOk ts).count
  obtain ⟨T, hT⟩ : ∃ T, ts.length = T := ⟨_, rfl⟩
  obtain ⟨N, hN⟩ : ∃ N, (segs ts).length = N := ⟨_, rfl⟩
  rw [hT] at hcnt hto HLEN
  rw [hN] at c1 h1 h2 hcnt
  have HNEW : Hid ((∀ s, (segs ts).getLast? = some s → s.m ≠ md) → ∀ w1, Below w.heap.size w w1 → w1.cell? ⟨g, 0, none⟩ = some (.int .i64 (md : Int)) ∧ w1.cell? ⟨g, 1, none⟩ = some (.slice A N c) ∧ (w1.alloc (.cells #[.int .i64 (md : Int), .int .i64 (T : Int), .int .i64 1] 40)).cell? ⟨g, 1, none⟩ = some (.slice A N c) ∧ OwnS (w1.alloc (.cells #[.int .i64 (md : Int), .int .i64 (T : Int), .int .i64 1] 40)) L (.slice A N c) N (segs ts) ∧
      (∀ j u, (([⟨md, T, 1⟩] : List Sg).flatMap sgL)[j]? = some u → (w1.alloc (.cells #[.int .i64 (md : Int), .int .i64 (T : Int), .int .i64 1] 40)).cell? ((⟨w1.heap.size, 0, none⟩ : Addr).add j) = some u) ∧ L ≤ (w1.alloc (.cells #[.int .i64 (md : Int), .int .i64 (T : Int), .int .i64 1] 40)).heap.size ∧
      ∀ G cap w2, OwnS w2 L (.slice (some ⟨G, 0, none⟩) (N + 1) cap) (N + 1) (segs ts ++ [⟨md, T, 1⟩]) → (w1.alloc (.cells #[.int .i64 (md : Int), .int .i64 (T : Int), .int .i64 1] 40)).grownBy w2 (Value.slice A N c).ownBlock → ((Value.slice A N c).ownBlock = some G ∨ G = (w1.alloc (.cells #[.int .i64 (md : Int), .int .i64 (T : Int), .int .i64 1] 40)).heap.size) →
        w2.cell? ⟨g, 0, none⟩ = some (.int .i64 (md : Int)) ∧ w2.cell? ⟨g, 1, none⟩ = some (.slice A N c) ∧ w2.frozen? ⟨g, 1, none⟩ = false ∧
        PutD L g md ts w (.returned (.int .i64 (md : Int))) (w2.setCell ⟨g, 1, none⟩ (.slice (some ⟨G, 0, none⟩) (N + 1) cap)) ∧ (w2.setCell ⟨g, 1, none⟩ (.slice (some ⟨G, 0, none⟩) (N + 1) cap)).cell? ⟨g, 0, none⟩ = some (.int .i64 (md : Int))) := keepHid (fun hm w1 hb => by
    have hb' := hb.alloc hb.size (.cells #[.int .i64 (md : Int), .int .i64 (T : Int), .int .i64 1] 40)
    refine ⟨(h1.below hb hlt).cell 0, (h1.below hb hlt).cell 1, (h1.below hb' hlt).cell 1, h2.keep fun i hi hl => hb'.block i hl, World.news_of_block (cs := #[.int .i64 (md : Int), .int .i64 (T : Int), .int .i64 1]) (heap_alloc_new w1 _), by have := hb'.size; omega, fun G cap w2 k1 k2 k3 => put_new h1 h2 hT hN hm a1 a2 a3 hb' (B := 0) k1 k2 (k3.imp id fun e => by rw [e]; exact hb'.size)⟩)
  obtain ⟨ss, s, e, hfn, hat⟩ := last_of h0
  obtain ⟨j, hj⟩ : ∃ j, ss.length = j := ⟨_, rfl⟩
  obtain rfl : N = j + 1 := by rw [← hN, e, ← hj]; simp
  obtain ⟨G, c', e2, hG, hGl, hnc⟩ := h2.form (by omega)
  obtain ⟨rfl, rfl⟩ : A = some ⟨G, 0, none⟩ ∧ c = c' := by injection e2 with q1 q2 q3; exact ⟨q1, q3⟩
  have hs : (ss ++ [s])[j]? = some s := by rw [← hj]; simp
  have h2' := h2
  rw [e] at h2'
  have s0 : w.cell? ⟨G, j * 3, none⟩ = some (.int .i64 (s.m : Int)) := h2'.cell hs (r := 0) (by omega)
  have s2 : w.cell? ⟨G, j * 3 + 2, none⟩ = some (.int .i64 (s.n : Int)) := h2'.cell hs (r := 2) (by omega)
  have hf2 : w.frozen? ⟨G, j * 3 + 2, none⟩ = false := h2'.frozen _
  have hnn : s.n ≤ T := by omega
  obtain ⟨sn, hsn⟩ : ∃ k, s.n = k := ⟨_, rfl⟩
  obtain ⟨sm, hsm⟩ : ∃ k, s.m = k := ⟨_, rfl⟩
  rw [hsn] at s2 hnn
  rw [hsm] at s0
  have hT2 : (T : Int) < 1099511627776 := by omega
  have hj1 : ((j : Int) + 1) - 1 = (j : Int) := by omega
  by_cases hm : sm = md
  · subst hm
    have HP : Hid (PutD L g sm ts w (.returned (.int .i64 (sm : Int))) (w.setCell ⟨G, j * 3 + 2, none⟩ (.int .i64 ((sn + 1 : Nat) : Int)))) := keepHid (put_more h1 h2' e hj hsm a1 a2 a3 (sn + 1) (by omega))
    have hne : ¬ g = G := fun e => by
      obtain ⟨cur, hk⟩ := own_obj h2 (i := G) rfl
      rw [← e] at hk
      have := blk_same h1 hk; cases this
    have hne2 : ¬ G = g := fun e => hne e.symm
    have esn : ((sn + 1 : Nat) : Int) = (sn : Int) + 1 := by omega
    rw [esn] at HP
    clear h1 h2 h2' h3 h0 hN hT HNEW hlt e e2 hfn hat hs hj hsm hsn HLEN
    go_enter Try.func13, Try.ntmps13
    go_upto_region 2 with fail
    go_region
    go_wp2
    go_ret
    exact HP.out.drew
  · have HNEW2 := keepHid (HNEW.out (fun s' hs' => by rw [e, List.getLast?_append] at hs'; simp at hs'; rw [← hs', hsm]; exact hm))
    have hq : ((sm : Int) == (md : Int)) = false := by simp; omega
    clear h1 h2 h2' h3 h0 hN hT HNEW hlt e e2 hfn hat hs hj hsm hsn hf2 s2 hm
    go_enter Try.func13, Try.ntmps13
    go_upto_region 2 with fail
    go_region
    go_upto_region 4 with fail
    go_region_law (first
      | (go_simp; go_at_call 15; (with_reducible refine (HLEN.out _ (by first | exact Below.refl _ _ | exact (Below.refl _ _).drew | exact (Below.refl _ _).drew.drew)).mono ?_); rintro e w2 ⟨rfl, hb⟩; obtain ⟨g0, g1, g2, ho, hc, hl, hf⟩ := HNEW2.out w2 hb; have HO2 := keepHid ho; have HC2 := keepHid hc; have HL2 := keepHid hl; have HF2 := keepHid hf; clear hb ho hc hl hf)
      | ((refine step_append_segs rfl (.tmp 44) (.tmp 52) rfl L (.slice (some ⟨G, 0, none⟩) (j + 1) c) (j + 1) (segs ts) (by simp [Act.eval]) HO2.out ⟨w2.heap.size, 0, none⟩ 1 1 [⟨md, T, 1⟩] (by simp [Act.eval]) rfl HC2.out (by omega) (by omega) HL2.out ?_); intro G2 cap w4 q1 q2 q3; obtain ⟨f0, f1, f2, hp, f3⟩ := HF2.out G2 cap w4 q1 q2 q3; have HP := keepHid hp; clear q1 q2 q3 hp))
    all_goals (go_wp2; go_ret; exact HP.out)

theorem put_any {w : World} {L g md : Nat} {ts : List Nat} (h : Dmx w L g md ts) (x : Int) (hto : ts.length < 1099511627776) : Calls Try.prog 13 #[.pointer (some ⟨g, 0, none⟩), .int .u8 x] w (PutD L g md ts w) := by
  by_cases h0 : segs ts = []
  · exact put_first h x hto h0
  · exact put_next h x hto h0
end Go.Proofs.Ytadfchdcaenglaa
