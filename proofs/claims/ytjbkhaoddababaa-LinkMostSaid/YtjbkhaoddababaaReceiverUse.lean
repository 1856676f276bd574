/-
  What the exported calls of a receiver's do; a receiver is made.
-/
import Derived.Test.YtjbkhaoddababaaReceiverPut
namespace Go.Proofs.Ytjbkhaoddababaa
open Go.RowKit
set_option linter.unusedVariables false

theorem seeR_eot {crc cl : Bool} {s : Rd} (h : cl = true) (h4 : s.bu.head? = some 4) : seeR crc cl s = ([6], stopR s 0) := by unfold seeR; rw [if_pos ⟨h, h4⟩]
theorem seeR_can {crc cl : Bool} {s : Rd} (h : ¬ (cl = true ∧ s.bu.head? = some 4)) (h2 : s.bu.take 2 = [24, 24]) : seeR crc cl s = ([], stopR s 9) := by unfold seeR; rw [if_neg h, if_pos h2]
theorem seeR_one {crc cl : Bool} {s : Rd} (h : ¬ (cl = true ∧ s.bu.head? = some 4)) (h2 : ¬ s.bu.take 2 = [24, 24]) (h3 : s.bu = [24]) : seeR crc cl s = ([], s) := by unfold seeR; rw [if_neg h, if_neg h2, if_pos h3]
theorem seeR_scan {crc cl : Bool} {s : Rd} (h : ¬ (cl = true ∧ s.bu.head? = some 4)) (h2 : ¬ s.bu.take 2 = [24, 24]) (h3 : ¬ s.bu = [24]) : seeR crc cl s = scanR crc cl s := by unfold seeR; rw [if_neg h, if_neg h2, if_neg h3]
set_option maxRecDepth 100000 in
set_option maxHeartbeats 4000000 in
theorem put_rcv {w : World} {B G W : Nat} {O : Nat → Prop} {crc cl : Bool} {s : Rd} (h : Rcv w B G O crc cl W s) (A : Option Addr) (n c Q : Nat) (b : List UInt8) (hb : Bys w Q A n b) (hQ : Q ≤ w.heap.size) (hap : Apart (fun i => i = G) A n)
    (hn : s.da.length + 1024 ≤ 140737488355328) (hbl : -9223372036854775808 < s.bl) (hbm : s.bu.length + n ≤ 140737488355328) :
    Calls Try.prog 30 #[.pointer (some ⟨G, 0, none⟩), .slice A n c] w (RPost B G O crc cl W (putR crc cl W s b) w) := by
  have hlb := hb.len
  have ce : ∀ {i}, w.cell? ⟨G, i, none⟩ = w.cell? ⟨G, i, none⟩ := rfl
  have H := keepHid h
  have hw1 := h.w1
  have hw99 := h.w99
  have ht99 := h.t99
  obtain ⟨c5, c6, c9, hf⟩ : w.cell? ⟨G, 5, none⟩ = some (.int .i64 (W : Int)) ∧ w.cell? ⟨G, 6, none⟩ = some (.int .i64 (s.tk : Int)) ∧ w.cell? ⟨G, 9, none⟩ = some (.bool s.ov) ∧ ∀ i, w.frozen? ⟨G, i, none⟩ = false := by
    obtain ⟨⟨_, _, h1, _⟩, _⟩ := h
    exact ⟨h1.cell 5, h1.cell 6, h1.cell 9, h1.frozen⟩
  unfold putR
  by_cases ho : s.ov = true
  · rw [if_pos (.inl ho)]
    rw [ho] at c9
    have HP : Hid (RPost B G O crc cl W ([], s) w (.returned (.slice none 0 0)) w) := keepHid (RPost.none_ (Turn.refl _ w) h (fun i hi => .inl hi))
    clear h hb hlb hap hn hbl hbm ho
    go_enter Try.func30, Try.ntmps30
    go_wp2
    go_ret
    exact HP.out
  have ho' : s.ov = false := by simpa using ho
  by_cases hbe : b = []
  · rw [if_pos (.inr hbe)]
    rw [ho'] at c9
    obtain rfl : n = 0 := by rw [← hlb, hbe]; rfl
    have HP : Hid (RPost B G O crc cl W ([], s) w (.returned (.slice none 0 0)) w) := keepHid (RPost.none_ (Turn.refl _ w) h (fun i hi => .inl hi))
    clear h hb hlb hap hn hbl hbm ho ho' hbe
    go_enter Try.func30, Try.ntmps30
    go_wp2
    go_ret
    exact HP.out
  rw [if_neg (fun e => e.elim ho hbe)]
  rw [ho'] at c9
  have hn0 : 0 < n := by
    rcases b with _ | ⟨x, r⟩
    · exact absurd rfl hbe
    · simp at hlb; omega
  obtain ⟨r, hr⟩ : ∃ r, seeR crc cl { s with tk := W, bu := s.bu ++ b } = r := ⟨_, rfl⟩
  rw [hr]
  have HR := keepHid hr
  obtain ⟨w1, hw1'⟩ : ∃ w1, w.setCell ⟨G, 6, none⟩ (.int .i64 (W : Int)) = w1 := ⟨_, rfl⟩
  have h1 : Rcv w1 B G O crc cl W { s with tk := W } := by rw [← hw1']; exact h.put_ 6 _ (fun _ _ => rfl) rfl rfl hw1 hw99 h.tr h.bl
  have t1 : Turn O w w1 := by rw [← hw1']; exact h.turnO 6 _
  have hb1 : Bys w1 Q A n b := by rw [← hw1']; exact hb.turn (turnAt (G := G) 6 _ (Turn.refl _ w)) hQ hap
  obtain ⟨Ab, cb, e7, ho7, hgr⟩ := grew_buf h1 b n hlb
  obtain ⟨nb, hnb⟩ : ∃ nb, s.bu.length = nb := ⟨_, rfl⟩
  have ho7' : OwnB w1 B 5 (.slice Ab nb cb) nb s.bu := by rw [← hnb]; exact ho7
  have e7' : w1.cell? ⟨G, 7, none⟩ = some (.slice Ab nb cb) := by rw [← hnb]; exact e7
  have HO7 := keepHid ho7'
  have HY1 := keepHid hb1
  have hlow : B ≤ w1.heap.size := by have := h1.lt G h1.g; have := h1.ge G h1.g; omega
  have HGR : Hid (∀ A' c' w2, OwnB w2 B 5 (.slice A' (nb + n) c') (nb + n) (s.bu ++ b) → Turn (fun i => (Value.slice Ab nb cb).ownBlock = some i) w1 w2 → ((Value.slice A' (nb + n) c').ownBlock = (Value.slice Ab nb cb).ownBlock ∨ (Value.slice A' (nb + n) c').ownBlock = some w1.heap.size) → nb + n ≤ c' → c' ≤ 9223372036854775807 →
      w2.cell? ⟨G, 7, none⟩ = some (.slice Ab nb cb) ∧ w2.frozen? ⟨G, 7, none⟩ = false ∧ ∀ w3, w2.setCell ⟨G, 7, none⟩ (.slice A' (nb + n) c') = w3 →
        ∃ g O', A' = some ⟨g, 0, none⟩ ∧ Rcv w3 B G O' crc cl W { s with tk := W, bu := s.bu ++ b } ∧ Turn O w w3 ∧ (∀ i, O' i → O i ∨ w.heap.size ≤ i) ∧ w3.cell? ⟨G, 7, none⟩ = some (.slice (some ⟨g, 0, none⟩) (nb + n) c') ∧ w3.cell? ⟨G, 2, none⟩ = some (.bool cl) ∧ OwnB w3 B 5 (.slice (some ⟨g, 0, none⟩) (nb + n) c') (nb + n) (s.bu ++ b)) := keepHid (fun A' c' w2 q1 q2 q3 q4 q5 => by
    have hgr2 := hgr A' c' w2
    rw [show ({ s with tk := W } : Rd).bu.length = nb from hnb] at hgr2
    obtain ⟨f1, f2, O', f3, f4, f5, f6, f7⟩ := hgr2 ⟨q1, q2, q3⟩
    refine ⟨f1, f2 7, fun w3 hw3 => ?_⟩
    rw [hw3] at f3 f4 f6 f7
    obtain ⟨g, c2, e, _⟩ := f7.some_form (by omega)
    obtain rfl : A' = some ⟨g, 0, none⟩ := by injection e
    have c2' : w3.cell? ⟨G, 2, none⟩ = some (.bool cl) := by
      obtain ⟨⟨_, _, k1, _⟩, _⟩ := f3
      exact k1.cell 2
    exact ⟨g, O', rfl, f3, t1.trans f4, fun i hi => (f5 i hi).imp id (fun h => Nat.le_trans t1.size h), f6, c2', f7⟩)
  have hlq : (s.bu ++ b).length = nb + n := by rw [List.length_append, hnb, hlb]
  have HLQ := keepHid hlq
  have i0 : ((n : Int) == 0) = false := by simp; omega
  rw [hnb] at hbm
  obtain ⟨N, hN⟩ : ∃ N, nb + n = N := ⟨_, rfl⟩
  have hNm : N ≤ 140737488355328 := by omega
  have hN0 : 0 < N := by omega
  rw [hN] at HGR HLQ
  have HDN := keepHid hn
  have HBL := keepHid hbl
  clear h h1 hb hb1 hlb hap hn hbl ho ho' hbe hr hw1 hw99 ht99 t1 e7 ho7 hgr ho7' hnb hlq
  go_enter Try.func30, Try.ntmps30
  go_wp2_with (at_builtin; go_loud (refine wpList_append_bytes _ rfl _ _ 24 rfl B 5 byteT (.slice Ab nb cb) nb s.bu (by rfl) HO7.out Q A n c b (by rfl) HY1.out N hN (by omega) hlow ?_))
  intro A' c' w2 q1 q2 q3 q4 q5
  obtain ⟨f1, f2, f3⟩ := HGR.out A' c' w2 q1 q2 q3 q4 q5
  obtain ⟨w3, hw3⟩ : ∃ w3, w2.setCell ⟨G, 7, none⟩ (.slice A' N c') = w3 := ⟨_, rfl⟩
  obtain ⟨g, O', rfl, k1, k2, k3, k7, k2', k8⟩ := f3 w3 hw3
  go_upto_region 5 with fail
  try rw [hw3]
  clear f1 f2 f3 q1 q2 q3 HGR HO7 HY1 hw3
  generalize hq : s.bu ++ b = q at *
  obtain ⟨s1, hs1⟩ : ∃ s1, ({ s with tk := W, bu := q } : Rd) = s1 := ⟨_, rfl⟩
  rw [hs1] at HR k1
  have hbu : s1.bu = q := by rw [← hs1]
  have hda : s1.da = s.da := by rw [← hs1]
  have hbl1 : s1.bl = s.bl := by rw [← hs1]
  have hql := HLQ.out
  obtain ⟨c0, hc0⟩ : ∃ c0, q[0]? = some c0 := ⟨_, List.getElem?_eq_getElem (by omega)⟩
  have hhd : q.head? = some c0 := by rw [← hc0]; cases q <;> rfl
  have g0 : w3.cell? ⟨g, 0, none⟩ = some (.int .u8 (c0.toNat : Int)) := k8.cell hc0
  have hgw : w.heap.size ≤ w3.heap.size := k2.size
  have b4 : Below w3.heap.size w3 (w3.alloc (.cells #[.int .u8 24, .int .u8 24] 5)) := (Below.refl _ _).alloc (Nat.le_refl _) _
  have k4 := k1.below b4
  have t4 : Turn O w (w3.alloc (.cells #[.int .u8 24, .int .u8 24] 5)) := k2.trans (Turn.of_below b4)
  by_cases h4 : cl = true ∧ c0 = 4
  · obtain ⟨rfl, rfl⟩ := h4
    have HST : Hid (Calls Try.prog 44 #[.pointer (some ⟨G, 0, none⟩), .nilIface, .slice (some ⟨w3.heap.size, 0, none⟩) 1 1] (w3.alloc (.cells #[.int .u8 6] 5)) (RPost B G O crc true W r w)) := keepHid (by
      rw [← HR.out, seeR_eot rfl (by rw [hbu]; exact hhd)]
      exact (stop_new k1 0 .nilIface rfl [6] 1 rfl (by omega) _ rfl w3.heap.size rfl).mono fun _ _ h => h.of k2 k3)
    have g0' : w3.cell? ⟨g, 0, none⟩ = some (.int .u8 4) := g0
    clear g0 k1 k2 k3 k8 k4 b4 t4 hbu hda hbl1 hql hc0 hhd hq hs1 HR
    go_wp2_with (go_at_call 44; (with_reducible refine HST.out.mono ?_); rintro e w5 ⟨A5, c5, O5, rfl, hp5⟩; have HP5 := keepHid hp5; clear hp5)
    go_ret
    exact ⟨A5, c5, O5, rfl, HP5.out⟩
  have hne : ¬ (cl = true ∧ s1.bu.head? = some 4) := by
    rw [hbu, hhd]
    rintro ⟨e1, e2⟩
    exact h4 ⟨e1, Option.some.inj e2⟩
  have hgd : cl = false ∨ (cl = true ∧ ((c0.toNat : Int) == 4) = false) := by
    cases cl
    · exact .inl rfl
    · exact .inr ⟨rfl, u8_ne (d := 4) (fun e => h4 ⟨rfl, e⟩)⟩
  have HPF : Hid (Calls Try.prog 45 #[.slice (some ⟨g, 0, none⟩) N c', .slice (some ⟨w3.heap.size, 0, none⟩) 2 2] (w3.alloc (.cells #[.int .u8 24, .int .u8 24] 5)) fun e w' => e = .returned (.bool (decide (q.take 2 = [24, 24]))) ∧ (w3.alloc (.cells #[.int .u8 24, .int .u8 24] 5)) = w') := keepHid
    (prefix_any _ _ N c' 2 w3.heap.size (w3.heap.size + 1) q [24, 24] _ ((k8.bys (by omega)).alloc (Nat.le_refl _) _) (bys_new w3 _ [24, 24] 2 rfl (by decide) _ rfl _ rfl) q4)
  have g0a : (w3.alloc (.cells #[.int .u8 24, .int .u8 24] 5)).cell? ⟨g, 0, none⟩ = some (.int .u8 (c0.toNat : Int)) := (World.cell?_alloc_lt _ _ _ (World.block_lt_of_cell? _ _ g0)).trans g0
  have k7a : (w3.alloc (.cells #[.int .u8 24, .int .u8 24] 5)).cell? ⟨G, 7, none⟩ = some (.slice (some ⟨g, 0, none⟩) N c') := (World.cell?_alloc_lt _ _ _ (World.block_lt_of_cell? _ _ k7)).trans k7
  by_cases h2 : q.take 2 = [24, 24]
  · have HST : Hid (Calls Try.prog 44 #[.pointer (some ⟨G, 0, none⟩), .iface 76 (.int .i64 9), .slice none 0 0] (w3.alloc (.cells #[.int .u8 24, .int .u8 24] 5)) (RPost B G O crc cl W r w)) := keepHid (by
      rw [← HR.out, seeR_can hne (by rw [hbu]; exact h2)]
      exact (stop_none k4 9 _ rfl).mono fun _ _ h => h.of t4 k3)
    rw [decide_eq_true h2] at HPF
    clear k1 k2 k3 k8 k4 b4 t4 hbu hda hbl1 hql hc0 hhd hq hs1 HR hne h4 h2
    rcases hgd with rfl | ⟨rfl, hgd⟩
    all_goals
      generalize c0.toNat = cn at *
      go_wp2_with (first | (go_at_call 45; (with_reducible refine HPF.out.mono ?_); rintro e w6 ⟨rfl, rfl⟩) | (go_at_call 44; (with_reducible refine HST.out.mono ?_); rintro e w5 ⟨A5, c5, O5, rfl, hp5⟩; have HP5 := keepHid hp5; clear hp5))
      go_ret
      exact ⟨A5, c5, O5, rfl, HP5.out⟩
  rw [decide_eq_false h2] at HPF
  by_cases h1 : q = [24]
  · have HP : Hid (RPost B G O crc cl W r w (.returned (.slice none 0 0)) (w3.alloc (.cells #[.int .u8 24, .int .u8 24] 5))) := keepHid (by
      rw [← HR.out, seeR_one hne (by rw [hbu]; exact h2) (by rw [hbu]; exact h1)]
      exact RPost.none_ t4 k4 k3)
    have hN1 : N = 1 := by rw [← hql, h1]; rfl
    have h24 : c0 = 24 := by rw [h1] at hc0; simpa using hc0.symm
    subst hN1 h24
    have g0' : (w3.alloc (.cells #[.int .u8 24, .int .u8 24] 5)).cell? ⟨g, 0, none⟩ = some (.int .u8 24) := g0a
    have g0'' : w3.cell? ⟨g, 0, none⟩ = some (.int .u8 24) := g0
    clear g0 g0a k1 k2 k3 k8 k4 b4 t4 hbu hda hbl1 hql hc0 hhd hq hs1 HR hne h4 h2 h1
    rcases hgd with rfl | ⟨rfl, hgd⟩
    all_goals
      go_wp2_with (go_at_call 45; (with_reducible refine HPF.out.mono ?_); rintro e w6 ⟨rfl, rfl⟩)
      go_ret
      exact HP.out
  have HSN : Hid (Calls Try.prog 46 #[.pointer (some ⟨G, 0, none⟩)] (w3.alloc (.cells #[.int .u8 24, .int .u8 24] 5)) (RPost B G O crc cl W r w)) := keepHid (by
    rw [← HR.out, seeR_scan hne (by rw [hbu]; exact h2) (by rw [hbu]; exact h1)]
    exact (scanR_any k4 (by rw [hda]; exact HDN.out) (by rw [hbl1]; exact HBL.out) (by rw [hbu, hql]; exact hNm)).mono fun _ _ h => h.of t4 k3)
  have hlast : ((N : Int) == 1) = false ∨ (N = 1 ∧ ((c0.toNat : Int) == 24) = false) := by
    by_cases hN1 : N = 1
    · refine .inr ⟨hN1, u8_ne (d := 24) (fun e => h1 ?_)⟩
      rcases q with _ | ⟨x, _ | ⟨y, t⟩⟩
      · simp at hc0
      · simp at hc0; rw [hc0, e]
      · simp at hql; omega
    · exact .inl (by simp; omega)
  clear k1 k2 k3 k8 k4 b4 t4 hbu hda hbl1 hql hc0 hhd hq hs1 HR hne h4 h2 h1
  rcases hlast with hN1 | ⟨rfl, h24⟩
  all_goals
    rcases hgd with rfl | ⟨rfl, hgd⟩
    all_goals
      generalize c0.toNat = cn at *
      go_wp2_with (first | (go_at_call 45; (with_reducible refine HPF.out.mono ?_); rintro e w6 ⟨rfl, rfl⟩) | (go_at_call 46; (with_reducible refine HSN.out.mono ?_); rintro e w5 ⟨A5, c5, O5, rfl, hp5⟩; have HP5 := keepHid hp5; clear hp5))
      go_ret
      exact ⟨A5, c5, O5, rfl, HP5.out⟩
end Go.Proofs.Ytjbkhaoddababaa
