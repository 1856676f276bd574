/-
  What the calls of a receiver's do.
-/
import Derived.Test.YtgdjopiejmdbnaaGreatDoorReceiverTake
import Derived.Test.YtgdjopiejmdbnaaGreatDoorBlockUse
import Derived.Test.YtgdjopiejmdbnaaGreatDoorBytesEqual
import Derived.Test.YtgdjopiejmdbnaaGreatDoorBytesClone
namespace Go.Proofs.YtgdjopiejmdbnaaGreatDoor
open Go.RowKit
set_option linter.unusedVariables false

/-- bytes.HasPrefix, of a prefix of two. -/
theorem prefix_any (A B : Option Addr) (n c d P Q : Nat) (xs bs : List UInt8) (w : World) (ha : Bys w P A n xs) (hb : Bys w Q B 2 bs) (hc : n ≤ c) :
    Calls Tryz.prog 86 #[.slice A n c, .slice B 2 d] w fun e w' => e = .returned (.bool (decide (xs.take 2 = bs))) ∧ w = w' := by
  have hl := ha.len
  rcases Nat.lt_or_ge n 2 with h | h
  · have he : decide (xs.take 2 = bs) = false := by
      rw [decide_eq_false_iff_not]
      intro e
      have := congrArg List.length e
      rw [List.length_take, hb.len] at this
      omega
    rw [he]
    have i1 : ¬ (2 : Int) ≤ (n : Int) := by omega
    clear ha hb hl he
    go_enter Tryz.func86, Tryz.ntmps86
    go_wp2
    go_ret
    exact ⟨rfl, rfl⟩
  · have HE := keepHid (equal_any A B 2 2 c d P Q (xs.take 2) bs w (ha.head h) hb)
    have i1 : (2 : Int) ≤ (n : Int) := by omega
    have i2 : (2 : Int) ≤ (c : Int) := by omega
    clear ha hb hl
    generalize decide (xs.take 2 = bs) = q at *
    go_enter Tryz.func86, Tryz.ntmps86
    go_wp2_with (go_at_call 62; (with_reducible refine HE.out.mono ?_); rintro e w5 ⟨rfl, rfl⟩)
    go_ret
    exact ⟨rfl, rfl⟩
/-- What is read of bytes, in a block of its own. -/
def Scanned (w : World) (num : UInt8) (d : List UInt8) (p : Value) (wx : World) : Prop :=
  ∃ g A c, p = .pointer (some ⟨g, 0, none⟩) ∧ wx.cell? ⟨g, 0, none⟩ = some (.int .u8 (num.toNat : Int)) ∧ wx.cell? ⟨g, 1, none⟩ = some (.slice A d.length c) ∧ Bys wx wx.heap.size A d.length d ∧ Below w.heap.size w wx ∧ w.heap.size ≤ g ∧ ∀ G, G < w.heap.size → Apart (fun b => b = G) A d.length
theorem scanned_of {w w5 wx : World} {num : UInt8} {d : List UInt8} {g : Nat} {A : Option Addr} {c B : Nat} (hg : w.heap.size ≤ g) (hb : Below w.heap.size w wx) (hk : Blk wx g 50 #[.int .u8 (num.toNat : Int), .slice A d.length c]) (ho : OwnB w5 B 5 (.slice A d.length c) d.length d) (hd : d.length ≤ 1024)
    (ht : Turn (fun b => b = g) w5 wx) (hB : g < B ∨ w5.heap.size ≤ g) (hwB : w.heap.size ≤ B) : Scanned w num d (.pointer (some ⟨g, 0, none⟩)) wx := by
  refine ⟨g, A, c, rfl, hk.cell 0, hk.cell 1, ?_, hb, hg, fun G hG => apart_new ho (by omega)⟩
  have hy := ho.bys (by omega)
  refine (hy.turn ht (Nat.le_refl _) ?_).more ht.size
  rcases hB with h | h
  · exact apart_new ho h
  · exact hy.apart (fun i hi => by omega)
theorem scan_len (bs : List UInt8) (crc : Bool) : (scanL bs crc).2.2.length ≤ 1024 := by
  rcases scan_state bs crc with h | h | h
  · have : (scanL bs crc).2.2 = [] := by
      unfold scanL at h ⊢
      repeat' split
      all_goals simp_all
    rw [this]; simp
  · have : (scanL bs crc).2.2 = [] := by
      unfold scanL at h ⊢
      repeat' split
      all_goals simp_all
    rw [this]; simp
  · rcases scan_data bs crc h with e | e <;> omega
set_option maxRecDepth 100000 in
set_option maxHeartbeats 4000000 in
theorem scanR_any {w : World} {B G W : Nat} {O : Nat → Prop} {crc cl : Bool} {s : Rd} (h : Rcv w B G O crc cl W s) (hn : s.da.length + 1024 ≤ 140737488355328) (hbl : -9223372036854775808 < s.bl) (hbm : s.bu.length ≤ 140737488355328) :
    Calls Tryz.prog 87 #[.pointer (some ⟨G, 0, none⟩)] w (RPost B G O crc cl W (scanR crc cl s) w) := by
  have H := keepHid h
  obtain ⟨⟨vb, vd, h1, h2, h3, h4, h5⟩, hg, hl, hge, a1, a2, a3, a4, a5, a6⟩ := h
  obtain ⟨Ab, cb, hlb, hcm, rfl⟩ : ∃ A c, s.bu.length ≤ c ∧ c ≤ 9223372036854775807 ∧ vb = .slice A s.bu.length c := by
    obtain ⟨A, c, e, e1, e2, _⟩ := h2.form
    exact ⟨A, c, e1, e2, e⟩
  have c7 : w.cell? ⟨G, 7, none⟩ = some (.slice Ab s.bu.length cb) := h1.cell 7
  have c1 : w.cell? ⟨G, 1, none⟩ = some (.bool crc) := h1.cell 1
  have hlt := hl G hg
  have c7' : (w.alloc (.cells #[.int .u8 0, .slice none 0 0] 50)).cell? ⟨G, 7, none⟩ = some (.slice Ab s.bu.length cb) := (World.cell?_alloc_lt _ _ _ hlt).trans c7
  have c1' : (w.alloc (.cells #[.int .u8 0, .slice none 0 0] 50)).cell? ⟨G, 1, none⟩ = some (.bool crc) := (World.cell?_alloc_lt _ _ _ hlt).trans c1
  have hby := h2.bys (n := s.bu.length) (by omega)
  have HSC : Hid (∀ w', Below w.heap.size w w' → Calls Tryz.prog 60 #[.slice Ab s.bu.length cb, .bool crc] w' (ScanPost w' (scanL s.bu crc))) := keepHid (fun w' hb => scan_any Ab s.bu.length cb w.heap.size s.bu crc w' (hby.below hb) hb.size hlb hcm)
  have HD : Hid (Below w.heap.size w w.drew) := keepHid (Below.drew (Below.refl _ _))
  have HDA : Hid (Below w.heap.size w (w.alloc (.cells #[.int .u8 0, .slice none 0 0] 50)).drew) := keepHid (Below.drew ((Below.refl _ _).alloc (Nat.le_refl _) _))
  have hs := scan_state s.bu crc
  have hsd := scan_len s.bu crc
  have HSR : Hid (scanR crc cl s = if (scanL s.bu crc).1 = 0 then ([], s) else if (scanL s.bu crc).1 = 1 then ([21], { s with bu := [] }) else takeR cl { s with bu := [] } (scanL s.bu crc).2.1 (scanL s.bu crc).2.2) := keepHid rfl
  obtain ⟨⟨st, num, d⟩, hsc⟩ : ∃ r, scanL s.bu crc = r := ⟨_, rfl⟩
  rw [hsc] at HSC hs hsd HSR
  simp only [] at hs hsd HSR
  obtain ⟨r, hr0⟩ : ∃ r, scanR crc cl s = r := ⟨_, rfl⟩
  rw [hr0] at HSR ⊢
  have HFA : Hid (∀ A5 c5 w5, OwnB w5 (w.alloc (.cells #[.int .u8 0, .slice none 0 0] 50)).drew.heap.size 5 (.slice A5 d.length c5) d.length d → Below (w.alloc (.cells #[.int .u8 0, .slice none 0 0] 50)).drew.heap.size (w.alloc (.cells #[.int .u8 0, .slice none 0 0] 50)).drew w5 →
      w5.cell? ⟨w.heap.size, 0, none⟩ = some (.int .u8 0) ∧ w5.cell? ⟨w.heap.size, 1, none⟩ = some (.slice none 0 0) ∧ (∀ i, w5.frozen? ⟨w.heap.size, i, none⟩ = false) ∧ Scanned w num d (.pointer (some ⟨w.heap.size, 0, none⟩)) ((w5.setCell ⟨w.heap.size, 0, none⟩ (.int .u8 (num.toNat : Int))).setCell ⟨w.heap.size, 1, none⟩ (.slice A5 d.length c5))) := keepHid (fun A5 c5 w5 ho hb => by
    have k0 : Blk (w.alloc (.cells #[.int .u8 0, .slice none 0 0] 50)).drew w.heap.size 50 #[.int .u8 0, .slice none 0 0] := Blk.new w _ _
    have k5 := k0.below hb k0.lt
    have b5 : Below w.heap.size w w5 := HDA.out.trans (hb.mono HDA.out.size)
    exact ⟨k5.cell 0, k5.cell 1, k5.frozen, scanned_of (Nat.le_refl _) ((b5.setCell (Nat.le_refl _) _).setCell (Nat.le_refl _) _) ((k5.put 0 _).put 1 _) ho hsd (turnAt _ _ (turnAt _ _ (Turn.refl _ _))) (.inl k0.lt) HDA.out.size⟩)
  have HFB : Hid (∀ A5 c5 w5, OwnB w5 w.drew.heap.size 5 (.slice A5 d.length c5) d.length d → Below w.drew.heap.size w.drew w5 → Scanned w num d (.pointer (some ⟨w5.heap.size, 0, none⟩)) (w5.alloc (.cells #[.int .u8 (num.toNat : Int), .slice A5 d.length c5] 50))) := keepHid (fun A5 c5 w5 ho hb => by
    have b5 : Below w.heap.size w w5 := HD.out.trans (hb.mono HD.out.size)
    exact scanned_of b5.size (b5.alloc b5.size _) (Blk.new w5 _ _) ho hsd ((Turn.refl _ _).alloc _) (.inr (Nat.le_refl _)) HD.out.size)
  obtain ⟨nb, hnb⟩ : ∃ nb, s.bu.length = nb := ⟨_, rfl⟩
  rw [hnb] at c7 c7' HSC
  obtain ⟨nd, hnd⟩ : ∃ nd, d.length = nd := ⟨_, rfl⟩
  rw [hnd] at HFA HFB
  go_enter Tryz.func87, Tryz.ntmps87
  go_upto_region 1 with fail
  go_cut [3, 4] (fun p sv wx => sv = .int .i64 (st : Int) ∧ Scanned w num d p wx)
  case first =>
    clear hs hsd hn hbl hbm h1 h2 h3 h4 h5 hg hl hge a1 a2 a3 a4 a5 a6 hby hsc hnb
    go_region_with (go_at_call 60; (with_reducible refine (HSC.out _ (by first | exact HD.out | exact HDA.out)).mono ?_); rintro e w5 ⟨A5, c5, rfl, ho5, h51, h52, hb5⟩; simp only [hnd] at ho5 h51; first | (obtain ⟨f0, f1, ff, fR⟩ := HFA.out _ _ _ ho5 hb5; have HR5 := keepHid fR; clear fR ho5 hb5) | (have HR5 := keepHid (HFB.out _ _ _ ho5 hb5); clear ho5 hb5))
    all_goals
      go_wp2_with fail
      go_meet
      case rel => exact ⟨rfl, HR5.out⟩
  case rest =>
    obtain ⟨rfl, g, A5, c5, rfl, b0, b1, hby5, hb5, hg5, hap⟩ := hcut
    have hr := H.out.below hb5
    have hd := hr.drop_
    have hkc : wc.cell? ⟨G, 7, none⟩ = some (.slice Ab nb cb) := (hb5.cell hlt).trans c7
    have hfz : wc.frozen? ⟨G, 7, none⟩ = false := by
      obtain ⟨⟨_, _, q1, _⟩, _⟩ := hr
      exact q1.frozen 7
    have tt : Turn O w (wc.setCell ⟨G, 7, none⟩ (.slice none 0 0)) := (Turn.of_below hb5).trans (hr.turnO 7 _)
    rcases hs with rfl | rfl | rfl
    · have HP : Hid (RPost B G O crc cl W r w (.returned (.slice none 0 0)) wc) := keepHid (by rw [HSR.out, if_pos rfl]; exact RPost.none_ (Turn.of_below hb5) hr (fun i hi => .inl hi))
      clear hr hd tt hby5 hb5 hap h1 h2 h3 h4 h5 hg hl hge hby hsc
      go_wp2
      go_ret
      exact HP.out
    · have HP : Hid (RPost B G O crc cl W r w (.returned (.slice (some ⟨wc.heap.size, 0, none⟩) 1 1)) ((wc.setCell ⟨G, 7, none⟩ (.slice none 0 0)).alloc (.cells #[.int .u8 21] 5))) :=
        keepHid (by rw [HSR.out, if_neg (by decide), if_pos rfl]; exact (ack_post hd [21] 1 rfl (by omega) _ rfl wc.heap.size (by simp [World.setCell])).of tt (fun i hi => .inl hi))
      clear hr hd tt hby5 hb5 hap h1 h2 h3 h4 h5 hg hl hge hby hsc
      go_wp2
      go_ret
      exact HP.out
    · have HTK : Hid (Calls Tryz.prog 102 #[.pointer (some ⟨G, 0, none⟩), .agg #[.int .u8 (num.toNat : Int), .slice A5 d.length c5]] (wc.setCell ⟨G, 7, none⟩ (.slice none 0 0)) (RPost B G O crc cl W r w)) :=
        keepHid (by rw [HSR.out, if_neg (by decide), if_neg (by decide)]; exact (take_any hd num A5 d.length c5 wc.heap.size d (hby5.turn (turnAt _ _ (Turn.refl _ _)) (Nat.le_refl _) (hap G hlt)) (by simp [World.setCell]) (by show s.da.length + d.length ≤ _; omega) hbl).mono fun _ _ h => h.of tt (fun i hi => .inl hi))
      rw [hnd] at HTK b1
      clear hnd
      have hgG : ¬ g = G := by omega
      have hGg : ¬ G = g := by omega
      clear hr hd tt hby5 hb5 hap h1 h2 h3 h4 h5 hg hl hge hby hsc
      go_wp2_with (go_at_call 102; (with_reducible refine HTK.out.mono ?_); rintro e w7 ⟨A7, c7, O7, rfl, hp7⟩; have HP7 := keepHid hp7; clear hp7)
      go_ret
      exact ⟨A7, c7, O7, rfl, HP7.out⟩


theorem seeR_eot {crc cl : Bool} {s : Rd} (h : cl = true) (h4 : s.bu.head? = some 4) : seeR crc cl s = ([6], stopR s 0) := by unfold seeR; rw [if_pos ⟨h, h4⟩]
theorem seeR_can {crc cl : Bool} {s : Rd} (h : ¬ (cl = true ∧ s.bu.head? = some 4)) (h2 : s.bu.take 2 = [24, 24]) : seeR crc cl s = ([], stopR s 9) := by unfold seeR; rw [if_neg h, if_pos h2]
theorem seeR_one {crc cl : Bool} {s : Rd} (h : ¬ (cl = true ∧ s.bu.head? = some 4)) (h2 : ¬ s.bu.take 2 = [24, 24]) (h3 : s.bu = [24]) : seeR crc cl s = ([], s) := by unfold seeR; rw [if_neg h, if_neg h2, if_pos h3]
theorem seeR_scan {crc cl : Bool} {s : Rd} (h : ¬ (cl = true ∧ s.bu.head? = some 4)) (h2 : ¬ s.bu.take 2 = [24, 24]) (h3 : ¬ s.bu = [24]) : seeR crc cl s = scanR crc cl s := by unfold seeR; rw [if_neg h, if_neg h2, if_neg h3]
set_option maxRecDepth 100000 in
set_option maxHeartbeats 4000000 in
theorem put_rcv {w : World} {B G W : Nat} {O : Nat → Prop} {crc cl : Bool} {s : Rd} (h : Rcv w B G O crc cl W s) (A : Option Addr) (n c Q : Nat) (b : List UInt8) (hb : Bys w Q A n b) (hQ : Q ≤ w.heap.size) (hap : Apart (fun i => i = G) A n)
    (hn : s.da.length + 1024 ≤ 140737488355328) (hbl : -9223372036854775808 < s.bl) (hbm : s.bu.length + n ≤ 140737488355328) :
    Calls Tryz.prog 59 #[.pointer (some ⟨G, 0, none⟩), .slice A n c] w (RPost B G O crc cl W (putR crc cl W s b) w) := by
  have hlb := hb.len
  have ce : ∀ {i}, w.cell? ⟨G, i, none⟩ = w.cell? ⟨G, i, none⟩ := rfl
  have H := keepHid h
  have hw1 := h.w1
  have hw99 := h.w99
  have ht99 := h.t99
  obtain ⟨c5, c6, c9, hf⟩ : w.cell? ⟨G, 5, none⟩ = some (.int .i64 (W : Int)) ∧ w.cell? ⟨G, 6, none⟩ = some (.int .i64 (s.tk : Int)) ∧ w.cell? ⟨G, 9, none⟩ = some (.bool s.ov) ∧ ∀ i, w.frozen? ⟨G, i, none⟩ = false := by
    obtain ⟨⟨_, _, h1, _⟩, _⟩ := h
    exact ⟨h1.cell 5, h1.cell 6, h1.cell 9, h1.frozen⟩
  unfold putR
  by_cases ho : s.ov = true
  · rw [if_pos (.inl ho)]
    rw [ho] at c9
    have HP : Hid (RPost B G O crc cl W ([], s) w (.returned (.slice none 0 0)) w) := keepHid (RPost.none_ (Turn.refl _ w) h (fun i hi => .inl hi))
    clear h hb hlb hap hn hbl hbm ho
    go_enter Tryz.func59, Tryz.ntmps59
    go_wp2
    go_ret
    exact HP.out
  have ho' : s.ov = false := by simpa using ho
  by_cases hbe : b = []
  · rw [if_pos (.inr hbe)]
    rw [ho'] at c9
    obtain rfl : n = 0 := by rw [← hlb, hbe]; rfl
    have HP : Hid (RPost B G O crc cl W ([], s) w (.returned (.slice none 0 0)) w) := keepHid (RPost.none_ (Turn.refl _ w) h (fun i hi => .inl hi))
    clear h hb hlb hap hn hbl hbm ho ho' hbe
    go_enter Tryz.func59, Tryz.ntmps59
    go_wp2
    go_ret
    exact HP.out
  rw [if_neg (fun e => e.elim ho hbe)]
  rw [ho'] at c9
  have hn0 : 0 < n := by
    rcases b with _ | ⟨x, r⟩
    · exact absurd rfl hbe
    · simp at hlb; omega
  obtain ⟨r, hr⟩ : ∃ r, seeR crc cl { s with tk := W, bu := s.bu ++ b } = r := ⟨_, rfl⟩
  rw [hr]
  have HR := keepHid hr
  obtain ⟨w1, hw1'⟩ : ∃ w1, w.setCell ⟨G, 6, none⟩ (.int .i64 (W : Int)) = w1 := ⟨_, rfl⟩
  have h1 : Rcv w1 B G O crc cl W { s with tk := W } := by rw [← hw1']; exact h.put_ 6 _ (fun _ _ => rfl) rfl rfl hw1 hw99 h.tr h.bl
  have t1 : Turn O w w1 := by rw [← hw1']; exact h.turnO 6 _
  have hb1 : Bys w1 Q A n b := by rw [← hw1']; exact hb.turn (turnAt (G := G) 6 _ (Turn.refl _ w)) hQ hap
  obtain ⟨Ab, cb, e7, ho7, hgr⟩ := grew_buf h1 b n hlb
  obtain ⟨nb, hnb⟩ : ∃ nb, s.bu.length = nb := ⟨_, rfl⟩
  have ho7' : OwnB w1 B 5 (.slice Ab nb cb) nb s.bu := by rw [← hnb]; exact ho7
  have e7' : w1.cell? ⟨G, 7, none⟩ = some (.slice Ab nb cb) := by rw [← hnb]; exact e7
  have HO7 := keepHid ho7'
  have HY1 := keepHid hb1
  have hlow : B ≤ w1.heap.size := by have := h1.lt G h1.g; have := h1.ge G h1.g; omega
  have HGR : Hid (∀ A' c' w2, OwnB w2 B 5 (.slice A' (nb + n) c') (nb + n) (s.bu ++ b) → Turn (fun i => (Value.slice Ab nb cb).ownBlock = some i) w1 w2 → ((Value.slice A' (nb + n) c').ownBlock = (Value.slice Ab nb cb).ownBlock ∨ (Value.slice A' (nb + n) c').ownBlock = some w1.heap.size) → nb + n ≤ c' → c' ≤ 9223372036854775807 →
      w2.cell? ⟨G, 7, none⟩ = some (.slice Ab nb cb) ∧ w2.frozen? ⟨G, 7, none⟩ = false ∧ ∀ w3, w2.setCell ⟨G, 7, none⟩ (.slice A' (nb + n) c') = w3 →
        ∃ g O', A' = some ⟨g, 0, none⟩ ∧ Rcv w3 B G O' crc cl W { s with tk := W, bu := s.bu ++ b } ∧ Turn O w w3 ∧ (∀ i, O' i → O i ∨ w.heap.size ≤ i) ∧ w3.cell? ⟨G, 7, none⟩ = some (.slice (some ⟨g, 0, none⟩) (nb + n) c') ∧ w3.cell? ⟨G, 2, none⟩ = some (.bool cl) ∧ OwnB w3 B 5 (.slice (some ⟨g, 0, none⟩) (nb + n) c') (nb + n) (s.bu ++ b)) := keepHid (fun A' c' w2 q1 q2 q3 q4 q5 => by
    have hgr2 := hgr A' c' w2
    rw [show ({ s with tk := W } : Rd).bu.length = nb from hnb] at hgr2
    obtain ⟨f1, f2, O', f3, f4, f5, f6, f7⟩ := hgr2 ⟨q1, q2, q3⟩
    refine ⟨f1, f2 7, fun w3 hw3 => ?_⟩
    rw [hw3] at f3 f4 f6 f7
    obtain ⟨g, c2, e, _⟩ := f7.some_form (by omega)
    obtain rfl : A' = some ⟨g, 0, none⟩ := by injection e
    have c2' : w3.cell? ⟨G, 2, none⟩ = some (.bool cl) := by
      obtain ⟨⟨_, _, k1, _⟩, _⟩ := f3
      exact k1.cell 2
    exact ⟨g, O', rfl, f3, t1.trans f4, fun i hi => (f5 i hi).imp id (fun h => Nat.le_trans t1.size h), f6, c2', f7⟩)
  have hlq : (s.bu ++ b).length = nb + n := by rw [List.length_append, hnb, hlb]
  have HLQ := keepHid hlq
  have i0 : ((n : Int) == 0) = false := by simp; omega
  rw [hnb] at hbm
  obtain ⟨N, hN⟩ : ∃ N, nb + n = N := ⟨_, rfl⟩
  have hNm : N ≤ 140737488355328 := by omega
  have hN0 : 0 < N := by omega
  rw [hN] at HGR HLQ
  have HDN := keepHid hn
  have HBL := keepHid hbl
  clear h h1 hb hb1 hlb hap hn hbl ho ho' hbe hr hw1 hw99 ht99 t1 e7 ho7 hgr ho7' hnb hlq
  go_enter Tryz.func59, Tryz.ntmps59
  go_wp2_with (at_builtin; go_loud (refine wpList_append_bytes _ rfl _ _ 24 rfl B 5 byteT (.slice Ab nb cb) nb s.bu (by rfl) HO7.out Q A n c b (by rfl) HY1.out N hN (by omega) hlow ?_))
  intro A' c' w2 q1 q2 q3 q4 q5
  obtain ⟨f1, f2, f3⟩ := HGR.out A' c' w2 q1 q2 q3 q4 q5
  obtain ⟨w3, hw3⟩ : ∃ w3, w2.setCell ⟨G, 7, none⟩ (.slice A' N c') = w3 := ⟨_, rfl⟩
  obtain ⟨g, O', rfl, k1, k2, k3, k7, k2', k8⟩ := f3 w3 hw3
  go_upto_region 5 with fail
  try rw [hw3]
  clear f1 f2 f3 q1 q2 q3 HGR HO7 HY1 hw3
  generalize hq : s.bu ++ b = q at *
  obtain ⟨s1, hs1⟩ : ∃ s1, ({ s with tk := W, bu := q } : Rd) = s1 := ⟨_, rfl⟩
  rw [hs1] at HR k1
  have hbu : s1.bu = q := by rw [← hs1]
  have hda : s1.da = s.da := by rw [← hs1]
  have hbl1 : s1.bl = s.bl := by rw [← hs1]
  have hql := HLQ.out
  obtain ⟨c0, hc0⟩ : ∃ c0, q[0]? = some c0 := ⟨_, List.getElem?_eq_getElem (by omega)⟩
  have hhd : q.head? = some c0 := by rw [← hc0]; cases q <;> rfl
  have g0 : w3.cell? ⟨g, 0, none⟩ = some (.int .u8 (c0.toNat : Int)) := k8.cell hc0
  have hgw : w.heap.size ≤ w3.heap.size := k2.size
  have b4 : Below w3.heap.size w3 (w3.alloc (.cells #[.int .u8 24, .int .u8 24] 5)) := (Below.refl _ _).alloc (Nat.le_refl _) _
  have k4 := k1.below b4
  have t4 : Turn O w (w3.alloc (.cells #[.int .u8 24, .int .u8 24] 5)) := k2.trans (Turn.of_below b4)
  by_cases h4 : cl = true ∧ c0 = 4
  · obtain ⟨rfl, rfl⟩ := h4
    have HST : Hid (Calls Tryz.prog 85 #[.pointer (some ⟨G, 0, none⟩), .nilIface, .slice (some ⟨w3.heap.size, 0, none⟩) 1 1] (w3.alloc (.cells #[.int .u8 6] 5)) (RPost B G O crc true W r w)) := keepHid (by
      rw [← HR.out, seeR_eot rfl (by rw [hbu]; exact hhd)]
      exact (stop_new k1 0 .nilIface rfl [6] 1 rfl (by omega) _ rfl w3.heap.size rfl).mono fun _ _ h => h.of k2 k3)
    have g0' : w3.cell? ⟨g, 0, none⟩ = some (.int .u8 4) := g0
    clear g0 k1 k2 k3 k8 k4 b4 t4 hbu hda hbl1 hql hc0 hhd hq hs1 HR
    go_wp2_with (go_at_call 85; (with_reducible refine HST.out.mono ?_); rintro e w5 ⟨A5, c5, O5, rfl, hp5⟩; have HP5 := keepHid hp5; clear hp5)
    go_ret
    exact ⟨A5, c5, O5, rfl, HP5.out⟩
  have hne : ¬ (cl = true ∧ s1.bu.head? = some 4) := by
    rw [hbu, hhd]
    rintro ⟨e1, e2⟩
    exact h4 ⟨e1, Option.some.inj e2⟩
  have hgd : cl = false ∨ (cl = true ∧ ((c0.toNat : Int) == 4) = false) := by
    cases cl
    · exact .inl rfl
    · exact .inr ⟨rfl, u8_ne (d := 4) (fun e => h4 ⟨rfl, e⟩)⟩
  have HPF : Hid (Calls Tryz.prog 86 #[.slice (some ⟨g, 0, none⟩) N c', .slice (some ⟨w3.heap.size, 0, none⟩) 2 2] (w3.alloc (.cells #[.int .u8 24, .int .u8 24] 5)) fun e w' => e = .returned (.bool (decide (q.take 2 = [24, 24]))) ∧ (w3.alloc (.cells #[.int .u8 24, .int .u8 24] 5)) = w') := keepHid
    (prefix_any _ _ N c' 2 w3.heap.size (w3.heap.size + 1) q [24, 24] _ ((k8.bys (by omega)).alloc (Nat.le_refl _) _) (bys_new w3 _ [24, 24] 2 rfl (by decide) _ rfl _ rfl) q4)
  have g0a : (w3.alloc (.cells #[.int .u8 24, .int .u8 24] 5)).cell? ⟨g, 0, none⟩ = some (.int .u8 (c0.toNat : Int)) := (World.cell?_alloc_lt _ _ _ (World.block_lt_of_cell? _ _ g0)).trans g0
  have k7a : (w3.alloc (.cells #[.int .u8 24, .int .u8 24] 5)).cell? ⟨G, 7, none⟩ = some (.slice (some ⟨g, 0, none⟩) N c') := (World.cell?_alloc_lt _ _ _ (World.block_lt_of_cell? _ _ k7)).trans k7
  by_cases h2 : q.take 2 = [24, 24]
  · have HST : Hid (Calls Tryz.prog 85 #[.pointer (some ⟨G, 0, none⟩), .iface 71 (.int .i64 9), .slice none 0 0] (w3.alloc (.cells #[.int .u8 24, .int .u8 24] 5)) (RPost B G O crc cl W r w)) := keepHid (by
      rw [← HR.out, seeR_can hne (by rw [hbu]; exact h2)]
      exact (stop_none k4 9 _ rfl).mono fun _ _ h => h.of t4 k3)
    rw [decide_eq_true h2] at HPF
    clear k1 k2 k3 k8 k4 b4 t4 hbu hda hbl1 hql hc0 hhd hq hs1 HR hne h4 h2
    rcases hgd with rfl | ⟨rfl, hgd⟩
    all_goals
      generalize c0.toNat = cn at *
      go_wp2_with (first | (go_at_call 86; (with_reducible refine HPF.out.mono ?_); rintro e w6 ⟨rfl, rfl⟩) | (go_at_call 85; (with_reducible refine HST.out.mono ?_); rintro e w5 ⟨A5, c5, O5, rfl, hp5⟩; have HP5 := keepHid hp5; clear hp5))
      go_ret
      exact ⟨A5, c5, O5, rfl, HP5.out⟩
  rw [decide_eq_false h2] at HPF
  by_cases h1 : q = [24]
  · have HP : Hid (RPost B G O crc cl W r w (.returned (.slice none 0 0)) (w3.alloc (.cells #[.int .u8 24, .int .u8 24] 5))) := keepHid (by
      rw [← HR.out, seeR_one hne (by rw [hbu]; exact h2) (by rw [hbu]; exact h1)]
      exact RPost.none_ t4 k4 k3)
    have hN1 : N = 1 := by rw [← hql, h1]; rfl
    have h24 : c0 = 24 := by rw [h1] at hc0; simpa using hc0.symm
    subst hN1 h24
    have g0' : (w3.alloc (.cells #[.int .u8 24, .int .u8 24] 5)).cell? ⟨g, 0, none⟩ = some (.int .u8 24) := g0a
    have g0'' : w3.cell? ⟨g, 0, none⟩ = some (.int .u8 24) := g0
    clear g0 g0a k1 k2 k3 k8 k4 b4 t4 hbu hda hbl1 hql hc0 hhd hq hs1 HR hne h4 h2 h1
    rcases hgd with rfl | ⟨rfl, hgd⟩
    all_goals
      go_wp2_with (go_at_call 86; (with_reducible refine HPF.out.mono ?_); rintro e w6 ⟨rfl, rfl⟩)
      go_ret
      exact HP.out
  have HSN : Hid (Calls Tryz.prog 87 #[.pointer (some ⟨G, 0, none⟩)] (w3.alloc (.cells #[.int .u8 24, .int .u8 24] 5)) (RPost B G O crc cl W r w)) := keepHid (by
    rw [← HR.out, seeR_scan hne (by rw [hbu]; exact h2) (by rw [hbu]; exact h1)]
    exact (scanR_any k4 (by rw [hda]; exact HDN.out) (by rw [hbl1]; exact HBL.out) (by rw [hbu, hql]; exact hNm)).mono fun _ _ h => h.of t4 k3)
  have hlast : ((N : Int) == 1) = false ∨ (N = 1 ∧ ((c0.toNat : Int) == 24) = false) := by
    by_cases hN1 : N = 1
    · refine .inr ⟨hN1, u8_ne (d := 24) (fun e => h1 ?_)⟩
      rcases q with _ | ⟨x, _ | ⟨y, t⟩⟩
      · simp at hc0
      · simp at hc0; rw [hc0, e]
      · simp at hql; omega
    · exact .inl (by simp; omega)
  clear k1 k2 k3 k8 k4 b4 t4 hbu hda hbl1 hql hc0 hhd hq hs1 HR hne h4 h2 h1
  rcases hlast with hN1 | ⟨rfl, h24⟩
  all_goals
    rcases hgd with rfl | ⟨rfl, hgd⟩
    all_goals
      generalize c0.toNat = cn at *
      go_wp2_with (first | (go_at_call 86; (with_reducible refine HPF.out.mono ?_); rintro e w6 ⟨rfl, rfl⟩) | (go_at_call 87; (with_reducible refine HSN.out.mono ?_); rintro e w5 ⟨A5, c5, O5, rfl, hp5⟩; have HP5 := keepHid hp5; clear hp5))
      go_ret
      exact ⟨A5, c5, O5, rfl, HP5.out⟩


set_option maxRecDepth 100000 in
set_option maxHeartbeats 4000000 in
theorem tick_rcv {w : World} {B G W : Nat} {O : Nat → Prop} {crc cl : Bool} {s : Rd} (h : Rcv w B G O crc cl W s) :
    Calls Tryz.prog 52 #[.pointer (some ⟨G, 0, none⟩)] w (RPost B G O crc cl W (tickR crc W s) w) := by
  have hw1 := h.w1
  have hw99 := h.w99
  have h1 := h.t1
  have ht99 := h.t99
  have H := keepHid h
  obtain ⟨c5, c6, c7, c9, hf⟩ : w.cell? ⟨G, 5, none⟩ = some (.int .i64 (W : Int)) ∧ w.cell? ⟨G, 6, none⟩ = some (.int .i64 (s.tk : Int)) ∧ (∃ u, w.cell? ⟨G, 7, none⟩ = some u) ∧ w.cell? ⟨G, 9, none⟩ = some (.bool s.ov) ∧ ∀ i, w.frozen? ⟨G, i, none⟩ = false := by
    obtain ⟨⟨_, _, h1, _⟩, _⟩ := h
    exact ⟨h1.cell 5, h1.cell 6, ⟨_, h1.cell 7⟩, h1.cell 9, h1.frozen⟩
  obtain ⟨u7, c7⟩ := c7
  unfold tickR
  by_cases ho : s.ov = true
  · rw [if_pos ho]
    rw [ho] at c9
    have HP : Hid (RPost B G O crc cl W ([], s) w (.returned (.slice none 0 0)) w) := keepHid (RPost.none_ (Turn.refl _ w) h (fun i hi => .inl hi))
    clear h ho
    go_enter Tryz.func52, Tryz.ntmps52
    go_wp2
    go_ret
    exact HP.out
  rw [if_neg ho]
  have ho' : s.ov = false := by simpa using ho
  rw [ho'] at c9
  obtain ⟨u, hu⟩ : ∃ u, s.tk = u + 1 := ⟨s.tk - 1, by omega⟩
  have i1 : (s.tk : Int) - 1 = (u : Int) := by omega
  have hu99 : (u : Int) ≤ 98 := by omega
  by_cases hk : 1 < s.tk
  · rw [if_pos hk]
    have hr : Rcv (w.setCell ⟨G, 6, none⟩ (.int .i64 (u : Int))) B G O crc cl W { s with tk := s.tk - 1 } := h.put_ 6 _ (fun _ _ => by rw [show s.tk - 1 = u by omega]; rfl) rfl rfl (by show 1 ≤ s.tk - 1; omega) (by show s.tk - 1 ≤ 99; omega) h.tr h.bl
    have HP : Hid (RPost B G O crc cl W ([], { s with tk := s.tk - 1 }) w (.returned (.slice none 0 0)) (w.setCell ⟨G, 6, none⟩ (.int .i64 (u : Int)))) := keepHid (RPost.none_ (h.turnO 6 _) hr (fun i hi => .inl hi))
    have i2 : 0 < (u : Int) := by omega
    generalize ({ s with tk := s.tk - 1 } : Rd) = s' at *
    generalize s.tk = tk at *
    clear h hr ho ho' hk h1 ht99 hu hw1 hw99
    go_enter Tryz.func52, Tryz.ntmps52
    go_wp2
    go_ret
    exact HP.out
  · rw [if_neg hk]
    obtain rfl : u = 0 := by omega
    obtain ⟨w2, hw2⟩ : ∃ w2, (((w.setCell ⟨G, 6, none⟩ (.int .i64 0)).setCell ⟨G, 6, none⟩ (.int .i64 (W : Int))).setCell ⟨G, 7, none⟩ (.slice none 0 0)) = w2 := ⟨_, rfl⟩
    have hd : Rcv w2 B G O crc cl W { s with tk := W, bu := [] } := by
      rw [← hw2]
      have t : Turn (fun b => b = G) w (((w.setCell ⟨G, 6, none⟩ (.int .i64 0)).setCell ⟨G, 6, none⟩ (.int .i64 (W : Int))).setCell ⟨G, 7, none⟩ (.slice none 0 0)) := turnAt 7 _ (turnAt 6 _ (turnAt 6 _ (Turn.refl _ w)))
      obtain ⟨⟨vb, vd, h1, h2, h3, h4, h5⟩, hg, hl, hge, a1, a2, a3, a4, a5, a6⟩ := h
      exact ⟨⟨.slice none 0 0, vd, ((h1.put 6 _).put 6 _).put 7 _, World.ownsRow_nil _ _ _ _, h3.keep fun j hj hlt => t.block j hlt (h5 j hj).2, fun j hj => by simp [Value.ownBlock] at hj, h5⟩, hg, fun j hj => Nat.lt_of_lt_of_le (hl j hj) t.size, hge, a1, a2, hw1, hw99, a5, a6⟩
    have tt : Turn O w w2 := by
      rw [← hw2]
      exact ((turnAt 7 _ (turnAt 6 _ (turnAt 6 _ (Turn.refl _ w)))) : Turn (fun b => b = G) w _).mono (fun i hi => by rw [hi]; exact h.g)
    have HAS : Hid (Calls Tryz.prog 77 #[.pointer (some ⟨G, 0, none⟩)] w2 (RPost B G O crc cl W (askR crc { s with tk := W, bu := [] }) w)) := keepHid ((ask_any hd).mono fun _ _ h => h.of tt (fun i hi => .inl hi))
    generalize askR crc { s with tk := W, bu := [] } = r at *
    generalize s.tk = tk at *
    clear h hd tt ho ho' hk h1 ht99 hu
    go_enter Tryz.func52, Tryz.ntmps52
    go_wp2_with (go_at_call 77; (with_reducible refine HAS.out.mono ?_); rintro e w5 ⟨A5, c5, O5, rfl, hp5⟩; have HP5 := keepHid hp5; clear hp5)
    go_ret
    exact ⟨A5, c5, O5, rfl, HP5.out⟩
theorem done_rcv {w : World} {B G W : Nat} {O : Nat → Prop} {crc cl : Bool} {s : Rd} (h : Rcv w B G O crc cl W s) :
    Calls Tryz.prog 78 #[.pointer (some ⟨G, 0, none⟩)] w fun e w' => e = .returned (.tuple #[.bool s.ov, errV s.er]) ∧ w' = w.drew := by
  obtain ⟨c9, c10⟩ : w.cell? ⟨G, 9, none⟩ = some (.bool s.ov) ∧ w.cell? ⟨G, 10, none⟩ = some (errV s.er) := by
    obtain ⟨⟨_, _, h1, _⟩, _⟩ := h
    exact ⟨h1.cell 9, h1.cell 10⟩
  clear h
  rcases errV_or s.er with e | ⟨t, u, e⟩
  all_goals
    rw [e] at c10 ⊢
    go_enter Tryz.func78, Tryz.ntmps78
    go_upto_region 1 with fail
    go_region
    go_wp2
    go_ret2
    exact ⟨rfl, rfl⟩
/-- The data, in a row of the call's own. -/
theorem data_rcv {w : World} {B G W : Nat} {O : Nat → Prop} {crc cl : Bool} {s : Rd} (h : Rcv w B G O crc cl W s) (hn : s.da.length ≤ 140737488355328) :
    Calls Tryz.prog 81 #[.pointer (some ⟨G, 0, none⟩)] w (RetB w s.da) := by
  obtain ⟨⟨vb, vd, h1, h2, h3, h4, h5⟩, hg, hl, hge, a1, a2, a3, a4, a5, a6⟩ := h
  obtain ⟨Ad, cd, rfl⟩ := len_sl h3
  have c8 : w.cell? ⟨G, 8, none⟩ = some (.slice Ad s.da.length cd) := h1.cell 8
  have HC := keepHid (clone_any Ad s.da.length cd w.heap.size s.da w (h3.bys (by omega)) hn)
  generalize s.da.length = n at *
  generalize s.da = d at *
  clear h1 h2 h3 h4 h5 hg hl hge a1 a2 a3 a4 a5 a6
  go_enter Tryz.func81, Tryz.ntmps81
  go_wp2_with (go_at_call 44; (with_reducible refine HC.out.mono ?_); rintro e w5 ⟨A5, c5, rfl, hp5⟩; have HP5 := keepHid hp5; clear hp5)
  go_ret
  exact ⟨A5, c5, rfl, HP5.out⟩
def OfRPost (w : World) (crc cl : Bool) (W : Nat) (s : Rd) (e : Ending) (w' : World) : Prop :=
  ∃ G, e = .returned (.pointer (some ⟨G, 0, none⟩)) ∧ w.heap.size ≤ G ∧ Rcv w' w.heap.size G (fun i => i = G) crc cl W s ∧ Below w.heap.size w w'
set_option maxRecDepth 100000 in
set_option maxHeartbeats 4000000 in
theorem of_rcv (z1 z2 : Int) (number : UInt8) (crc cl : Bool) (many : Int) (w : World) (hm : many ≤ 9223372036854775807) :
    Calls Tryz.prog 68 #[.agg #[.int .i64 z1, .int .i64 z2], .int .u8 (number.toNat : Int), .bool crc, .bool cl, .int .i64 many] w (OfRPost w crc cl (capZ z2 99) (newR number many (capZ z1 9))) := by
  obtain ⟨hT, hT1, hT9⟩ := capZ_is z1 9 (by omega)
  obtain ⟨hW, hW1, hW9⟩ := capZ_is z2 99 (by omega)
  generalize capZ z1 9 = T at *
  generalize capZ z2 99 = W at *
  obtain ⟨mb, hmb⟩ : ∃ mb, max many 1 = mb := ⟨_, rfl⟩
  obtain ⟨m1, hm1⟩ : ∃ m1, max z1 1 = m1 := ⟨_, rfl⟩
  obtain ⟨m2, hm2⟩ : ∃ m2, max z2 1 = m2 := ⟨_, rfl⟩
  rw [hm1] at hT
  rw [hm2] at hW
  have q1 := fun ts t W => max_z ts t z1 1 m1 hm1 W
  have q2 := fun ts t W => max_z ts t z2 1 m2 hm2 W
  have q3 := fun ts t W => min_z ts t m1 9 T hT W
  have q4 := fun ts t w => min_z ts t m2 99 W hW w
  have q5 := fun ts t w => max_z ts t many 1 mb hmb w
  obtain ⟨w1, hw1⟩ : ∃ w1, w.alloc (.cells #[.int .i64 z1, .int .i64 z2] 23) = w1 := ⟨_, rfl⟩
  have hb1 : Below w.heap.size w w1 := by rw [← hw1]; exact (Below.refl _ _).alloc (Nat.le_refl _) _
  have hk1 : Blk w1 w.heap.size 23 #[.int .i64 z1, .int .i64 z2] := by rw [← hw1]; exact Blk.new w _ _
  have a0 : w1.cell? ⟨w.heap.size, 0, none⟩ = some (.int .i64 z1) := hk1.cell 0
  have a1 : w1.cell? ⟨w.heap.size, 1, none⟩ = some (.int .i64 z2) := hk1.cell 1
  have HP : Hid (OfRPost w crc cl W (newR number many T) (.returned (.pointer (some ⟨w1.heap.size, 0, none⟩))) (w1.alloc (.cells #[.int .u8 (number.toNat : Int), .bool crc, .bool cl, .int .i64 mb, .int .i64 (T : Int), .int .i64 (W : Int), .int .i64 1, .slice none 0 0, .slice none 0 0, .bool false, .nilIface] 118))) := keepHid (by
    refine ⟨w1.heap.size, rfl, hb1.size, ?_, hb1.alloc hb1.size _⟩
    refine ⟨⟨.slice none 0 0, .slice none 0 0, ?_, World.ownsRow_nil _ _ _ _, World.ownsRow_nil _ _ _ _, fun i hi => by simp [Value.ownBlock] at hi, fun i hi => by simp [Value.ownBlock] at hi⟩, rfl, fun i hi => by rw [hi]; simp, fun i hi => by rw [hi]; exact hb1.size, hW1, hW9, Nat.le_refl _, by show 1 ≤ 99; omega, hT9, by show max many 1 ≤ _; omega⟩
    rw [← hmb]
    exact Blk.new w1 _ _)
  clear hT hW hm1 hm2 hT1 hT9 hW1 hW9 hb1 hk1 hm hmb
  go_enter Tryz.func68, Tryz.ntmps68
  go_wp2
  go_ret
  exact HP.out
end Go.Proofs.YtgdjopiejmdbnaaGreatDoor
