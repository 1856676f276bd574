/-
  What the calls of a receiver's do.
-/
import Derived.Test.YtjbkhaoddababaaReceiverTake
import Derived.Test.YtjbkhaoddababaaBlockUse
import Derived.Test.YtjbkhaoddababaaBytesEqual
import Derived.Test.YtjbkhaoddababaaBytesClone
namespace Go.Proofs.Ytjbkhaoddababaa
open Go.RowKit
set_option linter.unusedVariables false

/-- bytes.HasPrefix, of a prefix of two. -/
theorem prefix_any (A B : Option Addr) (n c d P Q : Nat) (xs bs : List UInt8) (w : World) (ha : Bys w P A n xs) (hb : Bys w Q B 2 bs) (hc : n ≤ c) :
    Calls Try.prog 45 #[.slice A n c, .slice B 2 d] w fun e w' => e = .returned (.bool (decide (xs.take 2 = bs))) ∧ w = w' := by
  have hl := ha.len
  rcases Nat.lt_or_ge n 2 with h | h
  · have he : decide (xs.take 2 = bs) = false := by
      rw [decide_eq_false_iff_not]
      intro e
      have := congrArg List.length e
      rw [List.length_take, hb.len] at this
      omega
    rw [he]
    have i1 : ¬ (2 : Int) ≤ (n : Int) := by omega
    clear ha hb hl he
    go_enter Try.func45, Try.ntmps45
    go_wp2
    go_ret
    exact ⟨rfl, rfl⟩
  · have HE := keepHid (equal_any A B 2 2 c d P Q (xs.take 2) bs w (ha.head h) hb)
    have i1 : (2 : Int) ≤ (n : Int) := by omega
    have i2 : (2 : Int) ≤ (c : Int) := by omega
    clear ha hb hl
    generalize decide (xs.take 2 = bs) = q at *
    go_enter Try.func45, Try.ntmps45
    go_wp2_with (go_at_call 50; (with_reducible refine HE.out.mono ?_); rintro e w5 ⟨rfl, rfl⟩)
    go_ret
    exact ⟨rfl, rfl⟩
/-- What is read of bytes, in a block of its own. -/
def Scanned (w : World) (num : UInt8) (d : List UInt8) (p : Value) (wx : World) : Prop :=
  ∃ g A c, p = .pointer (some ⟨g, 0, none⟩) ∧ wx.cell? ⟨g, 0, none⟩ = some (.int .u8 (num.toNat : Int)) ∧ wx.cell? ⟨g, 1, none⟩ = some (.slice A d.length c) ∧ Bys wx wx.heap.size A d.length d ∧ Below w.heap.size w wx ∧ w.heap.size ≤ g ∧ ∀ G, G < w.heap.size → Apart (fun b => b = G) A d.length
theorem scanned_of {w w5 wx : World} {num : UInt8} {d : List UInt8} {g : Nat} {A : Option Addr} {c B : Nat} (hg : w.heap.size ≤ g) (hb : Below w.heap.size w wx) (hk : Blk wx g 79 #[.int .u8 (num.toNat : Int), .slice A d.length c]) (ho : OwnB w5 B 5 (.slice A d.length c) d.length d) (hd : d.length ≤ 1024)
    (ht : Turn (fun b => b = g) w5 wx) (hB : g < B ∨ w5.heap.size ≤ g) (hwB : w.heap.size ≤ B) : Scanned w num d (.pointer (some ⟨g, 0, none⟩)) wx := by
  refine ⟨g, A, c, rfl, hk.cell 0, hk.cell 1, ?_, hb, hg, fun G hG => apart_new ho (by omega)⟩
  have hy := ho.bys (by omega)
  refine (hy.turn ht (Nat.le_refl _) ?_).more ht.size
  rcases hB with h | h
  · exact apart_new ho h
  · exact hy.apart (fun i hi => by omega)
theorem scan_len (bs : List UInt8) (crc : Bool) : (scanL bs crc).2.2.length ≤ 1024 := by
  rcases scan_state bs crc with h | h | h
  · have : (scanL bs crc).2.2 = [] := by
      unfold scanL at h ⊢
      repeat' split
      all_goals simp_all
    rw [this]; simp
  · have : (scanL bs crc).2.2 = [] := by
      unfold scanL at h ⊢
      repeat' split
      all_goals simp_all
    rw [this]; simp
  · rcases scan_data bs crc h with e | e <;> omega
set_option maxRecDepth 100000 in
set_option maxHeartbeats 4000000 in
theorem scanR_any {w : World} {B G W : Nat} {O : Nat → Prop} {crc cl : Bool} {s : Rd} (h : Rcv w B G O crc cl W s) (hn : s.da.length + 1024 ≤ 140737488355328) (hbl : -9223372036854775808 < s.bl) (hbm : s.bu.length ≤ 140737488355328) :
    Calls Try.prog 46 #[.pointer (some ⟨G, 0, none⟩)] w (RPost B G O crc cl W (scanR crc cl s) w) := by
  have H := keepHid h
  obtain ⟨⟨vb, vd, h1, h2, h3, h4, h5⟩, hg, hl, hge, a1, a2, a3, a4, a5, a6⟩ := h
  obtain ⟨Ab, cb, hlb, hcm, rfl⟩ : ∃ A c, s.bu.length ≤ c ∧ c ≤ 9223372036854775807 ∧ vb = .slice A s.bu.length c := by
    obtain ⟨A, c, e, e1, e2, _⟩ := h2.form
    exact ⟨A, c, e1, e2, e⟩
  have c7 : w.cell? ⟨G, 7, none⟩ = some (.slice Ab s.bu.length cb) := h1.cell 7
  have c1 : w.cell? ⟨G, 1, none⟩ = some (.bool crc) := h1.cell 1
  have hlt := hl G hg
  have c7' : (w.alloc (.cells #[.int .u8 0, .slice none 0 0] 79)).cell? ⟨G, 7, none⟩ = some (.slice Ab s.bu.length cb) := (World.cell?_alloc_lt _ _ _ hlt).trans c7
  have c1' : (w.alloc (.cells #[.int .u8 0, .slice none 0 0] 79)).cell? ⟨G, 1, none⟩ = some (.bool crc) := (World.cell?_alloc_lt _ _ _ hlt).trans c1
  have hby := h2.bys (n := s.bu.length) (by omega)
  have HSC : Hid (∀ w', Below w.heap.size w w' → Calls Try.prog 37 #[.slice Ab s.bu.length cb, .bool crc] w' (ScanPost w' (scanL s.bu crc))) := keepHid (fun w' hb => scan_any Ab s.bu.length cb w.heap.size s.bu crc w' (hby.below hb) hb.size hlb hcm)
  have HD : Hid (Below w.heap.size w w.drew) := keepHid (Below.drew (Below.refl _ _))
  have HDA : Hid (Below w.heap.size w (w.alloc (.cells #[.int .u8 0, .slice none 0 0] 79)).drew) := keepHid (Below.drew ((Below.refl _ _).alloc (Nat.le_refl _) _))
  have hs := scan_state s.bu crc
  have hsd := scan_len s.bu crc
  have HSR : Hid (scanR crc cl s = if (scanL s.bu crc).1 = 0 then ([], s) else if (scanL s.bu crc).1 = 1 then ([21], { s with bu := [] }) else takeR cl { s with bu := [] } (scanL s.bu crc).2.1 (scanL s.bu crc).2.2) := keepHid rfl
  obtain ⟨⟨st, num, d⟩, hsc⟩ : ∃ r, scanL s.bu crc = r := ⟨_, rfl⟩
  rw [hsc] at HSC hs hsd HSR
  simp only [] at hs hsd HSR
  obtain ⟨r, hr0⟩ : ∃ r, scanR crc cl s = r := ⟨_, rfl⟩
  rw [hr0] at HSR ⊢
  have HFA : Hid (∀ A5 c5 w5, OwnB w5 (w.alloc (.cells #[.int .u8 0, .slice none 0 0] 79)).drew.heap.size 5 (.slice A5 d.length c5) d.length d → Below (w.alloc (.cells #[.int .u8 0, .slice none 0 0] 79)).drew.heap.size (w.alloc (.cells #[.int .u8 0, .slice none 0 0] 79)).drew w5 →
      w5.cell? ⟨w.heap.size, 0, none⟩ = some (.int .u8 0) ∧ w5.cell? ⟨w.heap.size, 1, none⟩ = some (.slice none 0 0) ∧ (∀ i, w5.frozen? ⟨w.heap.size, i, none⟩ = false) ∧ Scanned w num d (.pointer (some ⟨w.heap.size, 0, none⟩)) ((w5.setCell ⟨w.heap.size, 0, none⟩ (.int .u8 (num.toNat : Int))).setCell ⟨w.heap.size, 1, none⟩ (.slice A5 d.length c5))) := keepHid (fun A5 c5 w5 ho hb => by
    have k0 : Blk (w.alloc (.cells #[.int .u8 0, .slice none 0 0] 79)).drew w.heap.size 79 #[.int .u8 0, .slice none 0 0] := Blk.new w _ _
    have k5 := k0.below hb k0.lt
    have b5 : Below w.heap.size w w5 := HDA.out.trans (hb.mono HDA.out.size)
    exact ⟨k5.cell 0, k5.cell 1, k5.frozen, scanned_of (Nat.le_refl _) ((b5.setCell (Nat.le_refl _) _).setCell (Nat.le_refl _) _) ((k5.put 0 _).put 1 _) ho hsd (turnAt _ _ (turnAt _ _ (Turn.refl _ _))) (.inl k0.lt) HDA.out.size⟩)
  have HFB : Hid (∀ A5 c5 w5, OwnB w5 w.drew.heap.size 5 (.slice A5 d.length c5) d.length d → Below w.drew.heap.size w.drew w5 → Scanned w num d (.pointer (some ⟨w5.heap.size, 0, none⟩)) (w5.alloc (.cells #[.int .u8 (num.toNat : Int), .slice A5 d.length c5] 79))) := keepHid (fun A5 c5 w5 ho hb => by
    have b5 : Below w.heap.size w w5 := HD.out.trans (hb.mono HD.out.size)
    exact scanned_of b5.size (b5.alloc b5.size _) (Blk.new w5 _ _) ho hsd ((Turn.refl _ _).alloc _) (.inr (Nat.le_refl _)) HD.out.size)
  obtain ⟨nb, hnb⟩ : ∃ nb, s.bu.length = nb := ⟨_, rfl⟩
  rw [hnb] at c7 c7' HSC
  obtain ⟨nd, hnd⟩ : ∃ nd, d.length = nd := ⟨_, rfl⟩
  rw [hnd] at HFA HFB
  go_enter Try.func46, Try.ntmps46
  go_upto_region 1 with fail
  go_cut [3, 4] (fun p sv wx => sv = .int .i64 (st : Int) ∧ Scanned w num d p wx)
  case first =>
    clear hs hsd hn hbl hbm h1 h2 h3 h4 h5 hg hl hge a1 a2 a3 a4 a5 a6 hby hsc hnb
    go_region_with (go_at_call 37; (with_reducible refine (HSC.out _ (by first | exact HD.out | exact HDA.out)).mono ?_); rintro e w5 ⟨A5, c5, rfl, ho5, h51, h52, hb5⟩; simp only [hnd] at ho5 h51; first | (obtain ⟨f0, f1, ff, fR⟩ := HFA.out _ _ _ ho5 hb5; have HR5 := keepHid fR; clear fR ho5 hb5) | (have HR5 := keepHid (HFB.out _ _ _ ho5 hb5); clear ho5 hb5))
    all_goals
      go_wp2_with fail
      go_meet
      case rel => exact ⟨rfl, HR5.out⟩
  case rest =>
    obtain ⟨rfl, g, A5, c5, rfl, b0, b1, hby5, hb5, hg5, hap⟩ := hcut
    have hr := H.out.below hb5
    have hd := hr.drop_
    have hkc : wc.cell? ⟨G, 7, none⟩ = some (.slice Ab nb cb) := (hb5.cell hlt).trans c7
    have hfz : wc.frozen? ⟨G, 7, none⟩ = false := by
      obtain ⟨⟨_, _, q1, _⟩, _⟩ := hr
      exact q1.frozen 7
    have tt : Turn O w (wc.setCell ⟨G, 7, none⟩ (.slice none 0 0)) := (Turn.of_below hb5).trans (hr.turnO 7 _)
    rcases hs with rfl | rfl | rfl
    · have HP : Hid (RPost B G O crc cl W r w (.returned (.slice none 0 0)) wc) := keepHid (by rw [HSR.out, if_pos rfl]; exact RPost.none_ (Turn.of_below hb5) hr (fun i hi => .inl hi))
      clear hr hd tt hby5 hb5 hap h1 h2 h3 h4 h5 hg hl hge hby hsc
      go_wp2
      go_ret
      exact HP.out
    · have HP : Hid (RPost B G O crc cl W r w (.returned (.slice (some ⟨wc.heap.size, 0, none⟩) 1 1)) ((wc.setCell ⟨G, 7, none⟩ (.slice none 0 0)).alloc (.cells #[.int .u8 21] 5))) :=
        keepHid (by rw [HSR.out, if_neg (by decide), if_pos rfl]; exact (ack_post hd [21] 1 rfl (by omega) _ rfl wc.heap.size (by simp [World.setCell])).of tt (fun i hi => .inl hi))
      clear hr hd tt hby5 hb5 hap h1 h2 h3 h4 h5 hg hl hge hby hsc
      go_wp2
      go_ret
      exact HP.out
    · have HTK : Hid (Calls Try.prog 57 #[.pointer (some ⟨G, 0, none⟩), .agg #[.int .u8 (num.toNat : Int), .slice A5 d.length c5]] (wc.setCell ⟨G, 7, none⟩ (.slice none 0 0)) (RPost B G O crc cl W r w)) :=
        keepHid (by rw [HSR.out, if_neg (by decide), if_neg (by decide)]; exact (take_any hd num A5 d.length c5 wc.heap.size d (hby5.turn (turnAt _ _ (Turn.refl _ _)) (Nat.le_refl _) (hap G hlt)) (by simp [World.setCell]) (by show s.da.length + d.length ≤ _; omega) hbl).mono fun _ _ h => h.of tt (fun i hi => .inl hi))
      rw [hnd] at HTK b1
      clear hnd
      have hgG : ¬ g = G := by omega
      have hGg : ¬ G = g := by omega
      clear hr hd tt hby5 hb5 hap h1 h2 h3 h4 h5 hg hl hge hby hsc
      go_wp2_with (go_at_call 57; (with_reducible refine HTK.out.mono ?_); rintro e w7 ⟨A7, c7, O7, rfl, hp7⟩; have HP7 := keepHid hp7; clear hp7)
      go_ret
      exact ⟨A7, c7, O7, rfl, HP7.out⟩
end Go.Proofs.Ytjbkhaoddababaa
