/-
  A sender of files is made.
-/
import Derived.Test.YtgdjopiejmdbnaaGreatDoorBatchRecv
import Derived.Test.YtgdjopiejmdbnaaGreatDoorSenderOf
import Derived.Test.YtgdjopiejmdbnaaGreatDoorBlockTake
namespace Go.Proofs.YtgdjopiejmdbnaaGreatDoor
open Go.RowKit
set_option linter.unusedVariables false

theorem SndNew.lower {w : World} {L L' Hb G : Nat} {bl : Bks} {T W : Nat} {cl crc : Bool} (h : SndNew w L Hb G bl T W cl crc) (hL : L' ≤ L) : SndNew w L' Hb G bl T W cl crc := by
  obtain ⟨⟨B, A, h1, h2, h3, h4, h5, h6⟩, a1, a2, a3, a4, a5, a6, a7, a8⟩ := h
  refine ⟨⟨B, A, h1, h2, h3, Nat.le_trans hL h4, h5, fun j p hp => ?_⟩, a1, Nat.le_trans hL a2, a3, a4, a5, a6, a7, a8⟩
  obtain ⟨A', c', f1, f2, f3, f4, f5⟩ := h6 j p hp
  exact ⟨A', c', f1, f2, f3, f4, f5.mono fun i hi => Nat.lt_of_lt_of_le hi hL⟩
/-- One block's sender. -/
theorem alone_any (z1 z2 : Int) (A : Option Addr) (n c : Nat) (d : List UInt8) (w : World) (h : Bys w w.heap.size A n d) (hn : n ≤ 140737488355328) :
    Calls Tryz.prog 40 #[.agg #[.int .i64 z1, .int .i64 z2], .slice A n c] w (OfNPost w [(0, d)] (capZ z1 9) (capZ z2 99) false true) := by
  have hl := h.len
  obtain ⟨w1, hw1⟩ : ∃ w1, w.alloc (.cells #[.int .i64 z1, .int .i64 z2] 23) = w1 := ⟨_, rfl⟩
  obtain ⟨w2, hw2⟩ : ∃ w2, w1.alloc (.cells #[.int .u8 0, .slice A n c] 50) = w2 := ⟨_, rfl⟩
  have hb1 : Below w.heap.size w w1 := by rw [← hw1]; exact (Below.refl _ _).alloc (Nat.le_refl _) _
  have hb2 : Below w.heap.size w w2 := by rw [← hw2]; exact hb1.alloc hb1.size _
  have hk1 : Blk w1 w.heap.size 23 #[.int .i64 z1, .int .i64 z2] := by rw [← hw1]; exact Blk.new w _ _
  have a0 : w1.cell? ⟨w.heap.size, 0, none⟩ = some (.int .i64 z1) := hk1.cell 0
  have a1 : w1.cell? ⟨w.heap.size, 1, none⟩ = some (.int .i64 z2) := hk1.cell 1
  have hk2 : Blk w2 w1.heap.size 50 #[.int .u8 0, .slice A n c] := by rw [← hw2]; exact Blk.new w1 _ _
  have HOF : Hid (Calls Tryz.prog 41 #[.agg #[.int .i64 z1, .int .i64 z2], .slice (some ⟨w1.heap.size, 0, none⟩) 1 1, .bool true, .bool false] w2 fun e w' => ∃ G, e = .returned (ptV G) ∧ OfNPost w [(0, d)] (capZ z1 9) (capZ z2 99) false true e w') := keepHid (by
    refine (of_new z1 z2 (some ⟨w1.heap.size, 0, none⟩) 1 1 [(0, d)] true false w2 ⟨rfl, fun j q hq => ?_⟩ (by omega) (fun q hq => ?_)).mono ?_
    · obtain ⟨rfl, rfl⟩ : j = 0 ∧ q = (0, d) := by
        rcases j with _ | j
        · exact ⟨rfl, by simpa using hq.symm⟩
        · simp at hq
      refine ⟨_, A, c, rfl, hk2.lt, hk2.cell 0, ?_, ?_⟩
      · rw [show ((0 : UInt8), d).2.length = n from hl]
        exact hk2.cell 1
      · rw [show ((0 : UInt8), d).2.length = n from hl]
        exact (h.below hb2).more hb2.size
    · simp at hq
      rw [hq]
      show d.length ≤ _
      omega
    · rintro e w' ⟨G, e1, e2, e3⟩
      exact ⟨G, e1, G, e1, e2.lower hb2.size, hb2.trans (e3.mono hb2.size)⟩)
  clear h hl hb1 hb2 hk1 hk2
  go_enter Tryz.func40, Tryz.ntmps40
  go_wp2_with fail
  (with_reducible refine HOF.out.mono ?_)
  rintro e w' ⟨G, rfl, hp⟩
  have HP := keepHid hp
  clear hp
  unfold ptV at *
  go_wp2
  go_ret
  exact HP.out

/-- The parts of a file's transfer. -/
structure PartsOf (p : BP Fl) (f : Fl) (bs : List UInt8) : Prop where
  b0 : p.b0 = [(0, encL f)]
  b1 : p.b1 = numb (parts true bs)
  b2 : p.b2 = [(0, zeros 128)]
def BofPost (w : World) (p : BP Fl) (e : Ending) (w' : World) : Prop :=
  ∃ G, e = .returned (.tuple #[ptV G, .nilIface]) ∧ Bsn w' w.heap.size w'.heap.size G p (newBS p) ∧ Below w.heap.size w w'
/-- Three senders, made one behind the other, are a sender of files. -/
theorem bsn_new {w w5 w8 w10 wz : World} {p : BP Fl} {g0 g1 g2 : Nat} {L0 L1 L2 : Nat} (h0 : SndNew w5 L0 w5.heap.size g0 p.b0 p.T p.W false true) (h1 : SndNew w8 L1 w8.heap.size g1 p.b1 p.T p.W true true) (h2 : SndNew w10 L2 w10.heap.size g2 p.b2 p.T p.W false true)
    (hw : w.heap.size ≤ L0) (l1 : w5.heap.size ≤ L1) (l2 : w8.heap.size ≤ L2) (b0 : Below w.heap.size w w5) (b1 : Below w5.heap.size w5 w8) (b2 : Below w8.heap.size w8 w10) (b3 : Below w10.heap.size w10 wz) :
    BofPost w p (.returned (.tuple #[.pointer (some ⟨wz.heap.size + 1, 0, none⟩), .nilIface])) ((wz.alloc (.cells #[ptV g0, ptV g1, ptV g2] 78)).alloc (.cells #[.slice (some ⟨wz.heap.size, 0, none⟩) 3 3, .nilIface] 83)) := by
  obtain ⟨wy, hwy⟩ : ∃ wy, wz.alloc (.cells #[ptV g0, ptV g1, ptV g2] 78) = wy := ⟨_, rfl⟩
  have hky : Blk wy wz.heap.size 78 #[ptV g0, ptV g1, ptV g2] := by rw [← hwy]; exact Blk.new wz _ _
  have hsy : wy.heap.size = wz.heap.size + 1 := by rw [← hwy]; simp
  have hby : Below wz.heap.size wz wy := by rw [← hwy]; exact (Below.refl _ _).alloc (Nat.le_refl _) _
  rw [hwy]
  obtain ⟨wx, hwx⟩ : ∃ wx, wy.alloc (.cells #[.slice (some ⟨wz.heap.size, 0, none⟩) 3 3, .nilIface] 83) = wx := ⟨_, rfl⟩
  have hkx : Blk wx wy.heap.size 83 #[.slice (some ⟨wz.heap.size, 0, none⟩) 3 3, .nilIface] := by rw [← hwx]; exact Blk.new wy _ _
  have hbx : Below wy.heap.size wy wx := by rw [← hwx]; exact (Below.refl _ _).alloc (Nat.le_refl _) _
  have hsx : wx.heap.size = wy.heap.size + 1 := by rw [← hwx]; simp
  rw [hwx]
  have s1 := b0.size
  have s2 := b1.size
  have s3 := b2.size
  have s4 := b3.size
  have s5 := h0.ltG
  have s6 := h0.leG
  have s7 := h1.ltG
  have s8 := h1.leG
  have s9 := h2.ltG
  have s10 := h2.leG
  have c3 : Below w10.heap.size w10 wx := b3.trans ((hby.trans (hbx.mono (by omega))).mono s4)
  have c2 : Below w8.heap.size w8 wx := b2.trans (c3.mono s3)
  have c1 : Below w5.heap.size w5 wx := b1.trans (c2.mono s2)
  have k0 := h0.below c1
  have k1 := h1.below c2
  have k2 := h2.below c3
  rw [hsy] at hkx hsx
  refine ⟨wz.heap.size + 1, rfl, ⟨⟨_, hkx, (fun hh => by cases hh), fun _ => ⟨rfl, wz.heap.size, fun j => if j = 0 then g0 else if j = 1 then g1 else g2, fun j => if j = 0 then L0 else if j = 1 then L1 else L2, fun j => if j = 0 then w5.heap.size else if j = 1 then w8.heap.size else w10.heap.size, rfl, ?_⟩⟩, by omega, by omega, by omega⟩, b0.trans (c1.mono s1)⟩
  refine ⟨Nat.zero_le _, hky.below hbx hky.lt, k0.snd, e0_new _ _, fun j h1 h2 => ?_, fun j hj => ?_, fun j hj => ?_, fun i j hi hj => ?_, by omega, by omega⟩
  · rcases (by omega : j = 1 ∨ j = 2) with rfl | rfl
    · exact k1
    · exact k2
  · rcases (by omega : j = 0 ∨ j = 1 ∨ j = 2) with rfl | rfl | rfl <;> simp <;> omega
  · rcases (by omega : j = 0 ∨ j = 1 ∨ j = 2) with rfl | rfl | rfl <;> simp <;> omega
  · rcases (by omega : (i = 0 ∧ j = 1) ∨ (i = 0 ∧ j = 2) ∨ (i = 1 ∧ j = 2)) with ⟨rfl, rfl⟩ | ⟨rfl, rfl⟩ | ⟨rfl, rfl⟩ <;> simp <;> omega


/-- The calls that a sender is made by, in any later world. -/
theorem mk_split {w : World} (A : Option Addr) (n c : Nat) (bs : List UInt8) (hy : Bys w w.heap.size A n bs) (hc : n ≤ c) (hcm : c ≤ 9223372036854775807) (hn : n ≤ 8192) (w' : World) (hb : Below w.heap.size w w') :
    Calls Tryz.prog 22 #[.slice A n c, .bool true] w' fun e w6 => ∃ P k cap, e = .returned (.slice P k cap) ∧ (parts true bs).length = k ∧ k ≤ 65 ∧ RowsB w6 P k (parts true bs) ∧ Below w'.heap.size w' w6 := by
  refine (split_any A n c w.heap.size bs true w' (hy.below hb) hb.size hc hcm (by omega)).mono ?_
  rintro e w6 ⟨P, cap, rfl, h1, h2, h3, h4⟩
  have := parts_count true bs.length bs (Nat.le_refl _)
  have := hy.len
  exact ⟨P, _, cap, rfl, rfl, by omega, Rows'.rowsB h1, h4⟩
theorem mk_number {w : World} (P : Option Addr) (k cap : Nat) (rows : List (List UInt8)) (hr : RowsB w P k rows) (hl : rows.length = k) (hk : k ≤ 65) (hz : ∀ d ∈ rows, d.length = 128 ∨ d.length = 1024) (w' : World) (hb : Below w.heap.size w w') :
    Calls Tryz.prog 21 #[.slice P k cap] w' fun e w7 => ∃ g, e = .returned (.slice (some ⟨g, 0, none⟩) k k) ∧ BlkS w7 (some ⟨g, 0, none⟩) k (numb rows) ∧ Below w'.heap.size w' w7 := by
  have hr' : RowsB w' P k rows := by
    refine ⟨hr.1, fun j d hd => ?_⟩
    obtain ⟨ad, Ak, ck, e1, e2, e3, e4, e5, e6⟩ := hr.2 j d hd
    exact ⟨ad, Ak, ck, e1, Nat.lt_of_lt_of_le e2 hb.size, (hb.cell (by rw [ad_block]; exact e2)).trans e3, e4, e5, (e6.below hb).more hb.size⟩
  refine (number_any P k cap rows w' hr' (by omega) (fun d hd => by have := hz d hd; omega)).mono ?_
  rintro e w7 ⟨g, cs, V, rfl, e1, e2, e3, e4, e5⟩
  rw [hl] at e3 e4 ⊢
  exact ⟨g, rfl, blkS_num e2 hl e4, e5⟩
theorem BlkS.below' {w w' : World} {A : Option Addr} {n : Nat} {bl : Bks} (h : BlkS w A n bl) (hb : Below w.heap.size w w') : BlkS w' A n bl := h.below hb
theorem mk_of (z1 z2 : Int) {w : World} (g k : Nat) (bl : Bks) (h : BlkS w (some ⟨g, 0, none⟩) k bl) (hk : k ≤ 65) (hl : ∀ q ∈ bl, q.2.length ≤ 1024) (w' : World) (hb : Below w.heap.size w w') :
    Calls Tryz.prog 41 #[.agg #[.int .i64 z1, .int .i64 z2], .slice (some ⟨g, 0, none⟩) k k, .bool true, .bool true] w' fun e w8 => ∃ G L, e = .returned (.pointer (some ⟨G, 0, none⟩)) ∧ w.heap.size ≤ L ∧ SndNew w8 L w8.heap.size G bl (capZ z1 9) (capZ z2 99) true true ∧ Below w'.heap.size w' w8 := by
  refine (of_new z1 z2 (some ⟨g, 0, none⟩) k k bl true true w' (h.below hb) (by omega) (fun q hq => by have := hl q hq; omega)).mono ?_
  rintro e w8 ⟨G, e1, e2, e3⟩
  exact ⟨G, _, e1, hb.size, e2, e3⟩
theorem mk_alone (z1 z2 : Int) {w : World} (A : Option Addr) (n c : Nat) (d : List UInt8) (h : Bys w w.heap.size A n d) (hn : n ≤ 128) (w' : World) (hb : Below w.heap.size w w') :
    Calls Tryz.prog 40 #[.agg #[.int .i64 z1, .int .i64 z2], .slice A n c] w' fun e w5 => ∃ G L, e = .returned (.pointer (some ⟨G, 0, none⟩)) ∧ w.heap.size ≤ L ∧ SndNew w5 L w5.heap.size G [(0, d)] (capZ z1 9) (capZ z2 99) false true ∧ Below w'.heap.size w' w5 := by
  refine (alone_any z1 z2 A n c d w' ((h.below hb).more hb.size) (by omega)).mono ?_
  rintro e w5 ⟨G, e1, e2, e3⟩
  exact ⟨G, _, e1, hb.size, e2, e3⟩
theorem mk_empty {w : World} (w' : World) (hb : Below w.heap.size w w') :
    Calls Tryz.prog 42 #[] w' fun e w9 => ∃ g, e = .returned (.slice (some ⟨g, 0, none⟩) 128 128) ∧ Bys w9 w9.heap.size (some ⟨g, 0, none⟩) 128 (zeros 128) ∧ Below w'.heap.size w' w9 := by
  refine (empty_any w').mono ?_
  rintro e w9 ⟨rfl, rfl⟩
  exact ⟨_, rfl, (mk_bys (Blk.new w' _ (zrow 128)) (zeros_len 128)).more (by simp), (Below.refl _ _).alloc (Nat.le_refl _) _⟩
/-- Later and later worlds. -/
theorem bel2 {a b c : World} (h : Below a.heap.size a b) (k : Below b.heap.size b c) : Below a.heap.size a c := h.trans (k.mono h.size)
theorem belA {a w : World} (h : Below a.heap.size a w) (o : Obj) : Below a.heap.size a (w.alloc o) := h.alloc h.size o
def sizedF (f : Fl) (n : Nat) : Fl := ⟨f.name, (n : Int), f.time, f.mode⟩
theorem numb_sizes {bs : List UInt8} : ∀ q ∈ numb (parts true bs), q.2.length ≤ 1024 := fun q hq => by
  obtain ⟨j, hj⟩ := List.getElem?_of_mem hq
  obtain ⟨h1, _⟩ := numb_at hj
  rcases parts_sizes true bs.length bs (Nat.le_refl _) q.2 (List.mem_of_getElem? h1) with h | h <;> omega
set_option maxRecDepth 100000 in
set_option maxHeartbeats 8000000 in
theorem bof_any (z1 z2 : Int) (f : Fl) (hfn : f.name.length ≤ 9223372036854775807) (A : Option Addr) (n c : Nat) (bs : List UInt8) (w : World) (hT : Tabs w) (hy : Bys w w.heap.size A n bs) (hc : n ≤ c) (hcm : c ≤ 9223372036854775807) :
    Calls Tryz.prog 12 #[.agg #[.int .i64 z1, .int .i64 z2], flV f, .slice A n c] w fun e w' => (mayB (sizedF f n) = false ∧ e = .returned (.tuple #[.pointer none, errV 14]) ∧ Below w.heap.size w w') ∨
      (mayB (sizedF f n) = true ∧ ∀ p : BP Fl, PartsOf p (sizedF f n) bs → p.T = capZ z1 9 → p.W = capZ z2 99 → BofPost w p e w') := by
  obtain ⟨l, z, t, m⟩ := f
  unfold flV flCells sizedF
  simp only at hfn ⊢
  obtain ⟨w1, hw1⟩ : ∃ w1, w.alloc (.cells #[.int .i64 z1, .int .i64 z2] 23) = w1 := ⟨_, rfl⟩
  obtain ⟨w3, hw3⟩ : ∃ w3, w1.alloc (.cells #[.string (strB l), .int .i64 (n : Int), .int .i64 t, .int .i64 m] 30) = w3 := ⟨_, rfl⟩
  have hb1 : Below w.heap.size w w1 := by rw [← hw1]; exact (Below.refl _ _).alloc (Nat.le_refl _) _
  have hb3 : Below w.heap.size w w3 := by rw [← hw3]; exact hb1.alloc hb1.size _
  have hk1 : Blk w1 w.heap.size 23 #[.int .i64 z1, .int .i64 z2] := by rw [← hw1]; exact Blk.new w _ _
  have hk3 : Blk w3 w1.heap.size 30 (flCells ⟨l, n, t, m⟩) := by rw [← hw3]; exact Blk.new _ _ _
  have hk13 : Blk w3 w.heap.size 23 #[.int .i64 z1, .int .i64 z2] := by rw [← hw3]; exact hk1.alloc _
  have fa := fileAt_blk hk3
  have hc0 := fa.c0; have hc1 := fa.c1; have hc2 := fa.c2; have hc3 := fa.c3
  have hf3 := hk3.frozen
  have hmk := hmake_any ⟨l, n, t, m⟩ hfn w3 (hT.below hb3 (Nat.le_refl _))
  unfold flV flCells at hmk
  simp only at hmk
  have HMK := keepHid hmk
  have HB3 := keepHid hb3
  have HK13 := keepHid hk13
  have HY := keepHid hy
  have hnm := hy.max
  clear hb1 hb3 hk1 hk3 hk13 fa hT hy hmk
  have HW3 := keepHid hw3
  go_enter Tryz.func12, Tryz.ntmps12
  go_wp2_with fail
  (with_reducible refine HMK.out.mono ?_)
  rintro e w4 ⟨⟨A4, n4, c4, E4, rfl, hy4, hn4, hc4, he4⟩, hb4⟩
  have HY4 := keepHid hy4
  have HE4 := keepHid he4
  have HB4 := keepHid (HB3.out.trans (hb4.mono HB3.out.size))
  have HK4 := keepHid (HK13.out.below hb4 HK13.out.lt)
  have HL4 := keepHid hy4.len
  clear hy4 he4 hb4 hc0 hc1 hc2 hc3 hf3 hw1 hw3
  obtain ⟨ok, hok⟩ : ∃ ok, mayB ⟨l, n, t, m⟩ = ok := ⟨_, rfl⟩
  rw [hok] at HE4 ⊢
  have HOK := keepHid hok
  clear hok
  cases ok
  · have HFIN : Hid (Below w.heap.size w w4) := HB4
    go_wp2
    go_ret2
    exact .inl ⟨HOK.out, rfl, HFIN.out⟩
  · have he4 : E4 = encL ⟨l, n, t, m⟩ := by rw [HE4.out]; rfl
    have hmay := (mayB_iff _).1 HOK.out
    have hn8 : n ≤ 8192 := by have := hmay.size; simp only at this; omega
    have hn128 : n4 = 128 := by rw [← HL4.out, he4, encL_len hmay]
    subst hn128
    have hy4 := HY4.out
    rw [he4] at hy4
    have HCS : Hid (∀ w', Below w4.heap.size w4 w' → w'.cell? ⟨w.heap.size, 0, none⟩ = some (.int .i64 z1) ∧ w'.cell? ⟨w.heap.size, 1, none⟩ = some (.int .i64 z2) ∧ Below w4.heap.size w4 w') := keepHid (fun w' hb => by
      have hk := HK4.out.below hb HK4.out.lt
      exact ⟨hk.cell 0, hk.cell 1, hb⟩)
    have HA1 := keepHid (mk_alone z1 z2 A4 128 c4 (encL ⟨l, n, t, m⟩) hy4 (Nat.le_refl _))
    have HSP := keepHid (mk_split A n c bs ((HY.out.below HB4.out).more HB4.out.size) hc hcm hn8)
    have HZ := keepHid (parts_sizes true bs.length bs (Nat.le_refl _))
    have HFIN : Hid (∀ (w5 w6 w7 w8 w9 w10 wz : World) (g0 g1 g2 L0 L1 L2 : Nat), w4.heap.size ≤ L0 → SndNew w5 L0 w5.heap.size g0 [(0, encL ⟨l, n, t, m⟩)] (capZ z1 9) (capZ z2 99) false true → Below w4.heap.size w4 w5 → Below w5.heap.size w5 w7 → w7.heap.size ≤ L1 → SndNew w8 L1 w8.heap.size g1 (numb (parts true bs)) (capZ z1 9) (capZ z2 99) true true → Below w7.heap.size w7 w8 →
        Below w8.heap.size w8 w9 → w9.heap.size ≤ L2 → SndNew w10 L2 w10.heap.size g2 [(0, zeros 128)] (capZ z1 9) (capZ z2 99) false true → Below w9.heap.size w9 w10 → Below w10.heap.size w10 wz → (mayB ⟨l, n, t, m⟩ = true ∧ ∀ p : BP Fl, PartsOf p ⟨l, n, t, m⟩ bs → p.T = capZ z1 9 → p.W = capZ z2 99 → BofPost w p (.returned (.tuple #[.pointer (some ⟨wz.heap.size + 1, 0, none⟩), .nilIface])) ((wz.alloc (.cells #[.pointer (some ⟨g0, 0, none⟩), .pointer (some ⟨g1, 0, none⟩), .pointer (some ⟨g2, 0, none⟩)] 78)).alloc (.cells #[.slice (some ⟨wz.heap.size, 0, none⟩) 3 3, .nilIface] 83)))) := keepHid
      (fun w5 w6 w7 w8 w9 w10 wz g0 g1 g2 L0 L1 L2 k0 s0 b45 b57 k1 s1 b78 b89 k2 s2 b910 b10z => ⟨HOK.out, fun p hp hT hW => by
        have s4 := HB4.out.size
        have s5 := b57.size
        have s7 := b78.size
        have s8 := b89.size
        refine bsn_new (p := p) (L0 := L0) (L1 := L1) (L2 := L2) (w5 := w5) (w8 := w8) (w10 := w10) ?_ ?_ ?_ (by omega) (by omega) (by omega) (bel2 HB4.out b45) (bel2 b57 b78) (bel2 b89 b910) b10z
        · rw [hp.b0, hT, hW]; exact s0
        · rw [hp.b1, hT, hW]; exact s1
        · rw [hp.b2, hT, hW]; exact s2⟩)
    clear hy4 he4 hmay hn8
    go_upto_region 5 with fail
    go_region_held3 (fun w' => w'.cell? ⟨w.heap.size, 0, none⟩ = some (.int .i64 z1) ∧ w'.cell? ⟨w.heap.size, 1, none⟩ = some (.int .i64 z2) ∧ Below w4.heap.size w4 w') (exact HCS.out _ (by (repeat (first | (with_reducible exact Below.refl _ _) | (with_reducible exact HB45.out) | (with_reducible exact HB46.out) | (with_reducible exact HB47.out) | (with_reducible exact HB48.out) | (with_reducible exact HB49.out) | (with_reducible exact HB410.out) | (with_reducible refine Below.drew ?_) | (with_reducible refine belA ?_ _)))))
      (first
        | (go_at_call 40; (with_reducible refine (HA1.out _ (by (repeat (first | (with_reducible exact Below.refl _ _) | (with_reducible refine Below.drew ?_))))).mono ?_); rintro e w5 ⟨g0, L0, rfl, k0, s0, b0⟩; have hb45 := bel2 (a := w4) (by (repeat (first | (with_reducible exact Below.refl _ _) | (with_reducible refine Below.drew ?_)))) b0; have HB45 := keepHid hb45; have HS0 := keepHid s0; have HK0 := keepHid k0; have HSP5 := keepHid (fun w' hb => HSP.out w' (bel2 hb45 hb)); clear s0 b0 hb45)
        | (go_at_call 22; (with_reducible refine (HSP5.out _ (by (repeat (first | (with_reducible exact Below.refl _ _) | (with_reducible refine Below.drew ?_))))).mono ?_); rintro e w6 ⟨P, k, cap, rfl, hk, hk65, hr, b6⟩; have HB56 := keepHid (bel2 (a := w5) (by (repeat (first | (with_reducible exact Below.refl _ _) | (with_reducible refine Below.drew ?_)))) b6); have HB46 := keepHid (bel2 HB45.out HB56.out); have HNB := keepHid (mk_number P k cap (parts true bs) hr hk hk65 HZ.out); clear hr b6)
        | (go_at_call 21; (with_reducible refine (HNB.out _ (by (repeat (first | (with_reducible exact Below.refl _ _) | (with_reducible refine Below.drew ?_))))).mono ?_); rintro e w7 ⟨gn, rfl, hbk, b7⟩; have HB57 := keepHid (bel2 HB56.out (bel2 (a := w6) (by (repeat (first | (with_reducible exact Below.refl _ _) | (with_reducible refine Below.drew ?_)))) b7)); have HB47 := keepHid (bel2 HB45.out HB57.out); have HOF := keepHid (mk_of z1 z2 gn k (numb (parts true bs)) hbk hk65 numb_sizes); clear hbk b7)
        | (go_at_call 41; (with_reducible refine (HOF.out _ (by (repeat (first | (with_reducible exact Below.refl _ _) | (with_reducible refine Below.drew ?_))))).mono ?_); rintro e w8 ⟨g1, L1, rfl, k1, s1, b8⟩; have HB78 := keepHid (bel2 (a := w7) (by (repeat (first | (with_reducible exact Below.refl _ _) | (with_reducible refine Below.drew ?_)))) b8); have HB48 := keepHid (bel2 HB47.out HB78.out); have HS1 := keepHid s1; have HK1 := keepHid k1; clear s1 b8)
        | (go_at_call 42; (with_reducible refine (mk_empty (w := w8) _ (by (repeat (first | (with_reducible exact Below.refl _ _) | (with_reducible refine Below.drew ?_))))).mono ?_); rintro e w9 ⟨ge, rfl, hye, b9⟩; have HB89 := keepHid (bel2 (a := w8) (by (repeat (first | (with_reducible exact Below.refl _ _) | (with_reducible refine Below.drew ?_)))) b9); have HB49 := keepHid (bel2 HB48.out HB89.out); have HA2 := keepHid (mk_alone z1 z2 (some ⟨ge, 0, none⟩) 128 128 (zeros 128) hye (Nat.le_refl _)); clear hye b9)
        | (go_at_call 40; (with_reducible refine (HA2.out _ (by (repeat (first | (with_reducible exact Below.refl _ _) | (with_reducible refine Below.drew ?_))))).mono ?_); rintro e w10 ⟨g2, L2, rfl, k2, s2, b10⟩; have HB910 := keepHid (bel2 (a := w9) (by (repeat (first | (with_reducible exact Below.refl _ _) | (with_reducible refine Below.drew ?_)))) b10); have HB410 := keepHid (bel2 HB49.out HB910.out); have HS2 := keepHid s2; have HK2 := keepHid k2; clear s2 b10))
    all_goals
      go_wp2
      go_ret2
      exact .inr (HFIN.out w5 w6 w7 w8 w9 w10 _ g0 g1 g2 L0 L1 L2 HK0.out HS0.out HB45.out HB57.out HK1.out HS1.out HB78.out HB89.out HK2.out HS2.out HB910.out (by (repeat (first | (with_reducible exact Below.refl _ _) | (with_reducible refine Below.drew ?_)))))
end Go.Proofs.YtgdjopiejmdbnaaGreatDoor
