/-
  What a talk without noise comes to; what the law's own 'Bytes' answers.
-/
import Derived.Test.YtgdjopiejmdbnaaGreatDoorBatchTalk
import Derived.Test.YtgdjopiejmdbnaaGreatDoorBatchOf
import Derived.Test.YtgdjopiejmdbnaaGreatDoorHeaderNm
namespace Go.Proofs.YtgdjopiejmdbnaaGreatDoor
open Go.RowKit
set_option linter.unusedVariables false

theorem numb_map (rows : List (List UInt8)) : (numb rows).map (·.2) = rows := by
  apply List.ext_getElem?
  intro j
  rw [List.getElem?_map]
  unfold numb
  rw [List.getElem?_mapIdx]
  cases rows[j]? <;> rfl
/-- A transfer's parts are what the plain talk asks of them. -/
theorem bok_of {p : BP Fl} {f : Fl} {bs : List UInt8} (hr : Rdr p) (hp : PartsOf p f bs) (hf : May f) (hs : f.size = (bs.length : Int)) (hT : 1 ≤ p.T) (hW : 2 ≤ p.W) : BOk p (encL f) (zeros 128) f := by
  have hs8 := hf.size
  refine ⟨hT, hW, hp.b0, hp.b2, .inl (encL_len hf), .inl (zeros_len 128), fun j b hj => ?_, ?_, hr.yes f hf, (hr.en _).trans ends_zeros, ?_⟩
  · rw [hp.b1] at hj
    obtain ⟨h1, h2⟩ := numb_at hj
    exact ⟨h2, parts_sizes true bs.length bs (Nat.le_refl _) b.2 (List.mem_of_getElem? h1)⟩
  · rw [hp.b1, numb_len]
    have := parts_count true bs.length bs (Nat.le_refl _)
    omega
  · rw [hp.b1, numb_map, hr.sz]
    obtain ⟨r, _, e⟩ := parts_flat true bs.length bs (Nat.le_refl _)
    rw [e, List.length_append]
    omega
theorem end_data {p : BP Fl} {f : Fl} {bs : List UInt8} (hr : Rdr p) (hp : PartsOf p f bs) (hs : f.size = (bs.length : Int)) : ((p.b1.map (·.2)).flatten).take (p.sz f) = bs := by
  rw [hp.b1, numb_map, hr.sz]
  obtain ⟨r, _, e⟩ := parts_flat true bs.length bs (Nat.le_refl _)
  rw [e, hs, show ((bs.length : Int)).toNat = bs.length from rfl, List.take_left']
  rfl
theorem parts_few {p : BP Fl} {f : Fl} {bs : List UInt8} (hp : PartsOf p f bs) {N : Nat} (hN : bs.length + 128 ≤ (N - 3) * 128) (h3 : 4 ≤ N) : p.b1.length + 4 ≤ N := by
  rw [hp.b1, numb_len]
  have := parts_count true bs.length bs (Nat.le_refl _)
  omega

/-- A file has been sent and taken. -/
structure Ended (w0 : World) (f : Fl) (bs : List UInt8) (G1 G2 : Nat) (w : World) : Prop where
  ex : ∃ (Lb Hb B : Nat) (p : BP Fl) (z1 z2 : Int) (O : Nat → Prop) (s : Bs) (r : Br Fl), Bsn w Lb Hb G1 p s ∧ s.ov = true ∧ s.er = 0 ∧ Brv w B G2 O p z1 z2 r ∧ r.ov = true ∧ r.er = 0 ∧ r.fi = some f ∧ r.da = bs ∧ w0.heap.size ≤ G1 ∧ w0.heap.size ≤ B
theorem Ended.below {w0 w w' : World} {f : Fl} {bs : List UInt8} {G1 G2 : Nat} (h : Ended w0 f bs G1 G2 w) (hb : Below w.heap.size w w') : Ended w0 f bs G1 G2 w' := by
  obtain ⟨Lb, Hb, B, p, z1, z2, O, s, r, h1, h2, h3, h4, h5⟩ := h.ex
  exact ⟨Lb, Hb, B, p, z1, z2, O, s, r, h1.below hb, h2, h3, h4.below hb, h5⟩
/-- What was there before both may turn. -/
theorem Ended.turns {S : Nat → Prop} {w0 w w' : World} {f : Fl} {bs : List UInt8} {G1 G2 : Nat} (h : Ended w0 f bs G1 G2 w) (ht : Turn S w w') (hS : ∀ i, S i → i < w0.heap.size) : Ended w0 f bs G1 G2 w' := by
  obtain ⟨Lb, Hb, B, p, z1, z2, O, s, r, h1, h2, h3, h4, h5, h6, h7, h8, h9, h10⟩ := h.ex
  refine ⟨Lb, Hb, B, p, z1, z2, O, s, r, ?_, h2, h3, h4.turns ht (fun i hi hs => by have := hS i hs; have := h4.ge i hi; omega), h5, h6, h7, h8, h9, h10⟩
  obtain ⟨⟨v, m1, m2, m3⟩, a1, a2, a3⟩ := h1
  exact ⟨⟨v, ht.blk m1 (fun hs => by have := hS _ hs; omega), m2, fun hh => by rw [h2] at hh; cases hh⟩, a1, a2, Nat.le_trans a3 ht.size⟩
theorem Ended.sdone {w0 w : World} {f : Fl} {bs : List UInt8} {G1 G2 : Nat} (h : Ended w0 f bs G1 G2 w) :
    Calls Tryz.prog 15 #[.pointer (some ⟨G1, 0, none⟩)] w fun e w' => e = .returned (.tuple #[.bool true, .nilIface]) ∧ w' = w.drew ∧ Ended w0 f bs G1 G2 w' := by
  have hd := h.below (Below.drew (Below.refl _ _))
  obtain ⟨Lb, Hb, B, p, z1, z2, O, s, r, h1, h2, h3, _⟩ := h.ex
  refine (bdone_any h1).mono ?_
  rintro e w' ⟨rfl, rfl⟩
  rw [h2, h3]
  exact ⟨rfl, rfl, hd⟩
theorem Ended.rdone {w0 w : World} {f : Fl} {bs : List UInt8} {G1 G2 : Nat} (h : Ended w0 f bs G1 G2 w) :
    Calls Tryz.prog 16 #[.pointer (some ⟨G2, 0, none⟩)] w fun e w' => e = .returned (.tuple #[.bool true, .nilIface]) ∧ w' = w.drew ∧ Ended w0 f bs G1 G2 w' := by
  have hd := h.below (Below.drew (Below.refl _ _))
  obtain ⟨Lb, Hb, B, p, z1, z2, O, s, r, _, _, _, h1, h2, h3, _⟩ := h.ex
  refine (brdone_any h1).mono ?_
  rintro e w' ⟨rfl, rfl⟩
  rw [h2, h3]
  exact ⟨rfl, rfl, hd⟩
theorem Ended.file {w0 w : World} {f : Fl} {bs : List UInt8} {G1 G2 : Nat} (h : Ended w0 f bs G1 G2 w) :
    Calls Tryz.prog 17 #[.pointer (some ⟨G2, 0, none⟩)] w fun e w' => e = .returned (flV f) ∧ Below w.heap.size w w' := by
  obtain ⟨Lb, Hb, B, p, z1, z2, O, s, r, _, _, _, h1, _, _, h2, _⟩ := h.ex
  refine (brfile_any h1).mono ?_
  rintro e w' ⟨rfl, hb⟩
  rw [h2]
  exact ⟨rfl, hb⟩
theorem Ended.data {w0 w : World} {f : Fl} {bs : List UInt8} {G1 G2 : Nat} (h : Ended w0 f bs G1 G2 w) {n : Nat} (hn : bs.length = n) :
    Calls Tryz.prog 18 #[.pointer (some ⟨G2, 0, none⟩)] w fun e w' => ∃ A c, e = .returned (.slice A n c) ∧ Bys w' w'.heap.size A n bs ∧ n ≤ c ∧ c ≤ 9223372036854775807 ∧ Below w.heap.size w w' := by
  subst hn
  obtain ⟨Lb, Hb, B, p, z1, z2, O, s, r, _, _, _, h1, _, _, _, rfl, _⟩ := h.ex
  refine (brdata_any h1).mono ?_
  rintro e w' ⟨A, c, rfl, ho, h1, h2, hb⟩
  exact ⟨A, c, rfl, ho.bys (by omega), h1, h2, hb⟩

/-- A sender and a receiver that a law made. -/
structure Two (w0 : World) (f : Fl) (bs : List UInt8) (z1 z2 : Int) (G1 G2 : Nat) (w : World) : Prop where
  ex : ∃ (Lb Hb B : Nat) (p : BP Fl) (O : Nat → Prop), TG w0 w Lb Hb B ∧ Rdr p ∧ PartsOf p f bs ∧ 1 ≤ p.T ∧ p.T ≤ 9 ∧ 1 ≤ p.W ∧ p.W ≤ 99 ∧ Bsn w Lb Hb G1 p (newBS p) ∧ Brv w B G2 O p z1 z2 (newBR p) ∧ capZ z2 99 = p.W
  std : Std w0 w
  may : May f
  size : f.size = (bs.length : Int)
/-- The sender that was made: what is wanted of it until the receiver is. -/
structure Snt (w0 : World) (f : Fl) (bs : List UInt8) (z1 z2 : Int) (G1 : Nat) (w : World) : Prop where
  ex : ∃ (Lb : Nat) (p : BP Fl), w0.heap.size ≤ Lb ∧ Rdr p ∧ PartsOf p f bs ∧ p.T = capZ z1 9 ∧ p.W = capZ z2 99 ∧ Bsn w Lb w.heap.size G1 p (newBS p)
  std : Std w0 w
  may : May f
  size : f.size = (bs.length : Int)
theorem cap_T (z1 : Int) : 1 ≤ capZ z1 9 ∧ capZ z1 9 ≤ 9 := (capZ_is z1 9 (by omega)).2
theorem cap_W (z2 : Int) : 1 ≤ capZ z2 99 ∧ capZ z2 99 ≤ 99 := (capZ_is z2 99 (by omega)).2
/-- 'Of', for a file that may be told. -/
theorem of_law (z1 z2 : Int) (f : Fl) (A : Option Addr) (n c : Nat) (bs : List UInt8) {w0 w : World} (hS : Std w0 w) (hy : Bys w w.heap.size A n bs) (hc : n ≤ c) (hcm : c ≤ 9223372036854775807) (hf : May (sizedF f n)) :
    Calls Tryz.prog 12 #[.agg #[.int .i64 z1, .int .i64 z2], flV f, .slice A n c] w fun e w' => ∃ G, e = .returned (.tuple #[.pointer (some ⟨G, 0, none⟩), .nilIface]) ∧ Snt w0 (sizedF f n) bs z1 z2 G w' ∧ Below w.heap.size w w' := by
  have hfn : f.name.length ≤ 9223372036854775807 := by have := (nameB_len hf.name).2; unfold sizedF at this; simp only at this; omega
  refine (bof_any z1 z2 f hfn A n c bs w hS.t hy hc hcm).mono ?_
  rintro e w' (⟨h1, _⟩ | ⟨_, h2⟩)
  · rw [(mayB_iff _).2 hf] at h1; cases h1
  · obtain ⟨rd, hr1, hr2⟩ := rd_ex
    obtain ⟨p, hp⟩ : ∃ p : BP Fl, p = ⟨capZ z1 9, capZ z2 99, [(0, encL (sizedF f n))], numb (parts true bs), [(0, zeros 128)], rd, fun g => g.size.toNat, endsB⟩ := ⟨_, rfl⟩
    have hpo : PartsOf p (sizedF f n) bs := by rw [hp]; exact ⟨rfl, rfl, rfl⟩
    have hrd : Rdr p := by rw [hp]; exact ⟨hr1, hr2, fun _ => rfl, fun _ => rfl⟩
    obtain ⟨G, e1, e2, e3⟩ := h2 p hpo (by rw [hp]) (by rw [hp])
    refine ⟨G, e1, ⟨⟨w.heap.size, p, hS.bel.size, hrd, hpo, by rw [hp], by rw [hp], e2⟩, hS.below e3, hf, ?_⟩, e3⟩
    rw [hy.len]
    rfl
/-- 'Take' beside it. -/
theorem take_law {z1 z2 : Int} {w0 w w' : World} {f : Fl} {bs : List UInt8} {G1 : Nat} (h : Snt w0 f bs z1 z2 G1 w) (hb : Below w.heap.size w w') :
    Calls Tryz.prog 13 #[.agg #[.int .i64 z1, .int .i64 z2]] w' fun e w'' => ∃ G2, e = .returned (.pointer (some ⟨G2, 0, none⟩)) ∧ Two w0 f bs z1 z2 G1 G2 w'' ∧ Below w'.heap.size w' w'' := by
  obtain ⟨⟨Lb, p, h1, h2, h3, h4, h5, h6⟩, hS, hm, hz⟩ := h
  refine (brtake_any p z1 z2 h4.symm h5.symm).mono ?_
  rintro e w'' ⟨G2, O, rfl, hr, hb2⟩
  have hbb : Below w.heap.size w w'' := hb.trans (hb2.mono hb.size)
  have c1 := cap_T z1
  have c2 := cap_W z2
  refine ⟨G2, rfl, ⟨⟨Lb, w.heap.size, w'.heap.size, p, O, ⟨h1, hb.size, hbb.size, ?_⟩, h2, h3, by omega, by omega, by omega, by omega, h6.below hbb, hr, h5.symm⟩, hS.below hbb, hm, hz⟩, hb2⟩
  have := h6.lo
  have := h6.hi
  omega
/-- The talk. -/
theorem talk_law {w0 w : World} {f : Fl} {bs : List UInt8} {z1 z2 : Int} {G1 G2 : Nat} (h : Two w0 f bs z1 z2 G1 G2 w) (N : Nat) (hN : bs.length + 128 ≤ (N - 3) * 128) (h3 : 4 ≤ N) (hM : N ≤ 3000) (hW : 2 ≤ z2) :
    Calls Tryz.prog 14 #[.pointer (some ⟨G1, 0, none⟩), .pointer (some ⟨G2, 0, none⟩), .int .i64 (N : Int)] w fun e w' => e = .returned (.tuple #[]) ∧ Ended w0 f bs G1 G2 w' ∧ Below w0.heap.size w w' := by
  obtain ⟨⟨Lb, Hb, B, p, O, g, hr, hp, t1, t9, w1, w99, hs, hrv, hcw⟩, hS, hm, hz⟩ := h
  refine (talk_any hr g hs hrv (rb_new _ _ _ _ _) hS N hM).mono ?_
  rintro e w' ⟨rfl, O', k1, k2, k3, k4⟩
  have hok := bok_of hr hp hm hz t1 (by rw [← hcw]; unfold capZ; omega)
  rw [run_batch hok (parts_few hp hN h3)] at k1 k2
  have hlo := hs.lo
  have g1 := g.l
  have g2 := g.lh
  have g3 := g.h
  exact ⟨rfl, ⟨Lb, Hb, B, p, z1, z2, O', _, _, k1, rfl, rfl, k2, rfl, rfl, rfl, end_data hr hp hz, by omega, by omega⟩, k4.mono g.l⟩

/-! ### 'Bytes' -/
set_option maxRecDepth 100000 in
set_option maxHeartbeats 4000000 in
theorem bytes13_any (A : Option Addr) (n c B : Nat) (b : List UInt8) (x : Nat) (hx16 : (x : Int) ≤ 65535) (w : World) (h : Bys w B A n b) (hB : B ≤ w.heap.size) :
    Calls Tryz.prog 11 #[.slice A n c, .int .u16 (x : Int)] w fun e w' => ∃ L bs, e = .returned (.slice (some ⟨w.heap.size, 0, none⟩) L L) ∧ L < 2500 ∧ Bys w' w'.heap.size (some ⟨w.heap.size, 0, none⟩) L bs ∧ Below w.heap.size w w' := by
  obtain ⟨N, hN⟩ : ∃ N, x % 2500 = N := ⟨_, rfl⟩
  have hN2 : N < 2500 := by omega
  have hxN : (x : Int).tmod 2500 = (N : Int) := by rw [Int.tmod_eq_emod_of_nonneg (by omega)]; omega
  have hxN' : (x : Int) % 2500 = (N : Int) := by omega
  have hmk := run_mkbs (N : Int) (N : Int) N N rfl rfl (Nat.le_refl _) (by omega) w
  obtain ⟨w1, hw1⟩ : ∃ w1, w.alloc (.cells (zrow N) 5) = w1 := ⟨_, rfl⟩
  rw [hw1] at hmk
  have hk1 : Blk w1 w.heap.size 5 (byteVals (zeros N)) := by rw [← hw1]; exact Blk.new w _ _
  have hb1 : Below w.heap.size w w1 := by rw [← hw1]; exact (Below.refl _ _).alloc (Nat.le_refl _) _
  have HK1 := keepHid hk1
  have HB1 := keepHid hb1
  have H := keepHid (h.more hB)
  have hfin : ∀ (xs : List UInt8) w', xs.length = N → Blk w' w.heap.size 5 (byteVals xs) → Below w.heap.size w w' → ∃ L bs, Ending.returned (Value.slice (some ⟨w.heap.size, 0, none⟩) N N) = .returned (.slice (some ⟨w.heap.size, 0, none⟩) L L) ∧ L < 2500 ∧ Bys w' w'.heap.size (some ⟨w.heap.size, 0, none⟩) L bs ∧ Below w.heap.size w w' := fun xs w' hl hk hb =>
    ⟨N, xs, rfl, hN2, (own_blk hk (Nat.le_refl _) hl (by omega)).bys (by omega), hb⟩
  have HFIN := keepHid hfin
  have hnm := h.max
  have hNi : (N : Int) ≤ 2500 := by omega
  clear hk1 hb1 h hfin hw1 hN
  go_enter Tryz.func11, Tryz.ntmps11
  go_wp2
  go_loopw [13] (fun i wr => ∃ (k : Nat) (xs : List UInt8), k ≤ N ∧ i = .int .i64 k ∧ xs.length = N ∧ Blk wr w.heap.size 5 (byteVals xs) ∧ Below w.heap.size w wr) (fun i _ => N - (intOf i).toNat)
  case atStart => exact ⟨0, zeros N, Nat.zero_le _, rfl, zeros_len N, HK1.out, HB1.out⟩
  case round =>
    obtain ⟨k, xs, hk, rfl, hxs, hbk, hbel⟩ := hrel
    have HK := keepHid hbk
    have HB := keepHid hbel
    have HXS := keepHid hxs
    by_cases hlt : k < N
    · rcases Nat.eq_zero_or_pos n with h0 | h0
      · subst h0
        clear hbk hbel hxs
        go_wp2
        go_roundw
        case rel => exact ⟨k + 1, xs, by omega, by go_num, HXS.out, HK.out, HB.out⟩
        case measure => simp [intOf]; omega
      · obtain ⟨j, hj⟩ : ∃ j, k % n = j := ⟨_, rfl⟩
        obtain ⟨q, hq⟩ : ∃ q, k / 97 = q := ⟨_, rfl⟩
        have hjn : j < n := by rw [← hj]; exact Nat.mod_lt _ h0
        obtain ⟨ad, x, rfl, _, hx, hc⟩ := (H.out.below hbel).at_ hjn
        obtain ⟨y, hy1, hy2⟩ := byteVals_at (cs := xs) (i := k) (by omega)
        have hcell := (hbk.cell k).trans hy2
        have hfz := hbk.frozen k
        have hmod : (k : Int) % (n : Int) = (j : Int) := by rw [← hj]; rfl
        have hdiv : (k : Int) / 97 = (q : Int) := by rw [← hq]; rfl
        have hqk : q ≤ 25 := by rw [← hq]; omega
        have hxl := u8lt x
        have hn0 : ((n : Int) == 0) = false := by simp; omega
        clear hy1 hy2 hx hbk hbel hj hq hxs
        go_wp2
        go_roundw
        case rel =>
          refine ⟨k + 1, xs.set k (x + UInt8.ofNat q), by omega, by go_num, by rw [List.length_set]; exact HXS.out, ?_, ?_⟩
          · rw [← byteVals_set]
            have e : ((x + UInt8.ofNat q).toNat : Int) = ((x.toNat : Int) + (q : Int)) % 256 := by
              rw [UInt8.toNat_add, UInt8.toNat_ofNat']
              omega
            rw [e]
            exact HK.out.put k _
          · exact HB.out.setCell (Nat.le_refl _) _
        case measure => simp [intOf]; omega
    · obtain rfl : k = N := by omega
      clear hbk hbel
      go_wp2
      go_ret
      exact HFIN.out xs wr HXS.out HK.out HB.out


theorem str_xyz : strB [120, 121, 122] = ⟨#[120, 121, 122]⟩ := rfl
set_option maxRecDepth 100000 in
set_option maxHeartbeats 4000000 in
theorem awake13_any (w : World) (hT : Tabs w) (hE : Errs w) :
    Calls Tryz.prog 9 #[] w fun e w' => e = .returned (.bool true) ∧ Below w.heap.size w w' := by
  obtain ⟨w1, hw1⟩ : ∃ w1, w.alloc (.cells #[.int .i64 3, .int .i64 5] 23) = w1 := ⟨_, rfl⟩
  obtain ⟨w2, hw2⟩ : ∃ w2, w1.alloc (.cells #[.int .u8 120, .int .u8 121, .int .u8 122] 5 (3, 4)) = w2 := ⟨_, rfl⟩
  have hcv : (convert 24 24 (.slice (some ⟨w1.heap.size, 0, none⟩) 3 3)).run Tryz.prog (w1.alloc (.cells #[.int .u8 120, .int .u8 121, .int .u8 122] 5)) = .ok (.slice (some ⟨w1.heap.size, 0, none⟩) 3 3) w2 := by
    rw [← hw2]
    exact Lib.run_convert_bytes_const (P := Tryz.prog) w1 24 5 #[.int .u8 120, .int .u8 121, .int .u8 122] 3 3 Tryz.underlying24 Tryz.underlying5
  have hb1 : Below w.heap.size w w1 := by rw [← hw1]; exact (Below.refl _ _).alloc (Nat.le_refl _) _
  have hb2 : Below w.heap.size w w2 := by rw [← hw2]; exact hb1.alloc hb1.size _
  have hk1 : Blk w1 w.heap.size 23 #[.int .i64 3, .int .i64 5] := by rw [← hw1]; exact Blk.new w _ _
  have hk2 : Blk w2 w.heap.size 23 #[.int .i64 3, .int .i64 5] := by rw [← hw2]; exact hk1.alloc _
  have hy2 : Bys w2 w2.heap.size (some ⟨w1.heap.size, 0, none⟩) 3 [120, 121, 122] := by rw [← hw2]; exact (bys_newm w1 _ [120, 121, 122] 3 rfl (by decide) _ rfl _ _ rfl).more (by simp)
  have hS2 : Std w w2 := (Std.new hT hE).below hb2
  have hmay : May (sizedF ⟨[97], 0, 0, 0⟩ 3) := (mayB_iff _).1 (by decide)
  obtain ⟨fx, hfx⟩ : ∃ fx, sizedF ⟨[97], 0, 0, 0⟩ 3 = fx := ⟨_, rfl⟩
  have HOF : Hid (Calls Tryz.prog 12 #[.agg #[.int .i64 3, .int .i64 5], .agg #[.string ⟨#[97]⟩, .int .i64 0, .int .i64 0, .int .i64 0], .slice (some ⟨w1.heap.size, 0, none⟩) 3 3] w2 fun e w' => ∃ G, e = .returned (.tuple #[.pointer (some ⟨G, 0, none⟩), .nilIface]) ∧ Snt w fx [120, 121, 122] 3 5 G w' ∧ Below w2.heap.size w2 w') := keepHid (by
    rw [← hfx]
    exact of_law 3 5 ⟨[97], 0, 0, 0⟩ (some ⟨w1.heap.size, 0, none⟩) 3 3 [120, 121, 122] hS2 hy2 (Nat.le_refl _) (by omega) hmay)
  have HTK : Hid (∀ w3 G, Snt w fx [120, 121, 122] 3 5 G w3 → Calls Tryz.prog 13 #[.agg #[.int .i64 3, .int .i64 5]] w3 fun e w'' => ∃ G2, e = .returned (.pointer (some ⟨G2, 0, none⟩)) ∧ Two w fx [120, 121, 122] 3 5 G G2 w'' ∧ Below w3.heap.size w3 w'') := keepHid (fun w3 G h => take_law h (Below.refl _ _))
  have HTL : Hid (∀ w4 G1 G2, Two w fx [120, 121, 122] 3 5 G1 G2 w4 → Calls Tryz.prog 14 #[.pointer (some ⟨G1, 0, none⟩), .pointer (some ⟨G2, 0, none⟩), .int .i64 40] w4 fun e w' => e = .returned (.tuple #[]) ∧ Ended w fx [120, 121, 122] G1 G2 w' ∧ Below w.heap.size w4 w') := keepHid (fun w4 G1 G2 h => talk_law h 40 (by decide) (by decide) (by decide) (by decide))
  have HFL : Hid (∀ w5 G1 G2, Ended w fx [120, 121, 122] G1 G2 w5 → Calls Tryz.prog 17 #[.pointer (some ⟨G2, 0, none⟩)] w5 fun e w' => e = .returned (.agg #[.string ⟨#[97]⟩, .int .i64 3, .int .i64 0, .int .i64 0]) ∧ Below w5.heap.size w5 w') := keepHid (fun w5 G1 G2 h => by
    have := h.file
    rw [← hfx] at this
    exact this)
  have heq : ∀ W : World, (binOp .eql 30 (.agg #[.string ⟨#[97]⟩, .int .i64 3, .int .i64 0, .int .i64 0]) (.agg #[.string ⟨#[97]⟩, .int .i64 3, .int .i64 0, .int .i64 0])).run Tryz.prog W = .ok (.bool true) W := fun W => by
    have := eq_file ⟨[97], 3, 0, 0⟩ ⟨[97], 3, 0, 0⟩ W
    rw [decide_eq_true rfl] at this
    exact this
  have HK2 := keepHid hk2
  have HB2 := keepHid hb2
  have a0 : w1.cell? ⟨w.heap.size, 0, none⟩ = some (.int .i64 3) := hk1.cell 0
  have a1 : w1.cell? ⟨w.heap.size, 1, none⟩ = some (.int .i64 5) := hk1.cell 1
  clear hT hE hb1 hb2 hk1 hk2 hy2 hS2 hmay hfx hw2
  go_enter Tryz.func9, Tryz.ntmps9
  go_wp2_with fail
  (with_reducible refine HOF.out.mono ?_)
  rintro e w3 ⟨G1, rfl, hs3, hb3⟩
  have hk3 := HK2.out.below hb3 HK2.out.lt
  have b0 : w3.cell? ⟨w.heap.size, 0, none⟩ = some (.int .i64 3) := hk3.cell 0
  have b1 : w3.cell? ⟨w.heap.size, 1, none⟩ = some (.int .i64 5) := hk3.cell 1
  have HTK3 := keepHid (HTK.out w3 G1 hs3)
  have HB3 := keepHid (HB2.out.trans (hb3.mono HB2.out.size))
  clear hs3 hb3 hk3 a0 a1 hcv hw1
  go_wp2_with fail
  (with_reducible refine HTK3.out.mono ?_)
  rintro e w4 ⟨G2, rfl, ht4, hb4⟩
  have HTL4 := keepHid (HTL.out w4 G1 G2 ht4)
  have HB4 := keepHid (HB3.out.trans (hb4.mono HB3.out.size))
  clear ht4 hb4 b0 b1
  go_wp2_with fail
  (with_reducible refine HTL4.out.mono ?_)
  rintro e w5 ⟨rfl, he5, hb5⟩
  have HRD := keepHid he5.rdone
  have HB5 := keepHid (HB4.out.trans hb5)
  clear he5 hb5
  go_wp2_with fail
  (with_reducible refine HRD.out.mono ?_)
  rintro e w6 ⟨rfl, hw6, he6⟩
  have HSD := keepHid he6.sdone
  have HB6 : Hid (Below w.heap.size w w6) := keepHid (by rw [hw6]; exact HB5.out.drew)
  clear he6 hw6
  go_wp2_with fail
  (with_reducible refine HSD.out.mono ?_)
  rintro e w7 ⟨rfl, hw7, he7⟩
  have HDT := keepHid (he7.data (n := 3) rfl)
  have HE7 := keepHid he7
  have HB7 : Hid (Below w.heap.size w w7) := keepHid (by rw [hw7]; exact HB6.out.drew)
  clear he7 hw7
  go_wp2_with fail
  (with_reducible refine HDT.out.mono ?_)
  rintro e w8 ⟨A8, c8, rfl, hy8, hc81, hc82, hb8⟩
  have cv8 := run_str (P := Tryz.prog) (c := c8) 24 5 9 Tryz.underlying24 Tryz.underlying5 Tryz.underlying9 hy8
  rw [str_xyz] at cv8
  have HFL8 := keepHid (HFL.out w8 G1 G2 (HE7.out.below hb8))
  have HB8 := keepHid (HB7.out.trans (hb8.mono HB7.out.size))
  clear hy8 hb8
  go_wp2_with fail
  (with_reducible refine HFL8.out.mono ?_)
  rintro e w9 ⟨rfl, hb9⟩
  have HB9 := keepHid (HB8.out.trans (hb9.mono HB8.out.size))
  clear hb9
  go_wp2
  go_ret
  exact ⟨rfl, HB9.out⟩


theorem wait_is (z : Int) (lo : Int) : ∃ t v u z1 : Int, z.tmod 5 = t ∧ t + 5 = v ∧ v.tmod 5 = u ∧ lo + u = z1 ∧ lo ≤ z1 ∧ z1 ≤ lo + 4 ∧ -4 ≤ t ∧ t ≤ 4 ∧ 1 ≤ v ∧ v ≤ 9 ∧ 0 ≤ u ∧ u ≤ 4 := by
  refine ⟨_, _, _, _, rfl, rfl, rfl, rfl, ?_⟩
  have h1 : z.tmod 5 = z % 5 ∨ (z.tmod 5 = z % 5 - 5 ∧ z % 5 ≠ 0) := by
    rw [Int.tmod_eq_emod]
    split
    · left; omega
    · rename_i h
      exact .inr ⟨rfl, fun e => h (.inr (Int.dvd_of_emod_eq_zero e))⟩
  have h2 : (z.tmod 5 + 5).tmod 5 = (z.tmod 5 + 5) % 5 := by rw [Int.tmod_eq_emod_of_nonneg (by omega)]
  rw [h2]
  generalize z.tmod 5 = t at *
  clear h2
  refine ⟨?_, ?_, ?_, ?_, ?_, ?_, ?_, ?_⟩ <;> omega
/-- A name that numbers make, in any later world. -/
theorem nm_later {w : World} (A : Option Addr) (n c : Nat) (ns : List UInt8) (h : Bys w w.heap.size A n ns) (w' : World) (hb : Below w.heap.size w w') :
    Calls Tryz.prog 10 #[.slice A n c] w' fun e w'' => e = .returned (.string (strB (nmL ns))) ∧ w' = w'' := nm_any A n c w.heap.size ns w' (h.below hb)
/-- The talk, its ticks written as the law writes them. -/
theorem talk_lit {w0 w : World} {f : Fl} {bs : List UInt8} {z1 z2 : Int} {G1 G2 : Nat} (h : Two w0 f bs z1 z2 G1 G2 w) (N : Nat) (M : Int) (hNM : M = (N : Int)) (hN : bs.length + 128 ≤ (N - 3) * 128) (h3 : 4 ≤ N) (hM : N ≤ 3000) (hW : 2 ≤ z2) :
    Calls Tryz.prog 14 #[.pointer (some ⟨G1, 0, none⟩), .pointer (some ⟨G2, 0, none⟩), .int .i64 M] w fun e w' => e = .returned (.tuple #[]) ∧ Ended w0 f bs G1 G2 w' ∧ Below w0.heap.size w w' := by
  subst hNM
  exact talk_law h N hN h3 hM hW
end Go.Proofs.YtgdjopiejmdbnaaGreatDoor
