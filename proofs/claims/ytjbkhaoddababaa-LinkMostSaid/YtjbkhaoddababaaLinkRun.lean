/-
  A sender and a receiver talk: link.Run.
-/
import Derived.Test.YtjbkhaoddababaaLinkMid
namespace Go.Proofs.Ytjbkhaoddababaa
open Go.RowKit
set_option linter.unusedVariables false

set_option maxRecDepth 100000 in
set_option maxHeartbeats 8000000 in
theorem run_any (p : LP) {w0 : World} {Hb B G1 G2 : Nat} {O0 : Nat → Prop} {s : Sd} {r : Rd} (hg : G0 w0 Hb B G1 O0) (hs : SndH w0 Hb G1 p.bl p.T p.W true s) (hr : Rcv w0 B G2 O0 p.crc true p.V r) (h0 : Rb 0 0 0 r) (Az : Option Addr) (m cm : Nat) (ns : List Nz) (hz : NzS w0 Az m ns) (hza : Apart (fun i => i = G1 ∨ O0 i) Az m) (M : Nat) (hM : M ≤ 3000) :
    Calls Try.prog 10 #[.pointer (some ⟨G1, 0, none⟩), .pointer (some ⟨G2, 0, none⟩), .slice Az m cm, .int .i64 (M : Int)] w0 (RunPost p Hb B G1 G2 O0 (runX p ns M ⟨s, r, [], 0⟩ (false, 0, 0)) w0) := by
  obtain ⟨wb, hwb⟩ : ∃ wb, (w0.alloc (.cells #[.bool false, .nilIface, .nilIface, .slice none 0 0, .int .i64 0, .int .i64 0] 32)).alloc (.cells #[.bool false, .nilIface, .nilIface, .slice none 0 0, .int .i64 0, .int .i64 0] 32) = wb := ⟨_, rfl⟩
  have HMB : Hid (Mid p w0 Hb B G1 G2 O0 s r (resC (false, 0, 0) (.slice none 0 0) 0 0) O0 wb) := keepHid (by
    have hb : Below w0.heap.size w0 wb := by rw [← hwb]; exact ((Below.refl _ _).alloc (Nat.le_refl _) _).alloc (by simp) _
    refine ⟨hg, hs.below hb, hr.below hb, ?_, ?_, Turn.of_below hb, by rw [← hwb]; simp, fun i hi => .inl hi⟩
    · rw [← hwb]
      have h1 := Blk.new (w0.alloc (.cells #[.bool false, .nilIface, .nilIface, .slice none 0 0, .int .i64 0, .int .i64 0] 32)) 32 #[.bool false, .nilIface, .nilIface, .slice none 0 0, .int .i64 0, .int .i64 0]
      have e1 : (w0.alloc (.cells #[.bool false, .nilIface, .nilIface, .slice none 0 0, .int .i64 0, .int .i64 0] 32)).heap.size = w0.heap.size + 1 := by simp
      rw [e1] at h1
      exact h1
    · rw [← hwb]
      exact (Blk.new w0 32 #[.bool false, .nilIface, .nilIface, .slice none 0 0, .int .i64 0, .int .i64 0]).alloc _)
  obtain ⟨x0, hx0⟩ : ∃ x0 : Lk, (⟨s, r, [], 0⟩ : Lk) = x0 := ⟨_, rfl⟩
  have HLB : Hid (LAt p ns w0 Hb B G1 G2 O0 M x0 0 x0 (false, 0, 0) O0 none 0 0 wb) := keepHid (by
    rw [← hx0]
    exact ⟨HMB.out, World.ownsRow_nil _ _ _ _, fun ad e => (by cases e), rfl, h0, Nat.zero_le _, Nat.zero_le _, Nat.le_refl _⟩)
  have HZ := keepHid hz
  have HZA := keepHid hza
  have HG := keepHid hg
  rw [hx0]
  obtain ⟨R, hR⟩ : ∃ R, runX p ns M x0 (false, 0, 0) = R := ⟨_, rfl⟩
  rw [hR]
  have HR := keepHid hR
  have hMi : (M : Int) ≤ 3000 := by omega
  clear hg hs hr h0 hz hza hx0 hR
  go_enter Try.func10, Try.ntmps10
  go_wp2_with fail
  go_loopw [10] (fun av wr => ∃ (k : Nat) (x : Lk) (o : Bool × Nat × Nat) (O : Nat → Prop) (A : Option Addr) (n c : Nat), av = .slice A n c ∧ LAt p ns w0 Hb B G1 G2 O0 M x0 k x o O A n c wr) (fun _ wr => M - (intOf ((wr.cell? ⟨w0.heap.size + 1, 4, none⟩).getD .nilIface)).toNat)
  case atStart => exact ⟨0, x0, _, O0, none, 0, 0, rfl, HLB.out⟩
  case round =>
    obtain ⟨k, x, o, O, A, n, c, rfl, hL⟩ := hrel
    have HL := keepHid hL
    have hm0 := hL.mid
    have ck : wr.cell? ⟨w0.heap.size + 1, 4, none⟩ = some (.int .i64 (k : Int)) := hm0.res.cell 4
    have hkM := hL.le
    have CK := keepHid ck
    clear hL
    rcases Nat.lt_or_ge k M with hlt | hge
    · have hg0 := hm0.g0
      have hgg : w0.heap.size + 1 ≠ G1 := by obtain ⟨a1, a2, a3, a4⟩ := hg0; omega
      have HEX := keepHid (examine_any p hm0.res hm0.sn hm0.rc hgg (fun hh => (hm0.low hh).2.2.1 rfl) (by obtain ⟨a1, a2, a3, a4⟩ := hg0; omega))
      have hi : (k : Int) < (M : Int) := by omega
      clear hm0 hg0 hgg
      go_wp2_with fail
      (with_reducible refine HEX.out.mono ?_)
      rintro e w1 ⟨rfl, hb1, ht1⟩
      obtain ⟨ov, hov⟩ : ∃ b, (x.s.ph == 3 && x.r.ov) = b := ⟨_, rfl⟩
      rw [hov] at hb1
      have hov2 : overL x = ov := hov
      have HM1 := keepHid (HL.out.mid.see ht1 hb1)
      have HT1 := keepHid ht1
      have d0 : w1.cell? ⟨w0.heap.size + 1, 0, none⟩ = some (.bool ov) := hb1.cell 0
      have d4 : w1.cell? ⟨w0.heap.size + 1, 4, none⟩ = some (.int .i64 (k : Int)) := hb1.cell 4
      have df := hb1.frozen
      clear hov hb1 ht1 ck
      cases ov
      · obtain ⟨w2, hw2⟩ : ∃ w2, w1.setCell ⟨w0.heap.size + 1, 4, none⟩ (.int .i64 ((k : Int) + 1)) = w2 := ⟨_, rfl⟩
        have hm2 : Mid p w0 Hb B G1 G2 O0 x.s x.r (resC (false, x.s.err, x.r.er) (.slice none 0 0) (k + 1) x.sent) O w2 := by rw [← hw2]; exact HM1.out.put 4 _
        have hup2 : OwnB w2 (w0.heap.size + 2) 5 (.slice A n c) n x.up := by
          have h1 := own_keep HL.out.up HT1.out (fun ad e hs => by have := (own_of HL.out.up ad e).1; omega)
          rw [← hw2]
          exact own_keep h1 (turnAt 4 (.int .i64 ((k : Int) + 1)) (Turn.refl _ w1)) (fun ad e hs => by have := (own_of HL.out.up ad e).1; omega)
        have HM2 := keepHid hm2
        have HUP2 := keepHid hup2
        have HTK := keepHid (tick_rcv hm2.rc)
        obtain ⟨n3, hn3⟩ : ∃ n3, (tickR p.crc p.V x.r).1.length = n3 := ⟨_, rfl⟩
        have hn3l : n3 ≤ 2 := by rw [← hn3]; exact rtick_out_le _ _ _
        have HN3 := keepHid hn3
        have hn2l := HL.out.two
        clear hm2 hup2 hn3
        go_wp2_with fail
        (with_reducible refine HTK.out.mono ?_)
        rintro e w3 ⟨A3, c3, O3, rfl, ho3, hc31, hc32, ht3, hr3, hO3, hap3⟩
        rw [HN3.out] at ho3
        rw [HN3.out]
        have hb3 : Bys w3 w3.heap.size A3 n3 (tickR p.crc p.V x.r).1 := ho3.bys (by omega)
        have hup3 := own_keep HUP2.out ht3 HL.out.ap
        have hlt3 := own_lt HUP2.out
        have hap3' : ∀ ad, A = some ad → ¬ O3 ad.block := fun ad e hh => by
          rcases hO3 _ hh with h | h
          · exact HL.out.ap ad e h
          · have := hlt3 ad e; omega
        have HM3 := keepHid (HM2.out.recv ht3 hr3 hO3)
        have HB3 := keepHid hb3
        have HUP3 := keepHid hup3
        have HAP3 := keepHid hap3'
        have hsz3 : w0.heap.size + 2 ≤ w3.heap.size := HM3.out.sz
        clear ho3 hc31 hc32 ht3 hr3 hO3 hap3 hb3 hup3 hlt3 hap3' hw2
        go_wp2_with (at_builtin; go_loud (refine wpList_append_bytes _ rfl _ _ 24 rfl (w0.heap.size + 2) 5 byteT (.slice A n c) n x.up (by rfl) HUP3.out w3.heap.size A3 n3 c3 (tickR p.crc p.V x.r).1 (by rfl) HB3.out (n + n3) rfl (by omega) hsz3 ?_))
        intro A4 c4 w4 q1 q2 q3 q4 q5
        have hS4 : ∀ i, (Value.slice A n c).ownBlock = some i → w0.heap.size + 2 ≤ i ∧ ¬ O3 i := fun i hi => by
          have hbs := own_base HUP3.out i hi
          refine ⟨hbs, ?_⟩
          cases A with
          | none => simp [Value.ownBlock] at hi
          | some ad =>
            have e : ad.block = i := by simpa [Value.ownBlock] using hi
            rw [← e]
            exact HAP3.out ad rfl
        have hm4 := HM3.out.other q2 hS4
        have hb4 : Bys w4 w4.heap.size A4 (n + n3) (x.up ++ (tickR p.crc p.V x.r).1) := q1.bys (by omega)
        have HSY := keepHid (say_any p hm4.sn A4 (n + n3) c4 _ hb4 (fun _ ad e hs => by have := (own_of q1 ad e).1; obtain ⟨a1, a2, a3, a4⟩ := hm4.g0; omega) (by omega) (by obtain ⟨a1, a2, a3, a4⟩ := hm4.g0; have := hm4.sz; omega))
        have HM4 := keepHid hm4
        have hO34 : ∀ i, O3 i → i < w4.heap.size := hm4.rc.lt
        have HO34 := keepHid hO34
        clear q1 q2 q3 q4 q5 hS4 hm4 hb4 hO34
        go_wp2_with fail
        (with_reducible refine HSY.out.mono ?_)
        rintro e w5 ⟨A5, m5, c5, rfl, hm5, ho5, hc51, hc52, ht5, hs5⟩
        have hdl := down_le p x (by rw [HL.out.up.len]; exact HL.out.two)
        have hm5' : (downL p x).length = m5 := hm5
        rw [hm5'] at hdl
        have HM5 := keepHid (HM4.out.send ht5 hs5)
        have HO5 := keepHid ho5
        have HD5 := keepHid hm5'
        have hsz45 : w4.heap.size ≤ w5.heap.size := ht5.size
        have HSZ45 := keepHid hsz45
        have e5 : w5.cell? ⟨w0.heap.size + 1, 5, none⟩ = some (.int .i64 (x.sent : Int)) := HM5.out.res.cell 5
        have ef5 := HM5.out.res.frozen
        have hsl : x.sent ≤ 3000 := by have := HL.out.sent; omega
        clear hm5 hm5' ho5 ht5 hs5 hsz45 hsz3
        rcases Nat.eq_zero_or_pos m5 with h50 | h50
        · have hd0 : downL p x = [] := List.eq_nil_of_length_eq_zero (by rw [HD5.out, h50])
          have hst : stepL p ns x = ⟨feedS p (tickS p.bl p.T p.W x.s).2 (x.up ++ (tickR p.crc p.V x.r).1), (putR p.crc true p.V (tickR p.crc p.V x.r).2 []).2, (putR p.crc true p.V (tickR p.crc p.V x.r).2 []).1, x.sent⟩ := by
            rw [rput_none]
            exact step_none rfl rfl rfl rfl hd0
          have HST := keepHid hst
          have hrb := HL.out.rb.tick p.crc p.V
          have HPT := keepHid (put_rcv HM5.out.rc A5 0 c5 w5.heap.size [] (by have := HO5.out.bys (by omega); rw [h50] at this; have e := this.len; exact ⟨rfl, Nat.zero_le _, fun k c h => by simp at h⟩) (Nat.le_refl _) (Apart.zero _ _) (by have := hrb.da; omega) (by have := hrb.bl; omega) (by have := hrb.bu; omega))
          have HSZ5 := keepHid (Nat.le_trans HM4.out.sz HSZ45.out)
          subst h50
          clear hd0 hst hrb
          go_wp2_with fail
          (with_reducible refine HPT.out.mono ?_)
          rintro e w8 ⟨A8, c8, O8, rfl, ho8, hc81, hc82, ht8, hr8, hO8, hap8⟩
          have HFN := keepHid (HL.out.next hlt hov2 HST.out (by omega) (by simp) (HM5.out.recv ht8 hr8 hO8) HSZ5.out ho8 hap8)
          clear ho8 hc81 hc82 ht8 hr8 hO8 hap8
          go_wp2_with fail
          go_roundw
          case rel => exact ⟨k + 1, _, _, O8, A8, _, c8, rfl, HFN.out⟩
          case measure =>
            have e1 : w8.cell? ⟨w0.heap.size + 1, 4, none⟩ = some (.int .i64 ((k + 1 : Nat) : Int)) := HFN.out.mid.res.cell 4
            rw [e1, CK.out]
            simp [intOf]
            omega
        · obtain ⟨g, c5', hv, hg1, hg2, _, _⟩ := HO5.out.some_form h50
          obtain rfl : A5 = some ⟨g, 0, none⟩ := by injection hv
          clear hv
          have hPS := pass_any HO5.out h50 (by omega) Az m cm ns (HZ.out.turn HM5.out.tu HZA.out) x.sent (by omega)
          have hgO : ¬ O3 g := fun hh => by have := HO34.out g hh; omega
          have hgb : w0.heap.size + 2 ≤ g := by have := HM4.out.sz; omega
          obtain ⟨a, ha⟩ : ∃ a, arr ns x.sent (downL p x) = a := ⟨_, rfl⟩
          have hal : a.length ≤ 6000 := by rw [← ha]; have := arr_le ns x.sent (downL p x); have := HD5.out; omega
          have hst : stepL p ns x = ⟨feedS p (tickS p.bl p.T p.W x.s).2 (x.up ++ (tickR p.crc p.V x.r).1), (putR p.crc true p.V (tickR p.crc p.V x.r).2 a).2, (putR p.crc true p.V (tickR p.crc p.V x.r).2 a).1, x.sent + 1⟩ := by
            refine step_some (d := downL p x) (o := (tickR p.crc p.V x.r).1) (r1 := (tickR p.crc p.V x.r).2) rfl rfl rfl rfl rfl (fun e => ?_) ?_
            · have := HD5.out; rw [e] at this; simp at this; omega
            · rw [ha]
              try rfl
          have hPS2 : Calls Try.prog 29 #[.slice (some ⟨g, 0, none⟩) m5 c5, .slice Az m cm, .int .i64 (x.sent : Int)] w5 (PassPost g a w5) := by rw [← ha]; exact hPS
          have HPS := keepHid hPS2
          have HST := keepHid hst
          have HGO := keepHid hgO
          have HGB := keepHid hgb
          have HAL := keepHid hal
          have h51 : (0 : Int) < (m5 : Int) := by omega
          clear hPS hPS2 hst hgO hgb hal ha hg1 hg2
          go_wp2_with fail
          (with_reducible refine HPS.out.mono ?_)
          rintro e w6 ⟨A6, c6, rfl, hb6, hA6, ht6⟩
          have hm6 := HM5.out.other ht6 (fun i hi => by subst hi; exact ⟨HGB.out, HGO.out⟩)
          obtain ⟨w7, hw7⟩ : ∃ w7, w6.setCell ⟨w0.heap.size + 1, 5, none⟩ (.int .i64 ((x.sent : Int) + 1)) = w7 := ⟨_, rfl⟩
          have hm7 : Mid p w0 Hb B G1 G2 O0 (feedS p (tickS p.bl p.T p.W x.s).2 (x.up ++ (tickR p.crc p.V x.r).1)) (tickR p.crc p.V x.r).2 (resC (false, x.s.err, x.r.er) (.slice none 0 0) (k + 1) (x.sent + 1)) O3 w7 := by rw [← hw7]; exact hm6.put 5 _
          have hb7 : Bys w7 w7.heap.size A6 a.length a := by
            rw [← hw7]
            exact (hb6.turn (turnAt 5 (.int .i64 ((x.sent : Int) + 1)) (Turn.refl _ w6)) (Nat.le_refl _) (fun _ ad e hh => by have := hA6 ad e; have := HGB.out; omega)).more (by simp)
          have f5 : w6.cell? ⟨w0.heap.size + 1, 5, none⟩ = some (.int .i64 (x.sent : Int)) := hm6.res.cell 5
          have ff5 := hm6.res.frozen
          have hrb := HL.out.rb.tick p.crc p.V
          have HPT := keepHid (put_rcv hm7.rc A6 a.length c6 w7.heap.size a hb7 (Nat.le_refl _) (fun _ ad e hh => by have h1 := hA6 ad e; rw [hh] at h1; exact HGO.out (by rw [← h1]; exact hm7.rc.g)) (by have := hrb.da; omega) (by have := hrb.bl; omega) (by have := hrb.bu; have := HAL.out; omega))
          have HM7 := keepHid hm7
          clear hb6 hA6 ht6 hm6 hm7 hb7 hrb e5 ef5
          go_wp2_with fail
          (with_reducible refine HPT.out.mono ?_)
          rintro e w8 ⟨A8, c8, O8, rfl, ho8, hc81, hc82, ht8, hr8, hO8, hap8⟩
          have HFN := keepHid (HL.out.next hlt hov2 HST.out (by omega) HAL.out (HM7.out.recv ht8 hr8 hO8) HM7.out.sz ho8 hap8)
          clear ho8 hc81 hc82 ht8 hr8 hO8 hap8
          go_wp2_with fail
          go_roundw
          case rel => exact ⟨k + 1, _, _, O8, A8, _, c8, rfl, HFN.out⟩
          case measure =>
            have e1 : w8.cell? ⟨w0.heap.size + 1, 4, none⟩ = some (.int .i64 ((k + 1 : Nat) : Int)) := HFN.out.mid.res.cell 4
            rw [e1, CK.out]
            simp [intOf]
            omega
      · have HM9 := HM1
        have HDT := keepHid (data_rcv HM9.out.rc (by have := HL.out.rb.da; omega))
        have HR2 : Hid (R = (x, k, (true, x.s.err, x.r.er))) := keepHid (by rw [← HR.out]; exact HL.out.stop hlt hov2)
        obtain ⟨nd, hnd⟩ : ∃ nd, x.r.da.length = nd := ⟨_, rfl⟩
        have HND := keepHid hnd
        clear hnd
        go_wp2_with fail
        (with_reducible refine HDT.out.mono ?_)
        rintro e w8 ⟨A8, c8, rfl, ho8, hc81, hc82, hb8⟩
        have hm8 := HM9.out.below hb8
        have HFIN : Hid (∀ v1 v2, errV (true, x.s.err, x.r.er).2.1 = v1 → errV (true, x.s.err, x.r.er).2.2 = v2 → ∀ w', Turn (fun i => i = w0.heap.size ∨ i = w0.heap.size + 1) w8 w' → RunPost p Hb B G1 G2 O0 R w0 (.returned (.agg #[.bool true, v1, v2, .slice A8 nd c8, .int .i64 (k : Int), .int .i64 (x.sent : Int)])) w') := keepHid (fun v1 v2 e1 e2 w' ht => by
          have := hm8.fin (k := k) (own_lower ho8 HM9.out.sz) hc81 hc82 ht e1 e2
          rw [HR2.out]
          rw [HND.out] at this
          exact this)
        rw [HND.out]
        have r0 : w8.cell? ⟨w0.heap.size, 0, none⟩ = some (.bool false) := hm8.ret.cell 0
        have r1 : w8.cell? ⟨w0.heap.size, 1, none⟩ = some .nilIface := hm8.ret.cell 1
        have r2 : w8.cell? ⟨w0.heap.size, 2, none⟩ = some .nilIface := hm8.ret.cell 2
        have r3 : w8.cell? ⟨w0.heap.size, 3, none⟩ = some (.slice none 0 0) := hm8.ret.cell 3
        have r4 : w8.cell? ⟨w0.heap.size, 4, none⟩ = some (.int .i64 0) := hm8.ret.cell 4
        have r5 : w8.cell? ⟨w0.heap.size, 5, none⟩ = some (.int .i64 0) := hm8.ret.cell 5
        have rf := hm8.ret.frozen
        have s0 : w8.cell? ⟨w0.heap.size + 1, 0, none⟩ = some (.bool true) := hm8.res.cell 0
        have s1 : w8.cell? ⟨w0.heap.size + 1, 1, none⟩ = some (errV (true, x.s.err, x.r.er).2.1) := hm8.res.cell 1
        have s2 : w8.cell? ⟨w0.heap.size + 1, 2, none⟩ = some (errV (true, x.s.err, x.r.er).2.2) := hm8.res.cell 2
        have s3 : w8.cell? ⟨w0.heap.size + 1, 3, none⟩ = some (.slice none 0 0) := hm8.res.cell 3
        have s4 : w8.cell? ⟨w0.heap.size + 1, 4, none⟩ = some (.int .i64 (k : Int)) := hm8.res.cell 4
        have s5 : w8.cell? ⟨w0.heap.size + 1, 5, none⟩ = some (.int .i64 (x.sent : Int)) := hm8.res.cell 5
        have sf := hm8.res.frozen
        clear hm8 ho8 hc81 hc82 hb8
        rcases errV_or (true, x.s.err, x.r.er).2.1 with e1 | ⟨t1, y1, e1⟩ <;> rcases errV_or (true, x.s.err, x.r.er).2.2 with e2 | ⟨t2, y2, e2⟩
        all_goals
          rw [e1] at s1
          rw [e2] at s2
          have HE1 := keepHid e1
          have HE2 := keepHid e2
          clear e1 e2
          go_wp2_with fail
          refine bodyPost_ret (v := .agg #[.bool true, errV (true, x.s.err, x.r.er).2.1, errV (true, x.s.err, x.r.er).2.2, .slice A8 nd c8, .int .i64 (k : Int), .int .i64 (x.sent : Int)]) ?_ rfl (HFIN.out _ _ rfl rfl _ ?_)
          · rw [res_cell rfl, HE1.out, HE2.out]
            go_simp
          · repeat (first | (with_reducible exact Turn.refl _ _) | (with_reducible refine Turn.setCell ?_ (.inl (.inl rfl)) _) | (with_reducible refine Turn.setCell ?_ (.inl (.inr rfl)) _) | (with_reducible refine Turn.drew ?_))
    · obtain rfl : k = M := by omega
      have hi : ¬ (k : Int) < (k : Int) := by omega
      have HM9 : Hid (Mid p w0 Hb B G1 G2 O0 x.s x.r (resC o (.slice none 0 0) k x.sent) O wr) := keepHid HL.out.mid
      obtain ⟨ob, oe, of⟩ := o
      have HDT := keepHid (data_rcv HM9.out.rc (by have := HL.out.rb.da; omega))
      have HR2 : Hid (R = (x, k, (ob, oe, of))) := keepHid (by rw [← HR.out]; exact HL.out.full)
      obtain ⟨nd, hnd⟩ : ∃ nd, x.r.da.length = nd := ⟨_, rfl⟩
      have HND := keepHid hnd
      clear hnd
      go_wp2_with fail
      (with_reducible refine HDT.out.mono ?_)
      rintro e w8 ⟨A8, c8, rfl, ho8, hc81, hc82, hb8⟩
      have hm8 := HM9.out.below hb8
      have HFIN : Hid (∀ v1 v2, errV (ob, oe, of).2.1 = v1 → errV (ob, oe, of).2.2 = v2 → ∀ w', Turn (fun i => i = w0.heap.size ∨ i = w0.heap.size + 1) w8 w' → RunPost p Hb B G1 G2 O0 R w0 (.returned (.agg #[.bool ob, v1, v2, .slice A8 nd c8, .int .i64 (k : Int), .int .i64 (x.sent : Int)])) w') := keepHid (fun v1 v2 e1 e2 w' ht => by
        have := hm8.fin (k := k) (own_lower ho8 HM9.out.sz) hc81 hc82 ht e1 e2
        rw [HR2.out]
        rw [HND.out] at this
        exact this)
      rw [HND.out]
      have r0 : w8.cell? ⟨w0.heap.size, 0, none⟩ = some (.bool false) := hm8.ret.cell 0
      have r1 : w8.cell? ⟨w0.heap.size, 1, none⟩ = some .nilIface := hm8.ret.cell 1
      have r2 : w8.cell? ⟨w0.heap.size, 2, none⟩ = some .nilIface := hm8.ret.cell 2
      have r3 : w8.cell? ⟨w0.heap.size, 3, none⟩ = some (.slice none 0 0) := hm8.ret.cell 3
      have r4 : w8.cell? ⟨w0.heap.size, 4, none⟩ = some (.int .i64 0) := hm8.ret.cell 4
      have r5 : w8.cell? ⟨w0.heap.size, 5, none⟩ = some (.int .i64 0) := hm8.ret.cell 5
      have rf := hm8.ret.frozen
      have s0 : w8.cell? ⟨w0.heap.size + 1, 0, none⟩ = some (.bool ob) := hm8.res.cell 0
      have s1 : w8.cell? ⟨w0.heap.size + 1, 1, none⟩ = some (errV (ob, oe, of).2.1) := hm8.res.cell 1
      have s2 : w8.cell? ⟨w0.heap.size + 1, 2, none⟩ = some (errV (ob, oe, of).2.2) := hm8.res.cell 2
      have s3 : w8.cell? ⟨w0.heap.size + 1, 3, none⟩ = some (.slice none 0 0) := hm8.res.cell 3
      have s4 : w8.cell? ⟨w0.heap.size + 1, 4, none⟩ = some (.int .i64 (k : Int)) := hm8.res.cell 4
      have s5 : w8.cell? ⟨w0.heap.size + 1, 5, none⟩ = some (.int .i64 (x.sent : Int)) := hm8.res.cell 5
      have sf := hm8.res.frozen
      clear hm8 ho8 hc81 hc82 hb8
      rcases errV_or (ob, oe, of).2.1 with e1 | ⟨t1, y1, e1⟩ <;> rcases errV_or (ob, oe, of).2.2 with e2 | ⟨t2, y2, e2⟩
      all_goals
        rw [e1] at s1
        rw [e2] at s2
        have HE1 := keepHid e1
        have HE2 := keepHid e2
        clear e1 e2
        go_wp2_with fail
        refine bodyPost_ret (v := .agg #[.bool ob, errV (ob, oe, of).2.1, errV (ob, oe, of).2.2, .slice A8 nd c8, .int .i64 (k : Int), .int .i64 (x.sent : Int)]) ?_ rfl (HFIN.out _ _ rfl rfl _ ?_)
        · rw [res_cell rfl, HE1.out, HE2.out]
          go_simp
        · repeat (first | (with_reducible exact Turn.refl _ _) | (with_reducible refine Turn.setCell ?_ (.inl (.inl rfl)) _) | (with_reducible refine Turn.setCell ?_ (.inl (.inr rfl)) _) | (with_reducible refine Turn.drew ?_))
end Go.Proofs.Ytjbkhaoddababaa
