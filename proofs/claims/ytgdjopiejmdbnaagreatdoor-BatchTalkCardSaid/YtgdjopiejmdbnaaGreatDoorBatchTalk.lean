/-
  A sender and a receiver of files talk: the law's own 'talk'.
-/
import Derived.Test.YtgdjopiejmdbnaaGreatDoorBatchRecv
import Derived.Test.YtgdjopiejmdbnaaGreatDoorLinkPlain
namespace Go.Proofs.YtgdjopiejmdbnaaGreatDoor
open Go.RowKit
set_option linter.unusedVariables false

/-! ### How much is sent, answered and kept -/
theorem bstick_le {φ : Type} (p : BP φ) (b : Bs) : (tickBS p b).1.length ≤ 1029 := by
  unfold tickBS
  split
  · simp
  · exact stick_le _ _ _ _
theorem bsput_le {φ : Type} (p : BP φ) (b : Bs) (c : UInt8) : (putBS p b c).1.length ≤ 1029 := by
  unfold putBS
  split
  · simp
  · exact sput_le _ _ _ _ _ _
theorem bfeed_le {φ : Type} (p : BP φ) : ∀ (l : List UInt8) (b : Bs), (feedBO p b l).length ≤ 1029 * l.length
  | [], b => by simp [feedBO]
  | c :: r, b => by
    have h1 := bsput_le p b c
    have h2 := bfeed_le p r (putBS p b c).2
    unfold feedBO
    rw [List.length_append, List.length_cons]
    omega
theorem brtick_le {φ : Type} (p : BP φ) (b : Br φ) : (tickBR p b).1.length ≤ 2 := by
  unfold tickBR
  split
  · simp
  · exact rtick_out_le _ _ _
theorem brput_le {φ : Type} (p : BP φ) (b : Br φ) (x : List UInt8) : (putBR p b x).1.length ≤ 2 := by
  unfold putBR
  split
  · simp
  · exact rput_out _ _ _ _ _
theorem rb_new (da bu k : Nat) (n : UInt8) (T : Nat) : Rb da bu k (newR n 1 T) := ⟨by simp [newR], by simp [newR], by show (1 : Int) - k ≤ max 1 1; omega⟩
theorem rb_next {φ : Type} {p : BP φ} {b : Br φ} {r : Rd} {da bu k : Nat} (h : Rb da bu k r) : Rb da bu k (nextBR p b r).r := by
  unfold nextBR
  repeat' split
  all_goals first | exact h | exact rb_new _ _ _ _ _
theorem Rb.more {da bu k da' bu' k' : Nat} {s : Rd} (h : Rb da bu k s) (h1 : da ≤ da') (h2 : bu ≤ bu') (h3 : k ≤ k') : Rb da' bu' k' s := ⟨Nat.le_trans h.da h1, Nat.le_trans h.bu h2, by have := h.bl; omega⟩
theorem rb_tick {φ : Type} {p : BP φ} {b : Br φ} {da bu k : Nat} (h : Rb da bu k b.r) : Rb da bu k (tickBR p b).2.r := by
  unfold tickBR
  split
  · exact h
  · exact rb_next (h.tick _ _)
theorem rb_put {φ : Type} {p : BP φ} {b : Br φ} {da bu k : Nat} (h : Rb da bu k b.r) (x : List UInt8) : Rb (da + 1024) (bu + x.length) (k + 1) (putBR p b x).2.r := by
  unfold putBR
  split
  · exact h.more (by omega) (by omega) (by omega)
  · exact rb_next (h.put _ _ _ _)
/-- What is sent in a tick of the talk. -/
def downT {φ : Type} (p : BP φ) (x : Tk φ) : List UInt8 := (tickBS p x.s).1 ++ feedBO p (tickBS p x.s).2 (x.up ++ (tickBR p x.r).1)
theorem downT_le {φ : Type} (p : BP φ) (x : Tk φ) (h : x.up.length ≤ 2) : (downT p x).length ≤ 6000 := by
  have h1 := bstick_le p x.s
  have h2 := bfeed_le p (x.up ++ (tickBR p x.r).1) (tickBS p x.s).2
  have h3 := brtick_le p x.r
  unfold downT
  rw [List.length_append] at h2 ⊢
  omega

/-- Both behind k ticks of a talk that began in ws. -/
structure TAt (p : BP Fl) (w0 ws : World) (Lb Hb G1 B G2 : Nat) (z1 z2 : Int) (k : Nat) (x : Tk Fl) (O : Nat → Prop) (A : Option Addr) (n c : Nat) (w : World) : Prop where
  sn : Bsn w Lb Hb G1 p x.s
  rc : Brv w B G2 O p z1 z2 x.r
  up : OwnB w ws.heap.size 5 (.slice A n c) n x.up
  ap : ∀ ad, A = some ad → ¬ O ad.block
  rb : Rb (1024 * k) (6000 * k) k x.r.r
  two : n ≤ 2
  std : Std w0 w
  bel : Below Lb ws w
/-- Where things lie as a talk begins. -/
structure TG (w0 ws : World) (Lb Hb B : Nat) : Prop where
  l : w0.heap.size ≤ Lb
  h : Hb ≤ B
  s : Hb ≤ ws.heap.size
  lh : Lb ≤ Hb
def TalkPost (p : BP Fl) (w0 : World) (Lb Hb G1 B G2 : Nat) (z1 z2 : Int) (x : Tk Fl) (ws : World) (e : Ending) (w : World) : Prop :=
  e = .returned (.tuple #[]) ∧ ∃ O, Bsn w Lb Hb G1 p x.s ∧ Brv w B G2 O p z1 z2 x.r ∧ Std w0 w ∧ Below Lb ws w
/-- What an inner round of the talk knows: j bytes were put. -/
structure TIn (p : BP Fl) (Lb Hb G1 : Nat) (u : List UInt8) (d0 : List UInt8) (s1 : Bs) (w4 : World) (j : Nat) (y : List UInt8) (sk : Bs) (A : Option Addr) (m c : Nat) (w : World) : Prop where
  ow : OwnB w w4.heap.size 5 (.slice A m c) m y
  le : m ≤ c
  max : c ≤ 9223372036854775807
  few : m ≤ 1029 + 1029 * j
  tu : Turn (fun i => Lb ≤ i ∧ i < Hb) w4 w
  sn : Bsn w Lb Hb G1 p sk
  out : y ++ feedBO p sk (u.drop j) = d0 ++ feedBO p s1 u
  st : feedBS p sk (u.drop j) = feedBS p s1 u
theorem drop_at {u : List UInt8} {j : Nat} {b : UInt8} (h : u[j]? = some b) : u.drop j = b :: u.drop (j + 1) := by
  obtain ⟨h1, h2⟩ := List.getElem?_eq_some_iff.1 h
  rw [List.drop_eq_getElem_cons h1, h2]
/-- A byte further: what was sent at it is appended. -/
theorem TIn.next {p : BP Fl} {Lb Hb G1 : Nat} {u d0 : List UInt8} {s1 : Bs} {w4 : World} {j : Nat} {y : List UInt8} {sk : Bs} {A : Option Addr} {m c : Nat} {w w2 w5 : World} (h : TIn p Lb Hb G1 u d0 s1 w4 j y sk A m c w) {b : UInt8} (hb : u[j]? = some b) (hHb : Hb ≤ w4.heap.size) (t2 : Turn (fun i => Lb ≤ i ∧ i < Hb) w w2) (s2 : Bsn w2 Lb Hb G1 p (putBS p sk b).2)
    {A5 : Option Addr} {m2 c5 : Nat} (hm2 : (putBS p sk b).1.length = m2) (q1 : OwnB w5 w4.heap.size 5 (.slice A5 (m + m2) c5) (m + m2) (y ++ (putBS p sk b).1)) (q2 : Turn (fun i => (Value.slice A m c).ownBlock = some i) w2 w5) (q4 : m + m2 ≤ c5) (q5 : c5 ≤ 9223372036854775807) :
    TIn p Lb Hb G1 u d0 s1 w4 (j + 1) (y ++ (putBS p sk b).1) (putBS p sk b).2 A5 (m + m2) c5 w5 := by
  have hbs : ∀ i, (Value.slice A m c).ownBlock = some i → w4.heap.size ≤ i := fun i hi => own_base h.ow i hi
  have hd := drop_at hb
  have e1 := h.out
  have e2 := h.st
  rw [hd] at e1 e2
  have hl := bsput_le p sk b
  have hf := h.few
  refine ⟨q1, q4, q5, by omega, ?_, s2.turns q2 (fun i hi => Nat.le_trans hHb (hbs i hi)), ?_, e2⟩
  · exact turn_more' (h.tu.trans t2) q2 (fun i hi => .inr (hbs i hi))
  · rw [List.append_assoc]
    exact e1
set_option maxRecDepth 100000 in
set_option maxHeartbeats 8000000 in
theorem talk_any {p : BP Fl} (hp : Rdr p) {w0 ws : World} {Lb Hb G1 B G2 : Nat} {z1 z2 : Int} {s : Bs} {r : Br Fl} {O0 : Nat → Prop} (hg : TG w0 ws Lb Hb B) (hs : Bsn ws Lb Hb G1 p s) (hr : Brv ws B G2 O0 p z1 z2 r) (h0 : Rb 0 0 0 r.r) (hS : Std w0 ws) (M : Nat) (hM : M ≤ 3000) :
    Calls Tryz.prog 14 #[ptV G1, ptV G2, .int .i64 (M : Int)] ws (TalkPost p w0 Lb Hb G1 B G2 z1 z2 (runT p M ⟨s, r, []⟩) ws) := by
  obtain ⟨x0, hx0⟩ : ∃ x0 : Tk Fl, (⟨s, r, []⟩ : Tk Fl) = x0 := ⟨_, rfl⟩
  have HLB : Hid (TAt p w0 ws Lb Hb G1 B G2 z1 z2 0 x0 O0 none 0 0 ws) := keepHid (by
    rw [← hx0]
    exact ⟨hs, hr, World.ownsRow_nil _ _ _ _, fun ad e => (by cases e), h0, Nat.zero_le _, hS, Below.refl _ _⟩)
  rw [hx0]
  have HG := keepHid hg
  have HP := keepHid hp
  have hMi : (M : Int) ≤ 3000 := by omega
  obtain ⟨R, hR⟩ : ∃ R, runT p M x0 = R := ⟨_, rfl⟩
  rw [hR]
  have HR := keepHid hR
  clear hg hs hr h0 hS hp hx0 hR
  unfold ptV
  go_enter Tryz.func14, Tryz.ntmps14
  go_wp2_with fail
  go_loopw [6, 7] (fun av kv wr => ∃ (k : Nat) (x : Tk Fl) (O : Nat → Prop) (A : Option Addr) (n c : Nat), k ≤ M ∧ kv = .int .i64 k ∧ av = .slice A n c ∧ TAt p w0 ws Lb Hb G1 B G2 z1 z2 k x O A n c wr ∧ runT p (M - k) x = R) (fun _ kv _ => M - (intOf kv).toNat)
  case atStart => exact ⟨0, x0, O0, none, 0, 0, Nat.zero_le _, rfl, rfl, HLB.out, HR.out⟩
  case round =>
    generalize wr = wo at *
    obtain ⟨k, x, O, A, n, c, hkM, rfl, rfl, hL, hrun⟩ := hrel
    have HL := keepHid hL
    have HRUN := keepHid hrun
    clear hL hrun
    rcases Nat.lt_or_ge k M with hlt | hge
    · have hi : (k : Int) < (M : Int) := by omega
      have hstep : runT p (M - (k + 1)) (stepT p x) = R := by
        have e := HRUN.out
        rw [show M - k = (M - (k + 1)) + 1 by omega] at e
        exact e
      have HSTEP := keepHid hstep
      have hrb := HL.out.rb
      have hBw : w0.heap.size ≤ B := Nat.le_trans HG.out.l (Nat.le_trans HG.out.lh HG.out.h)
      have hrt : (tickR true p.W x.r.r).2.da.length ≤ 1000000000 := by have := (hrb.tick true p.W).da; omega
      have HTK := keepHid (brtick_any HP.out HL.out.rc HL.out.std hBw hrt)
      obtain ⟨n3, hn3⟩ : ∃ n3, (tickBR p x.r).1.length = n3 := ⟨_, rfl⟩
      have hn3l : n3 ≤ 2 := by rw [← hn3]; exact brtick_le _ _
      have HN3 := keepHid hn3
      have hn2l := HL.out.two
      have HBW := keepHid hBw
      unfold ptV at HTK
      clear hn3 hstep hrb hBw hrt
      go_wp2_with fail
      (with_reducible refine HTK.out.mono ?_)
      rintro e w3 ⟨A3, c3, O3, rfl, ho3, hc31, hc32, ht3, hr3, hO3, hap3⟩
      rw [HN3.out] at ho3
      rw [HN3.out]
      have hOB : ∀ i, O i → B ≤ i := HL.out.rc.ge
      have hb3 : Bys w3 w3.heap.size A3 n3 (tickBR p x.r).1 := ho3.bys (by omega)
      have hup3 := own_keep HL.out.up ht3 HL.out.ap
      have hlt3 := own_lt HL.out.up
      have hap3' : ∀ ad, A = some ad → ¬ O3 ad.block := fun ad e hh => by
        rcases hO3 _ hh with h | h
        · exact HL.out.ap ad e h
        · have := hlt3 ad e; omega
      have hBH := HG.out.h
      have hLH := HG.out.lh
      have hWL := HG.out.l
      have hsn3 : Bsn w3 Lb Hb G1 p x.s := HL.out.sn.turns ht3 (fun i hi => Nat.le_trans hBH (hOB i hi))
      have hstd3 : Std w0 w3 := HL.out.std.turn ht3 (fun i hi => Nat.le_trans HBW.out (hOB i hi))
      have hsw : ws.heap.size ≤ w3.heap.size := Nat.le_trans HL.out.bel.size ht3.size
      have hbel3 : Below Lb ws w3 := HL.out.bel.trans (ht3.below (fun i hi => Nat.le_trans hLH (Nat.le_trans hBH (hOB i hi))) (by have := HL.out.bel.size; have := HG.out.s; omega))
      have HB3 := keepHid hb3
      have HUP3 := keepHid hup3
      have HAP3 := keepHid hap3'
      have HSN3 := keepHid hsn3
      have HRC3 := keepHid hr3
      have HSTD3 := keepHid hstd3
      have HBEL3 := keepHid hbel3
      clear ho3 hc31 hc32 ht3 hr3 hO3 hap3 hb3 hup3 hlt3 hap3' hsn3 hstd3 hbel3 hOB hBH hLH hWL
      go_wp2_with (at_builtin; go_loud (refine wpList_append_bytes _ rfl _ _ 24 rfl ws.heap.size 5 byteT (.slice A n c) n x.up (by rfl) HUP3.out w3.heap.size A3 n3 c3 (tickBR p x.r).1 (by rfl) HB3.out (n + n3) rfl (by omega) hsw ?_))
      intro A4 c4 w4 q1 q2 q3 q4 q5
      obtain ⟨u, hu⟩ : ∃ u, x.up ++ (tickBR p x.r).1 = u := ⟨_, rfl⟩
      rw [hu] at q1
      obtain ⟨n4, hn4⟩ : ∃ n4, n + n3 = n4 := ⟨_, rfl⟩
      rw [hn4] at q1 q4 q3 ⊢
      have hS4 : ∀ i, (Value.slice A n c).ownBlock = some i → ws.heap.size ≤ i ∧ ¬ O3 i := fun i hi => by
        have hbs := own_base HUP3.out i hi
        refine ⟨hbs, ?_⟩
        cases A with
        | none => simp [Value.ownBlock] at hi
        | some ad =>
          have e : ad.block = i := by simpa [Value.ownBlock] using hi
          rw [← e]
          exact HAP3.out ad rfl
      have hHs := HG.out.s
      have hsn4 : Bsn w4 Lb Hb G1 p x.s := HSN3.out.turns q2 (fun i hi => Nat.le_trans hHs (hS4 i hi).1)
      have hrc4 := HRC3.out.turns q2 (fun i hi hs => (hS4 i hs).2 hi)
      have hstd4 : Std w0 w4 := HSTD3.out.turn q2 (fun i hi => by have := (hS4 i hi).1; have := HG.out.l; have := HG.out.lh; omega)
      have hbel4 : Below Lb ws w4 := HBEL3.out.trans (q2.below (fun i hi => by have := (hS4 i hi).1; have := HG.out.lh; omega) (by have := HG.out.lh; omega))
      have hb4 : Bys w4 w4.heap.size A4 n4 u := q1.bys (by omega)
      have hA4 : ∀ ad, A4 = some ad → ¬ (Lb ≤ ad.block ∧ ad.block < Hb) := fun ad e hh => by have := (own_of q1 ad e).1; omega
      have hHw4 : Hb ≤ w4.heap.size := by have := q2.size; omega
      have HB4 := keepHid hb4
      have HA4 := keepHid hA4
      have HSN4 := keepHid hsn4
      have HRC4 := keepHid hrc4
      have HSTD4 := keepHid hstd4
      have HBEL4 := keepHid hbel4
      have HU := keepHid hu
      have HHW4 := keepHid hHw4
      have hd := bstick_le p x.s
      have HBT := keepHid (btick_any HSN4.out)
      unfold ptV at HBT
      obtain ⟨d0, hd0⟩ : ∃ d, (tickBS p x.s).1 = d := ⟨_, rfl⟩
      obtain ⟨s1, hs1⟩ : ∃ d, (tickBS p x.s).2 = d := ⟨_, rfl⟩
      obtain ⟨m1, hm1⟩ : ∃ m1, d0.length = m1 := ⟨_, rfl⟩
      have hn4l : (n4 : Int) ≤ 4 := by omega
      have hul : u.length = n4 := hb4.len
      have HUL := keepHid hul
      have HD0 := keepHid hd0
      have HS1 := keepHid hs1
      have HM1 := keepHid hm1
      have HDL := keepHid hd
      clear q1 q2 q3 q4 q5 hS4 hHs hsn4 hrc4 hstd4 hbel4 hb4 hA4 hHw4 hd hu hn4 hul hsw
      go_wp2_with fail
      (with_reducible refine HBT.out.mono ?_)
      rintro e w5 ⟨A5, c5, rfl, ho5, hc51, hc52, ht5, hs5⟩
      rw [HD0.out] at ho5 hc51
      rw [HD0.out]
      rw [HM1.out] at ho5 hc51
      rw [HM1.out]
      rw [HS1.out] at hs5
      have hIN : TIn p Lb Hb G1 u d0 s1 w4 0 d0 s1 A5 m1 c5 w5 := ⟨ho5, hc51, hc52, by have := HDL.out; rw [HD0.out, HM1.out] at this; omega, ht5, hs5, rfl, rfl⟩
      have HIN := keepHid hIN
      clear ho5 hc51 hc52 ht5 hs5 hIN hd0 hs1 hm1
      go_wp2_with fail
      go_loopw [8, 24] (fun dv jv wq => ∃ (j : Nat) (A' : Option Addr) (m c' : Nat) (y : List UInt8) (sk : Bs), j ≤ n4 ∧ jv = .int .i64 j ∧ dv = .slice A' m c' ∧ TIn p Lb Hb G1 u d0 s1 w4 j y sk A' m c' wq) (fun _ jv _ => n4 - (intOf jv).toNat)
      case atStart => exact ⟨0, A5, m1, c5, d0, s1, Nat.zero_le _, rfl, rfl, HIN.out⟩
      case round =>
        obtain ⟨j, A', m, c', y, sk, hj, rfl, rfl, hT⟩ := hrel
        have HT := keepHid hT
        clear hT
        rcases Nat.lt_or_ge j n4 with hjl | hjg
        · obtain ⟨ad, b, rfl, had, hb, hcell⟩ := HB4.out.at_ hjl
          have hadS := HA4.out ad rfl
          have hc0 : wr.cell? (ad.add j) = some (.int .u8 (b.toNat : Int)) := by
            rw [← hcell]
            have hb2 : wr.heap[(ad.add j).block]? = w4.heap[(ad.add j).block]? := by rw [ad_block]; exact HT.out.tu.block _ had hadS
            unfold World.cell?
            rw [hb2]
          have HBB := keepHid hb
          have HPT2 : Hid (Calls Tryz.prog 24 #[.pointer (some ⟨G1, 0, none⟩), .int .u8 (b.toNat : Int)] wr fun e w' => ∃ A2 c2 m2, e = .returned (.slice A2 m2 c2) ∧ (putBS p sk b).1.length = m2 ∧ OwnB w' wr.heap.size 5 (.slice A2 m2 c2) m2 (putBS p sk b).1 ∧ m2 ≤ 1029 ∧ Turn (fun i => Lb ≤ i ∧ i < Hb) wr w' ∧ Bsn w' Lb Hb G1 p (putBS p sk b).2) :=
            keepHid ((bput_any HT.out.sn b).mono fun e w' ⟨A2, c2, q1, q2, q3, q4, q5, q6⟩ => ⟨A2, c2, _, q1, rfl, q2, bsput_le _ _ _, q5, q6⟩)
          clear hb hcell had hadS
          go_wp2_with fail
          (with_reducible refine HPT2.out.mono ?_)
          rintro e w2 ⟨A2, c2, m2, rfl, hm2, ho2, hm3, ht2, hs2⟩
          have ho' : OwnB w2 w4.heap.size 5 (.slice A' m c') m y := own_keep HT.out.ow ht2 (fun ad' e hh => by have := (own_of HT.out.ow ad' e).1; have := HHW4.out; omega)
          have hb2 : Bys w2 w2.heap.size A2 m2 (putBS p sk b).1 := ho2.bys (by omega)
          have hsz2 : w4.heap.size ≤ w2.heap.size := Nat.le_trans HT.out.tu.size ht2.size
          have hsum : m + m2 ≤ 140737488355328 := by have := HT.out.few; omega
          have HO' := keepHid ho'
          have HB2 := keepHid hb2
          have HS2 := keepHid hs2
          have HT2 := keepHid ht2
          have HM2 := keepHid hm2
          clear ho' hb2 hs2 ht2 ho2 hm2
          go_wp2_with (at_builtin; go_loud (refine wpList_append_bytes _ rfl _ _ 24 rfl w4.heap.size 5 byteT (.slice A' m c') m y (by rfl) HO'.out w2.heap.size A2 m2 c2 (putBS p sk b).1 (by rfl) HB2.out (m + m2) rfl hsum hsz2 ?_))
          intro A6 c6 w6 q1 q2 q3 q4 q5
          have HN := keepHid (HT.out.next HBB.out HHW4.out HT2.out HS2.out HM2.out q1 q2 q4 q5)
          clear q1 q2 q3 q4 q5
          go_wp2
          go_roundw
          case rel => exact ⟨j + 1, A6, m + m2, c6, _, _, by omega, by go_num, rfl, HN.out⟩
          case measure => simp [intOf]; omega
        · obtain rfl : j = n4 := by omega
          have e1 := HT.out.out
          have e2 := HT.out.st
          rw [List.drop_of_length_le (by have := HUL.out; omega)] at e1 e2
          have hdown : downT p x = y := by
            unfold downT
            rw [HD0.out, HS1.out, HU.out, ← e1]
            simp [feedBO]
          have hfs : feedBS p (tickBS p x.s).2 (x.up ++ (tickBR p x.r).1) = sk := by
            rw [HS1.out, HU.out, ← e2]
            rfl
          have hyl : y.length = m := HT.out.ow.len
          have hyl2 : m ≤ 6000 := by rw [← hyl, ← hdown]; exact downT_le p x (by rw [HL.out.up.len]; exact HL.out.two)
          have hrc5 := HRC4.out.turns HT.out.tu (fun i hi hh => by have := HRC4.out.ge i hi; have := HG.out.h; omega)
          have hstd5 : Std w0 wr := HSTD4.out.turn HT.out.tu (fun i hi => by have := HG.out.l; omega)
          have hbel5 : Below Lb ws wr := HBEL4.out.trans (HT.out.tu.below (fun i hi => hi.1) (by have := HHW4.out; have := HG.out.lh; omega))
          have hrb5 : Rb (1024 * k) (6000 * k) k (tickBR p x.r).2.r := rb_tick HL.out.rb
          have HRC5 := keepHid hrc5
          have HSTD5 := keepHid hstd5
          have HBEL5 := keepHid hbel5
          have HRB5 := keepHid hrb5
          have HDN := keepHid hdown
          have HFS := keepHid hfs
          have HYL := keepHid hyl
          clear e1 e2 hdown hfs hyl hrc5 hstd5 hbel5 hrb5
          rcases Nat.eq_zero_or_pos m with hm0 | hm0
          · have hst : stepT p x = ⟨sk, (tickBR p x.r).2, []⟩ := by
              have h1 := stepT_none (p := p) (x := x) (o := (tickBR p x.r).1) (r1 := (tickBR p x.r).2) (d0 := (tickBS p x.s).1) (s1 := (tickBS p x.s).2) rfl rfl rfl rfl (by
                have := HDN.out
                unfold downT at this
                rw [this]
                exact List.eq_nil_of_length_eq_zero (by rw [HYL.out, hm0]))
              rw [h1, HFS.out]
            have HN : Hid (TAt p w0 ws Lb Hb G1 B G2 z1 z2 (k + 1) (stepT p x) O3 none 0 0 wr) := keepHid (by
              rw [hst]
              exact ⟨HT.out.sn, HRC5.out, World.ownsRow_nil _ _ _ _, (fun ad e => by cases e), HRB5.out.more (by omega) (by omega) (by omega), Nat.zero_le _, HSTD5.out, HBEL5.out⟩)
            subst hm0
            clear hst
            go_wp2
            go_roundw
            case rel => exact ⟨k + 1, stepT p x, O3, none, 0, 0, by omega, by go_num, rfl, HN.out, HSTEP.out⟩
            case measure => simp [intOf]; omega
          · have hst : stepT p x = ⟨sk, (putBR p (tickBR p x.r).2 y).2, (putBR p (tickBR p x.r).2 y).1⟩ := by
              have h1 := stepT_some (p := p) (x := x) (o := (tickBR p x.r).1) (r1 := (tickBR p x.r).2) (d0 := (tickBS p x.s).1) (s1 := (tickBS p x.s).2) (d := downT p x) (a := (putBR p (tickBR p x.r).2 (downT p x)).1) (r2 := (putBR p (tickBR p x.r).2 (downT p x)).2) rfl rfl rfl rfl rfl (by
                rw [HDN.out]
                intro e
                have := HYL.out
                rw [e] at this
                simp at this
                omega) rfl
              rw [h1, HFS.out, HDN.out]
            have hBw2 : w0.heap.size ≤ B := HBW.out
            have hy5 : Bys wr wr.heap.size A' m y := HT.out.ow.bys (by have := HT.out.le; have := HT.out.max; omega)
            have hap5 : Apart O3 A' m := fun _ ad e hh => by
              have := (own_of HT.out.ow ad e).1
              have := HRC4.out.lt _ hh
              omega
            have hrb := HRB5.out
            have HPT := keepHid (brput_any HP.out HRC5.out HSTD5.out hBw2 A' m c' y hy5 hap5 (by have := hrb.da; omega) (by have := hrb.bl; omega) (by have := hrb.bu; omega) (by have := (hrb.put true (clB (tickBR p x.r).2.k) p.W y).da; omega))
            unfold ptV at HPT
            have him : (0 : Int) < (m : Int) := by omega
            have HST := keepHid hst
            obtain ⟨n8, hn8⟩ : ∃ n8, (putBR p (tickBR p x.r).2 y).1.length = n8 := ⟨_, rfl⟩
            have HN8 := keepHid hn8
            clear hst hy5 hap5 hrb hBw2 hn8
            go_wp2_with fail
            (with_reducible refine HPT.out.mono ?_)
            rintro e w8 ⟨A8, c8, O8, rfl, ho8, hc81, hc82, ht8, hr8, hO8, hap8⟩
            rw [HN8.out] at ho8
            rw [HN8.out]
            have hwq : ws.heap.size ≤ wr.heap.size := HBEL5.out.size
            have hO3B := HRC5.out.ge
            have hG1 := HG.out.h
            have hG2 := HG.out.lh
            have HN : Hid (TAt p w0 ws Lb Hb G1 B G2 z1 z2 (k + 1) (stepT p x) O8 A8 n8 c8 w8) := keepHid (by
              rw [HST.out]
              refine ⟨HT.out.sn.turns ht8 (fun i hi => Nat.le_trans hG1 (hO3B i hi)), hr8, own_lower ho8 hwq, hap8, (rb_put HRB5.out y).more (by omega) (by rw [HYL.out]; omega) (by omega), by rw [← HN8.out]; exact brput_le _ _ _, HSTD5.out.turn ht8 (fun i hi => Nat.le_trans HBW.out (hO3B i hi)), HBEL5.out.trans (ht8.below (fun i hi => Nat.le_trans hG2 (Nat.le_trans hG1 (hO3B i hi))) (by have := HG.out.s; omega))⟩)
            clear ho8 hc81 hc82 ht8 hr8 hO8 hap8 hwq hO3B hG1 hG2
            go_wp2
            go_roundw
            case rel => exact ⟨k + 1, stepT p x, O8, A8, n8, c8, by omega, by go_num, rfl, HN.out, HSTEP.out⟩
            case measure => simp [intOf]; omega
    · obtain rfl : k = M := by omega
      have hxR : x = R := by
        have := HRUN.out
        rw [Nat.sub_self] at this
        exact this
      subst hxR
      have HFIN : Hid (TalkPost p w0 Lb Hb G1 B G2 z1 z2 x ws (.returned (.tuple #[])) wo) := keepHid ⟨rfl, O, HL.out.sn, HL.out.rc, HL.out.std, HL.out.bel⟩
      have hi : ¬ (k : Int) < (k : Int) := by omega
      go_wp2
      refine bodyPost_end (results_none rfl _ _ _) rfl ?_
      exact HFIN.out
end Go.Proofs.YtgdjopiejmdbnaaGreatDoor
