/-
  What the sender sends in a tick; what is looked at ahead of it.
-/
import Derived.Test.YtjbkhaoddababaaLinkBounds
import Derived.Test.YtjbkhaoddababaaSenderOf
namespace Go.Proofs.Ytjbkhaoddababaa
open Go.RowKit
set_option linter.unusedVariables false

/-- What is sent, in a row of the call's own. -/
def SayPost (p : LP) (Hb G : Nat) (y : List UInt8) (s : Sd) (w : World) (e : Ending) (w' : World) : Prop :=
  ∃ A m c, e = .returned (.slice A m c) ∧ y.length = m ∧ OwnB w' w.heap.size 5 (.slice A m c) m y ∧ m ≤ c ∧ c ≤ 9223372036854775807 ∧ Turn (fun b => b = G) w w' ∧ SndH w' Hb G p.bl p.T p.W true s
set_option maxRecDepth 100000 in
set_option maxHeartbeats 4000000 in
theorem say_any (p : LP) {w : World} {Hb G : Nat} {s : Sd} (h : SndH w Hb G p.bl p.T p.W true s) (A : Option Addr) (n c : Nat) (up : List UInt8) (hup : Bys w w.heap.size A n up) (hap : Apart (fun b => b = G) A n) (hn : n ≤ 1000) (hHb : Hb ≤ w.heap.size) :
    Calls Try.prog 27 #[.pointer (some ⟨G, 0, none⟩), .slice A n c] w (SayPost p Hb G ((tickS p.bl p.T p.W s).1 ++ feedO p (tickS p.bl p.T p.W s).2 up) (feedS p (tickS p.bl p.T p.W s).2 up) w) := by
  have hlt := h.lt
  have hul := hup.len
  have hd := stick_le p.bl p.T p.W s
  have HTK := keepHid (tick_sndH h)
  obtain ⟨d0, hd0⟩ : ∃ d, (tickS p.bl p.T p.W s).1 = d := ⟨_, rfl⟩
  obtain ⟨s1, hs1⟩ : ∃ d, (tickS p.bl p.T p.W s).2 = d := ⟨_, rfl⟩
  rw [hd0] at hd
  obtain ⟨r, hr⟩ : ∃ r, tickS p.bl p.T p.W s = r := ⟨_, rfl⟩
  rw [hd0, hs1]
  rw [hr] at HTK hd0 hs1
  have HUP := keepHid hup
  have HUL := keepHid hul
  have HAP := keepHid hap
  have HLT := keepHid hlt
  have HD0 := keepHid hd0
  have HS1 := keepHid hs1
  have HDL := keepHid hd
  clear h hup hul hap hlt hd0 hs1 hr hd
  go_enter Try.func27, Try.ntmps27
  go_wp2_with fail
  (with_reducible refine HTK.out.mono ?_)
  rintro e w1 ⟨A1, c1, rfl, ho1, hc1, hc2, ht1, hs1⟩
  rw [HD0.out] at ho1 hc1
  rw [HD0.out]
  rw [HS1.out] at hs1
  obtain ⟨m1, hm1⟩ : ∃ m1, d0.length = m1 := ⟨_, rfl⟩
  rw [hm1] at ho1 hc1
  rw [hm1]
  have HO1 := keepHid ho1
  have HT1 := keepHid ht1
  have HSN1 := keepHid hs1
  have HM1 := keepHid hm1
  clear ho1 ht1 hs1 hm1
  have hn2 : (n : Int) ≤ 1000 := by omega
  go_wp2_with fail
  go_loopw [5, 12] (fun dv kv wr => ∃ (k : Nat) (A' : Option Addr) (m c' : Nat) (y : List UInt8) (sk : Sd), k ≤ n ∧ kv = .int .i64 k ∧ dv = .slice A' m c' ∧ OwnB wr w.heap.size 5 (.slice A' m c') m y ∧ m ≤ c' ∧ c' ≤ 9223372036854775807 ∧ m ≤ 1029 + 1029 * k ∧ Turn (fun b => b = G) w wr ∧
    SndH wr Hb G p.bl p.T p.W true sk ∧ y ++ feedO p sk (up.drop k) = d0 ++ feedO p s1 up ∧ feedS p sk (up.drop k) = feedS p s1 up) (fun _ kv _ => n - (intOf kv).toNat)
  case atStart => exact ⟨0, A1, m1, c1, d0, s1, Nat.zero_le _, rfl, rfl, HO1.out, hc1, hc2, by have := HDL.out; have := HM1.out; omega, HT1.out, HSN1.out, rfl, rfl⟩
  case round =>
    obtain ⟨k, A', m, c', y, sk, hk, rfl, rfl, ho, hmc, hc', hm, ht, hs, e1, e2⟩ := hrel
    have HO := keepHid ho
    have HT := keepHid ht
    have HS := keepHid hs
    have HE1 := keepHid e1
    have HE2 := keepHid e2
    clear ho ht hs e1 e2
    rcases Nat.lt_or_ge k n with hlt | hge
    · obtain ⟨ad, b, rfl, had, hb, hcell⟩ := HUP.out.at_ hlt
      have hadG : ad.block ≠ G := HAP.out (by omega) ad rfl
      have hc0 : wr.cell? (ad.add k) = some (.int .u8 (b.toNat : Int)) := by
        rw [← hcell]
        have hb2 : wr.heap[(ad.add k).block]? = w.heap[(ad.add k).block]? := by rw [ad_block]; exact HT.out.block _ had hadG
        unfold World.cell?
        rw [hb2]
      have hdrop : up.drop k = b :: up.drop (k + 1) := by
        rw [List.drop_eq_getElem_cons (by have := HUL.out; omega)]
        congr 1
        have := (List.getElem?_eq_some_iff.1 hb).2
        exact this
      have hpl := sput_le p.bl p.T p.W true sk b
      have HPT := keepHid (put_sndH HS.out b)
      obtain ⟨q, hq⟩ : ∃ q, putS p.bl p.T p.W true sk b = q := ⟨_, rfl⟩
      rw [hq] at HPT hpl
      have e1 := HE1.out
      have e2 := HE2.out
      rw [hdrop] at e1 e2
      rw [show feedO p sk (b :: up.drop (k + 1)) = (putS p.bl p.T p.W true sk b).1 ++ feedO p (putS p.bl p.T p.W true sk b).2 (up.drop (k + 1)) from rfl] at e1
      rw [show feedS p sk (b :: up.drop (k + 1)) = feedS p (putS p.bl p.T p.W true sk b).2 (up.drop (k + 1)) from rfl] at e2
      rw [hq] at e1 e2
      obtain ⟨y2, s2⟩ := q
      simp only at e1 e2 hpl
      have HF1 : Hid ((y ++ y2) ++ feedO p s2 (up.drop (k + 1)) = d0 ++ feedO p s1 up) := keepHid (by rw [List.append_assoc]; exact e1)
      have HF2 : Hid (feedS p s2 (up.drop (k + 1)) = feedS p s1 up) := keepHid e2
      have HPT2 : Hid (Calls Try.prog 42 #[.pointer (some ⟨G, 0, none⟩), .int .u8 (b.toNat : Int)] wr fun e w' => ∃ A2 c2 m2, e = .returned (.slice A2 m2 c2) ∧ y2.length = m2 ∧ OwnB w' wr.heap.size 5 (.slice A2 m2 c2) m2 y2 ∧ Turn (fun b => b = G) wr w' ∧ SndH w' Hb G p.bl p.T p.W true s2) :=
        keepHid (HPT.out.mono fun e w' ⟨A2, c2, q1, q2, q3, q4, q5, q6⟩ => ⟨A2, c2, _, q1, rfl, q2, q5, q6⟩)
      have HPL := keepHid hpl
      clear e1 e2 hq hdrop hcell hb had hadG HPT hpl
      go_wp2_with fail
      (with_reducible refine HPT2.out.mono ?_)
      rintro e w2 ⟨A2, c2, m2, rfl, hm2, ho2, ht2, hs2⟩
      have ho' : OwnB w2 w.heap.size 5 (.slice A' m c') m y := HO.out.keep fun i hi hlt => ht2.block i hlt (fun e => by have := own_base HO.out i hi; have := HLT.out; omega)
      have hb2 : Bys w2 w2.heap.size A2 m2 y2 := ho2.bys (by have := HPL.out; omega)
      have hs2' : w.heap.size ≤ w2.heap.size := Nat.le_trans HT.out.size ht2.size
      have HO' := keepHid ho'
      have HB2 := keepHid hb2
      have HS2 := keepHid hs2
      have HT2 := keepHid (HT.out.trans ht2)
      have hm3 : m2 ≤ 1029 := by rw [← hm2]; exact HPL.out
      clear ho' hb2 hs2 ht2 ho2 hm2
      have hsum : m + m2 ≤ 140737488355328 := by omega
      go_wp2_with (at_builtin; go_loud (refine wpList_append_bytes _ rfl _ _ 24 rfl w.heap.size 5 byteT (.slice A' m c') m y (by rfl) HO'.out w2.heap.size A2 m2 c2 y2 (by rfl) HB2.out (m + m2) rfl hsum hs2' ?_))
      intro A5 c5 w5 q1 q2 q3 q4 q5
      have HO5 := keepHid q1
      have t5 : Turn (fun b => b = G) w w5 := ⟨q2.os.trans HT2.out.os, q2.tape.trans HT2.out.tape, q2.output.trans HT2.out.output, Nat.le_trans HT2.out.size q2.size, fun i hi hne => (q2.block i (Nat.lt_of_lt_of_le hi HT2.out.size) (fun e => by have := own_base HO'.out i e; omega)).trans (HT2.out.block i hi hne)⟩
      have s5 : SndH w5 Hb G p.bl p.T p.W true s2 := HS2.out.turns q2 (fun i hi => Nat.le_trans hHb (own_base HO'.out i hi))
      have HT5 := keepHid t5
      have HS5 := keepHid s5
      clear q1 q2 q3 t5 s5
      go_wp2
      go_roundw
      case rel => exact ⟨k + 1, A5, m + m2, c5, y ++ y2, s2, by omega, by go_num, rfl, HO5.out, q4, q5, by omega, HT5.out, HS5.out, HF1.out, HF2.out⟩
      case measure => simp [intOf]; omega
    · obtain rfl : k = n := by omega
      have hF : (SayPost p Hb G (d0 ++ feedO p s1 up) (feedS p s1 up) w (.returned (.slice A' m c')) wr) := by
        have e1 := HE1.out
        have e2 := HE2.out
        rw [List.drop_of_length_le (by have := HUL.out; omega)] at e1 e2
        have e3 : d0 ++ feedO p s1 up = y := by rw [← e1]; simp [feedO]
        have e4 : feedS p s1 up = sk := by rw [← e2]; rfl
        rw [e3, e4]
        exact ⟨A', m, c', rfl, HO.out.len, HO.out, hmc, hc', HT.out, HS.out⟩
      have HF := keepHid hF
      clear hF
      go_wp2
      go_ret
      exact HF.out
end Go.Proofs.Ytjbkhaoddababaa
