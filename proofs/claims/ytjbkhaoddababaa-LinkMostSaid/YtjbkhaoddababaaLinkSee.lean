/-
  A sender and a receiver talk.
-/
import Derived.Test.YtjbkhaoddababaaLinkSay
import Derived.Test.YtjbkhaoddababaaLinkPass
import Derived.Test.YtjbkhaoddababaaReceiverOf
namespace Go.Proofs.Ytjbkhaoddababaa
open Go.RowKit
set_option linter.unusedVariables false

/-- A result's cells. -/
def resC (o : Bool × Nat × Nat) (v : Value) (k j : Nat) : Array Value := #[.bool o.1, errV o.2.1, errV o.2.2, v, .int .i64 (k : Int), .int .i64 (j : Int)]
set_option maxRecDepth 100000 in
set_option maxHeartbeats 4000000 in
theorem examine_any (p : LP) {w : World} {Hb B G1 G2 GR k j : Nat} {O : Nat → Prop} {s : Sd} {r : Rd} {o : Bool × Nat × Nat} {v : Value} (hb : Blk w GR 32 (resC o v k j)) (hs : SndH w Hb G1 p.bl p.T p.W true s) (hr : Rcv w B G2 O p.crc true p.V r) (h1 : GR ≠ G1) (h2 : ¬ O GR) (hHb : Hb ≤ GR) :
    Calls Try.prog 26 #[.pointer (some ⟨GR, 0, none⟩), .pointer (some ⟨G1, 0, none⟩), .pointer (some ⟨G2, 0, none⟩)] w fun e w' => e = .returned (.tuple #[]) ∧ Blk w' GR 32 (resC (s.ph == 3 && r.ov, s.err, r.er) v k j) ∧ Turn (fun b => b = GR) w w' := by
  have HD1 := keepHid (done_sndH hs)
  have HD2 : Hid (∀ w', Turn (fun b => b = GR) w w' → Calls Try.prog 40 #[.pointer (some ⟨G2, 0, none⟩)] w' fun e w'' => e = .returned (.tuple #[.bool r.ov, errV r.er]) ∧ w'' = w'.drew) :=
    keepHid (fun w' ht => done_rcv (hr.turns ht (fun i hi e => h2 (e ▸ hi))))
  have HB := keepHid hb
  have hf := hb.frozen
  have c0 : w.cell? ⟨GR, 0, none⟩ = some (.bool o.1) := hb.cell 0
  have c1 : w.cell? ⟨GR, 1, none⟩ = some (errV o.2.1) := hb.cell 1
  have c2 : w.cell? ⟨GR, 2, none⟩ = some (errV o.2.2) := hb.cell 2
  obtain ⟨b1, hb1⟩ : ∃ b, (s.ph == 3) = b := ⟨_, rfl⟩
  obtain ⟨b2, hb2⟩ : ∃ b, r.ov = b := ⟨_, rfl⟩
  obtain ⟨u1, hu1⟩ : ∃ u, errV o.2.1 = u := ⟨_, rfl⟩
  obtain ⟨u2, hu2⟩ : ∃ u, errV o.2.2 = u := ⟨_, rfl⟩
  rw [hu1] at c1
  rw [hu2] at c2
  rw [hb1] at HD1
  rw [hb2] at HD2
  have HF : Hid (∀ v1 v2, errV s.err = v1 → errV r.er = v2 → ∀ w', w' = (((w.setCell ⟨GR, 1, none⟩ v1).setCell ⟨GR, 2, none⟩ v2).setCell ⟨GR, 0, none⟩ (.bool (b1 && b2))).drew.drew → Blk w' GR 32 (resC (b1 && b2, s.err, r.er) v k j) ∧ Turn (fun b => b = GR) w w') := keepHid (by
    rintro v1 v2 rfl rfl w' rfl
    exact ⟨(((HB.out.put 1 _).put 2 _).put 0 _).drew.drew, (turnAt _ _ (turnAt _ _ (turnAt _ _ (Turn.refl _ w)))).drew.drew⟩)
  have HT : Hid (∀ v1, Turn (fun b => b = GR) w (w.setCell ⟨GR, 1, none⟩ v1).drew) := keepHid (fun v1 => (turnAt _ _ (Turn.refl _ w)).drew)
  rw [hb1, hb2]
  clear hb hs hr h1 h2 hHb hb1 hb2
  rcases errV_or s.err with e1 | ⟨t1, x1, e1⟩ <;> rcases errV_or r.er with e2 | ⟨t2, x2, e2⟩ <;> cases b1
  all_goals
    rw [e1] at HD1
    rw [e2] at HD2
    have HFF := keepHid (HF.out _ _ e1 e2)
    go_enter Try.func26, Try.ntmps26
    go_wp2_with fail
    (with_reducible refine HD1.out.mono ?_)
    rintro e w1 ⟨rfl, rfl⟩
    go_wp2_with fail
    (with_reducible refine (HD2.out _ (HT.out _)).mono ?_)
    rintro e w1 ⟨rfl, rfl⟩
    go_wp2_with fail
    refine bodyPost_end (results_none rfl _ _ _) rfl ?_
    exact ⟨rfl, HFF.out _ rfl⟩
end Go.Proofs.Ytjbkhaoddababaa
