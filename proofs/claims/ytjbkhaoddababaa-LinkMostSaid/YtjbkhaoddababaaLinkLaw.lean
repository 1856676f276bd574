/-
  A sender and a receiver that a law made talk.
-/
import Derived.Test.YtjbkhaoddababaaLinkRun
import Derived.Test.YtjbkhaoddababaaLinkClean
import Derived.Test.YtjbkhaoddababaaSenderLaw
namespace Go.Proofs.Ytjbkhaoddababaa
open Go.RowKit
set_option linter.unusedVariables false

/-- The data of blocks, one behind the other. -/
def allB (bl : Bks) : List UInt8 := (bl.map (·.2)).flatten
theorem allB_flat (p : LP) : flat p p.bl.length = allB p.bl := flat_all p
/-- A sender and a receiver that a law made. -/
structure Pair (p : LP) (R : Nat) (w0 : World) (Hb G1 G2 : Nat) (w : World) : Prop where
  sn : SndH w Hb G1 p.bl p.T p.W true (newS p.W p.crc)
  rc : Rcv w Hb G2 (fun i => i = G2) p.crc true p.V (newR 1 1 R)
  g1 : w0.heap.size ≤ G1
  bel : Below w0.heap.size w0 w
theorem Pair.hb {p : LP} {R : Nat} {w0 w : World} {Hb G1 G2 : Nat} (h : Pair p R w0 Hb G1 G2 w) : w0.heap.size ≤ G1 ∧ G1 < Hb ∧ Hb ≤ G2 ∧ G2 < w.heap.size := ⟨h.g1, h.sn.ltG, h.rc.ge _ rfl, h.rc.lt _ rfl⟩
theorem Pair.below {p : LP} {R : Nat} {w0 w w' : World} {Hb G1 G2 : Nat} (h : Pair p R w0 Hb G1 G2 w) (hb : Below w.heap.size w w') : Pair p R w0 Hb G1 G2 w' :=
  ⟨h.sn.below hb, h.rc.below hb, h.g1, h.bel.trans (hb.mono h.bel.size)⟩
/-- What the talk of two that a law made comes to. -/
structure Talked (p : LP) (w0 : World) (Hb G1 G2 : Nat) (R : Lk × Nat × (Bool × Nat × Nat)) (A : Option Addr) (c : Nat) (w w' : World) : Prop where
  bys : Bys w' w'.heap.size A R.1.r.da.length R.1.r.da
  le : R.1.r.da.length ≤ c
  max : c ≤ 9223372036854775807
  new : ∀ ad, A = some ad → w.heap.size ≤ ad.block
  sn : SndH w' Hb G1 p.bl p.T p.W true R.1.s
  tu : Turn (fun i => i = G1 ∨ i = G2) w w'
  g1 : w0.heap.size ≤ G1
  g2 : w0.heap.size ≤ G2
  bel : Below w0.heap.size w0 w'
/-- A result's value. -/
def resV (R : Lk × Nat × (Bool × Nat × Nat)) (A : Option Addr) (c : Nat) : Value := .agg #[.bool R.2.2.1, errV R.2.2.2.1, errV R.2.2.2.2, .slice A R.1.r.da.length c, .int .i64 (R.2.1 : Int), .int .i64 (R.1.sent : Int)]
theorem run_pair {p : LP} {R : Nat} {w0 w : World} {Hb G1 G2 : Nat} (h : Pair p R w0 Hb G1 G2 w) (Az : Option Addr) (m cm : Nat) (ns : List Nz) (hz : NzS w Az m ns) (hza : Apart (fun i => i = G1 ∨ i = G2) Az m) (M : Nat) (hM : M ≤ 3000) :
    Calls Try.prog 10 #[.pointer (some ⟨G1, 0, none⟩), .pointer (some ⟨G2, 0, none⟩), .slice Az m cm, .int .i64 (M : Int)] w fun e w' => ∃ A c, e = .returned (resV (runX p ns M (startL p R) (false, 0, 0)) A c) ∧ Talked p w0 Hb G1 G2 (runX p ns M (startL p R) (false, 0, 0)) A c w w' := by
  have hb := h.hb
  refine (run_any p (O0 := fun i => i = G2) ⟨hb.2.1, Nat.le_refl _, by omega, fun i hi => by omega⟩ h.sn h.rc ⟨by simp [newR], by simp [newR], by show (1 : Int) - 0 ≤ max 1 1; omega⟩ Az m cm ns hz hza M hM).mono ?_
  rintro e w' ⟨A, c, O, e1, e2, e3, e4, e5, e6, e7, e8, e9⟩
  have := e9.below (B := w0.heap.size) (fun i hi => by rcases hi with rfl | rfl <;> omega) h.bel.size
  exact ⟨A, c, e1, e2, e3, e4, e5, e6, e9, by omega, by omega, h.bel.trans this⟩
theorem bel_alloc {a w : World} (h : Below a.heap.size a w) (o : Obj) : Below a.heap.size a (w.alloc o) := h.alloc h.size o
theorem bel_set {a w : World} {p : Addr} (h : Below a.heap.size a w) (hp : a.heap.size ≤ p.block) (u : Value) : Below a.heap.size a (w.setCell p u) := h.setCell hp u
/-- A result's block before it is written. -/
def ZeroB (w : World) (g : Nat) : Prop := Blk w g 32 #[.bool false, .nilIface, .nilIface, .slice none 0 0, .int .i64 0, .int .i64 0]
theorem ZeroB.new (w : World) : ZeroB (w.alloc (.cells #[.bool false, .nilIface, .nilIface, .slice none 0 0, .int .i64 0, .int .i64 0] 32)) w.heap.size := Blk.new w _ _
theorem ZeroB.drew {w : World} {g : Nat} (h : ZeroB w g) : ZeroB w.drew g := h
theorem ZeroB.cells {w : World} {g : Nat} (h : ZeroB w g) : w.cell? ⟨g, 0, none⟩ = some (.bool false) ∧ w.cell? ⟨g, 1, none⟩ = some .nilIface ∧ w.cell? ⟨g, 2, none⟩ = some .nilIface ∧ w.cell? ⟨g, 3, none⟩ = some (.slice none 0 0) ∧ w.cell? ⟨g, 4, none⟩ = some (.int .i64 0) ∧ w.cell? ⟨g, 5, none⟩ = some (.int .i64 0) ∧ ∀ i, w.frozen? ⟨g, i, none⟩ = false :=
  ⟨Blk.cell h 0, Blk.cell h 1, Blk.cell h 2, Blk.cell h 3, Blk.cell h 4, Blk.cell h 5, Blk.frozen h⟩
/-- What a sender or a receiver that is made leaves. -/
structure Made (w w' : World) (G : Nat) : Prop where
  g : w.heap.size ≤ G
  lt : G < w'.heap.size
  bel : Below w.heap.size w w'
theorem Made.since {w3 w w' : World} {G : Nat} (hb : Below w3.heap.size w3 w) (hm : Made w w' G) : Below w3.heap.size w3 w' ∧ w3.heap.size ≤ G := ⟨hb.trans (hm.bel.mono hb.size), Nat.le_trans hb.size hm.g⟩
theorem ZeroB.made {w w' : World} {g G : Nat} (h : ZeroB w g) (hm : Made w w' G) : ZeroB w' g ∧ g ≠ G := ⟨Blk.below h hm.bel (Blk.lt h), by have := Blk.lt h; have := hm.g; omega⟩
theorem ZeroB.below {w w' : World} {g : Nat} (h : ZeroB w g) (hb : Below w.heap.size w w') : ZeroB w' g := Blk.below h hb (Blk.lt h)
theorem ZeroB.talked {p : LP} {w0 w w' : World} {g Hb G1 G2 : Nat} {R : Lk × Nat × (Bool × Nat × Nat)} {A : Option Addr} {c : Nat} (h : ZeroB w g) (h1 : g ≠ G1) (h2 : g ≠ G2) (ht : Talked p w0 Hb G1 G2 R A c w w') : ZeroB w' g ∧ ∀ ad, A = some ad → ad.block ≠ g :=
  ⟨ht.tu.blk h (by omega), fun ad e => by have := ht.new ad e; have := Blk.lt h; omega⟩
/-- A result that lies in a block of its own. -/
structure ResAt (w0 : World) (p : LP) (Hb G1 : Nat) (R : Lk × Nat × (Bool × Nat × Nat)) (GB : Nat) (A : Option Addr) (c : Nat) (v1 v2 : Value) (w' : World) : Prop where
  blk : Blk w' GB 32 #[.bool R.2.2.1, v1, v2, .slice A R.1.r.da.length c, .int .i64 (R.2.1 : Int), .int .i64 (R.1.sent : Int)]
  bys : Bys w' w'.heap.size A R.1.r.da.length R.1.r.da
  le : R.1.r.da.length ≤ c
  max : c ≤ 9223372036854775807
  sn : Hb ≤ GB → SndH w' Hb G1 p.bl p.T p.W true R.1.s
  bel : Below w0.heap.size w0 w'
theorem ResAt.of_new {p : LP} {w0 w w' : World} {Hb G1 G2 : Nat} {R : Lk × Nat × (Bool × Nat × Nat)} {A : Option Addr} {c : Nat} (h : Talked p w0 Hb G1 G2 R A c w w') (v1 v2 : Value) (g : Nat) (hg : g = w'.heap.size) :
    ResAt w0 p Hb G1 R g A c v1 v2 (w'.alloc (.cells #[.bool R.2.2.1, v1, v2, .slice A R.1.r.da.length c, .int .i64 (R.2.1 : Int), .int .i64 (R.1.sent : Int)] 32)) := by
  subst hg
  have hb : Below w'.heap.size w' (w'.alloc (.cells #[.bool R.2.2.1, v1, v2, .slice A R.1.r.da.length c, .int .i64 (R.2.1 : Int), .int .i64 (R.1.sent : Int)] 32)) := (Below.refl _ _).alloc (Nat.le_refl _) _
  exact ⟨Blk.new w' _ _, (h.bys.below hb).more hb.size, h.le, h.max, fun _ => h.sn.below hb, h.bel.trans (hb.mono h.bel.size)⟩
theorem ResAt.of_old {p : LP} {w0 w w' : World} {g Hb G1 G2 : Nat} {R : Lk × Nat × (Bool × Nat × Nat)} {A : Option Addr} {c : Nat} (h : Talked p w0 Hb G1 G2 R A c w w') (hz : ZeroB w' g) (ha : ∀ ad, A = some ad → ad.block ≠ g) (h0 : w0.heap.size ≤ g) (v1 v2 : Value) :
    ResAt w0 p Hb G1 R g A c v1 v2 ((((((w'.setCell ⟨g, 0, none⟩ (.bool R.2.2.1)).setCell ⟨g, 1, none⟩ v1).setCell ⟨g, 2, none⟩ v2).setCell ⟨g, 3, none⟩ (.slice A R.1.r.da.length c)).setCell ⟨g, 4, none⟩ (.int .i64 (R.2.1 : Int))).setCell ⟨g, 5, none⟩ (.int .i64 (R.1.sent : Int))) := by
  obtain ⟨wx, hwx⟩ : ∃ wx, ((((((w'.setCell ⟨g, 0, none⟩ (.bool R.2.2.1)).setCell ⟨g, 1, none⟩ v1).setCell ⟨g, 2, none⟩ v2).setCell ⟨g, 3, none⟩ (.slice A R.1.r.da.length c)).setCell ⟨g, 4, none⟩ (.int .i64 (R.2.1 : Int))).setCell ⟨g, 5, none⟩ (.int .i64 (R.1.sent : Int))) = wx := ⟨_, rfl⟩
  have ht : Turn (fun b => b = g) w' wx := by rw [← hwx]; exact turnAt _ _ (turnAt _ _ (turnAt _ _ (turnAt _ _ (turnAt _ _ (turnAt _ _ (Turn.refl _ w'))))))
  have hk : Blk wx g 32 #[.bool R.2.2.1, v1, v2, .slice A R.1.r.da.length c, .int .i64 (R.2.1 : Int), .int .i64 (R.1.sent : Int)] := by
    rw [← hwx]; exact ((((((Blk.put hz 0 _).put 1 _).put 2 _).put 3 _).put 4 _).put 5 _)
  rw [hwx]
  exact ⟨hk, (h.bys.turn ht (Nat.le_refl _) (fun _ ad e hs => ha ad e hs)).more ht.size, h.le, h.max, fun hh => h.sn.turns ht (fun i hi => by omega), h.bel.trans (ht.below (fun i hi => by omega) h.bel.size)⟩
/-- Both are made. -/
theorem sof_pair (z1 z2 : Int) (A : Option Addr) (n c : Nat) (bl : Bks) (crc : Bool) (w : World) (h : BlkS w A n bl) (hn : n ≤ 1000) (hl : ∀ q ∈ bl, q.2.length ≤ 1024) :
    Calls Try.prog 11 #[.agg #[.int .i64 z1, .int .i64 z2], .slice A n c, .bool crc, .bool true] w fun e w' => ∃ G, e = .returned (.pointer (some ⟨G, 0, none⟩)) ∧ SndH w' w'.heap.size G bl (capZ z1 9) (capZ z2 99) true (newS (capZ z2 99) crc) ∧ Made w w' G := by
  refine (of_sndH z1 z2 A n c bl crc true w h (by omega) (fun q hq => by have := hl q hq; omega)).mono ?_
  rintro e w' ⟨G, e1, e2, e3, e4⟩
  exact ⟨G, e1, e3, e2, e3.lt, e4⟩
theorem rof_pair (p : LP) (z1 z2 : Int) (w0 w2 : World) {Hb G1 : Nat} (hs : SndH w2 Hb G1 p.bl p.T p.W true (newS p.W p.crc)) (hHb : Hb ≤ w2.heap.size) (hg : w0.heap.size ≤ G1) (hb : Below w0.heap.size w0 w2) (hV : capZ z2 99 = p.V) :
    Calls Try.prog 12 #[.agg #[.int .i64 z1, .int .i64 z2], .int .u8 1, .bool p.crc, .bool true, .int .i64 1] w2 fun e w' => ∃ G, e = .returned (.pointer (some ⟨G, 0, none⟩)) ∧ Pair p (capZ z1 9) w0 Hb G1 G w' ∧ Made w2 w' G := by
  have h := of_rcv z1 z2 1 p.crc true 1 w2 (by omega)
  rw [hV] at h
  refine h.mono ?_
  rintro e w' ⟨G, e1, e2, e3, e4⟩
  refine ⟨G, e1, ⟨hs.below e4, ?_, hg, hb.trans (e4.mono hb.size)⟩, e2, e3.lt _ rfl, e4⟩
  obtain ⟨⟨vb, vd, h1, h2, h3, h4, h5⟩, hg, hl, hge, a1, a2, a3, a4, a5, a6⟩ := e3
  exact ⟨⟨vb, vd, h1, own_lower h2 hHb, own_lower h3 hHb, h4, h5⟩, hg, hl, fun i hi => Nat.le_trans hHb (hge i hi), a1, a2, a3, a4, a5, a6⟩
end Go.Proofs.Ytjbkhaoddababaa
