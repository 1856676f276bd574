/-
  A receiver of files in memory; what its inner calls do.
-/
import Derived.Test.YtonloefjhofeeaaGreatDoorSenderPlain
import Derived.Test.YtonloefjhofeeaaGreatDoorSmall
import Derived.LoopTactic
import Derived.RegionTactic
import Derived.Deep.DeepCutAuto
import Derived.Deep.RegionWith
import Derived.Deep.RegionHeld3
import Derived.Deep.DrawnRows
import Derived.Handy
import Derived.Test.YtonloefjhofeeaaGreatDoorReceiver
import Derived.Test.YtonloefjhofeeaaGreatDoorHeaderMake
namespace Go.Proofs.YtonloefjhofeeaaGreatDoor
open Go.RowKit
set_option linter.unusedVariables false

/-! ### A receiver that is not over has no error -/
def R0 (s : Rd) : Prop := s.ov = false → s.er = 0
theorem r0_new (n : UInt8) (m : Int) (T : Nat) : R0 (newR n m T) := fun _ => rfl
theorem r0_stop (s : Rd) (e : Nat) : R0 (stopR s e) := fun h => by cases h
theorem r0_put {crc cl : Bool} {W : Nat} {s : Rd} (b : List UInt8) (h : R0 s) : R0 (putR crc cl W s b).2 := by
  unfold putR seeR scanR takeR finR
  repeat' split
  all_goals first | exact h | exact r0_stop _ _
theorem r0_tick {crc : Bool} {W : Nat} {s : Rd} (h : R0 s) : R0 (tickR crc W s).2 := by
  unfold tickR askR
  repeat' split
  all_goals first | exact h | exact r0_stop _ _

/-- What files' descriptions tell, in a batch of files. -/
structure Rdr (p : BP Fl) : Prop where
  yes : ∀ f, May f → p.rd (encL f) = some f
  no : ∀ bs, (∀ g, May g → bs ≠ encL g) → p.rd bs = none
  sz : ∀ f, p.sz f = f.size.toNat
  en : ∀ bs, p.en bs = endsB bs
theorem rd_ex : ∃ rd : List UInt8 → Option Fl, (∀ f, May f → rd (encL f) = some f) ∧ ∀ bs, (∀ g, May g → bs ≠ encL g) → rd bs = none := by
  classical
  refine ⟨fun bs => if h : ∃ f, May f ∧ bs = encL f then some h.choose else none, fun f hf => ?_, fun bs hn => ?_⟩
  · have hx : ∃ g, May g ∧ encL f = encL g := ⟨f, hf, rfl⟩
    show (if h : ∃ g, May g ∧ encL f = encL g then some h.choose else none) = some f
    rw [dif_pos hx]
    exact congrArg some (enc_inj hx.choose_spec.1 hf hx.choose_spec.2.symm)
  · show (if h : ∃ f, May f ∧ bs = encL f then some h.choose else none) = none
    rw [dif_neg]
    rintro ⟨f, hf, e⟩
    exact hn f hf e
theorem Rdr.reads {p : BP Fl} (h : Rdr p) {bs : List UInt8} {f : Fl} {ok : Bool} (hr : Reads bs f ok) : (ok = true → May f ∧ p.rd bs = some f) ∧ (ok = false → p.rd bs = none) := by
  refine ⟨fun e => ?_, fun e => h.no bs (hr.no e).2⟩
  obtain ⟨h1, rfl⟩ := hr.yes e
  exact ⟨h1, h.yes f h1⟩

/-- A receiver's cells. -/
def brC (z1 z2 : Int) (pt : Nat) (vb : Value) (f : Fl) (vd ve : Value) : Array Value :=
  #[.int .i64 z1, .int .i64 z2, .int .i64 (pt : Int), vb, .string (strB f.name), .int .i64 f.size, .int .i64 f.time, .int .i64 f.mode, vd, ve]
/-- Which part, as the receiver counts. -/
def ptB (b : Br Fl) : Nat := if b.ov = true then 0 else b.k + 1
/-- A receiver of files in block G, whose own blocks are O, none of them below B. -/
structure Brv (w : World) (B G : Nat) (O : Nat → Prop) (p : BP Fl) (z1 z2 : Int) (b : Br Fl) : Prop where
  mem : ∃ vb Ad cd, Blk w G 102 (brC z1 z2 (ptB b) vb (b.fi.getD fl0) (.slice Ad b.da.length cd) (errV b.er)) ∧ Bys w w.heap.size Ad b.da.length b.da ∧ b.da.length ≤ cd ∧ (∀ ad, Ad = some ad → O ad.block ∧ ad.block ≠ G) ∧
    (b.ov = false → ∃ G2 O2, vb = ptV G2 ∧ Rcv w B G2 O2 true (clB b.k) p.W b.r ∧ (∀ i, O2 i → O i ∧ i ≠ G) ∧ ∀ ad, Ad = some ad → ¬ O2 ad.block)
  g : O G
  lt : ∀ i, O i → i < w.heap.size
  ge : ∀ i, O i → B ≤ i
  k2 : b.k ≤ 2
  r0 : R0 b.r
  er : b.ov = false → b.er = 0
  fi : b.k ≠ 0 → ∃ f, b.fi = some f
  may : ∀ f, b.fi = some f → May f
  da : b.da.length ≤ 8192
  d01 : b.k ≠ 2 → b.da = []
  T : capZ z1 9 = p.T
  W : capZ z2 99 = p.W
section
variable {w w' : World} {B G : Nat} {O : Nat → Prop} {p : BP Fl} {z1 z2 : Int} {b : Br Fl}
/-- What is no block of the receiver's may turn. -/
theorem Brv.turns {S : Nat → Prop} (h : Brv w B G O p z1 z2 b) (ht : Turn S w w') (hS : ∀ i, O i → ¬ S i) : Brv w' B G O p z1 z2 b := by
  obtain ⟨⟨vb, Ad, cd, h1, h2, h3, h4, h5⟩, a1, a2, a3, a4, a5, a6, a7, a8, a9, d1, b1, b2⟩ := h
  refine ⟨⟨vb, Ad, cd, ht.blk h1 (hS _ a1), (h2.turn ht (Nat.le_refl _) (fun _ ad e => hS _ (h4 ad e).1)).more ht.size, h3, h4, fun ho => ?_⟩, a1, fun i hi => Nat.lt_of_lt_of_le (a2 i hi) ht.size, a3, a4, a5, a6, a7, a8, a9, d1, b1, b2⟩
  obtain ⟨G2, O2, e1, e2, e3, e4⟩ := h5 ho
  exact ⟨G2, O2, e1, e2.turns ht (fun i hi => hS _ (e3 i hi).1), e3, e4⟩
theorem Brv.below (h : Brv w B G O p z1 z2 b) (hb : Below w.heap.size w w') : Brv w' B G O p z1 z2 b := h.turns (S := fun _ => False) (Turn.of_below hb) (fun _ _ h => h)
theorem Brv.drew (h : Brv w B G O p z1 z2 b) : Brv w.drew B G O p z1 z2 b := h.below (Below.drew (Below.refl _ _))
end
/-- What an inner call of a receiver's leaves. -/
def BrStep (B G : Nat) (O : Nat → Prop) (p : BP Fl) (z1 z2 : Int) (b : Br Fl) (w : World) (e : Ending) (w' : World) : Prop :=
  e = .returned (.tuple #[]) ∧ ∃ O', Brv w' B G O' p z1 z2 b ∧ Turn O w w' ∧ ∀ i, O' i → O i ∨ w.heap.size ≤ i
theorem BrStep.of {B G : Nat} {O O1 : Nat → Prop} {p : BP Fl} {z1 z2 : Int} {b : Br Fl} {w w1 w' : World} {e : Ending} (ht : Turn O w w1) (hO : ∀ i, O1 i → O i ∨ w.heap.size ≤ i) (h : BrStep B G O1 p z1 z2 b w1 e w') : BrStep B G O p z1 z2 b w e w' := by
  obtain ⟨e1, O', e2, e3, e4⟩ := h
  refine ⟨e1, O', e2, ?_, fun i hi => ?_⟩
  · refine ⟨e3.os.trans ht.os, e3.tape.trans ht.tape, e3.output.trans ht.output, Nat.le_trans ht.size e3.size, fun i hi hn => (e3.block i (Nat.lt_of_lt_of_le hi ht.size) (fun h1 => ?_)).trans (ht.block i hi hn)⟩
    rcases hO i h1 with h2 | h2
    · exact hn h2
    · omega
  · rcases e4 i hi with h1 | h1
    · exact hO i h1
    · exact .inr (Nat.le_trans ht.size h1)

theorem bstopR_any {G : Nat} {w : World} {c0 c1 c2 c3 c4 c5 c6 c7 c8 c9 : Value} (e : Value) (he : e = .nilIface ∨ ∃ t u, e = .iface t u) (h : Blk w G 102 #[c0, c1, c2, c3, c4, c5, c6, c7, c8, c9]) :
    Calls Tryz.prog 65 #[ptV G, e] w fun r w' => r = .returned (.tuple #[]) ∧ Blk w' G 102 #[c0, c1, .int .i64 0, .pointer none, c4, c5, c6, c7, c8, e] ∧ Turn (fun i => i = G) w w' := by
  have h2 : w.cell? ⟨G, 2, none⟩ = some c2 := h.cell 2
  have h3 : w.cell? ⟨G, 3, none⟩ = some c3 := h.cell 3
  have h9 : w.cell? ⟨G, 9, none⟩ = some c9 := h.cell 9
  have hf := h.frozen
  unfold ptV
  rcases he with rfl | ⟨t, u, rfl⟩
  all_goals
    go_enter Tryz.func65, Tryz.ntmps65
    go_wp2
    refine bodyPost_end (results_none rfl _ _ _) rfl ?_
    exact ⟨rfl, ((h.put 2 _).put 3 _).put 9 _, turnAt _ _ (turnAt _ _ (turnAt _ _ (Turn.refl _ w)))⟩
/-- A stop: the transfer is over with this error. -/
theorem bstop_any {w : World} {B G : Nat} {O : Nat → Prop} {p : BP Fl} {z1 z2 : Int} {b : Br Fl} (h : Brv w B G O p z1 z2 b) (en : Nat) (r : Rd) (hr : R0 r) :
    Calls Tryz.prog 65 #[ptV G, errV en] w (BrStep B G O p z1 z2 { b with r := r, ov := true, er := en } w) := by
  obtain ⟨⟨vb, Ad, cd, h1, h2, h3, h4, h5⟩, a1, a2, a3, a4, a5, a6, a7, a8, a9, d1, b1, b2⟩ := h
  refine (bstopR_any (errV en) (errV_or en) h1).mono ?_
  rintro e w' ⟨e1, e2, e3⟩
  refine ⟨e1, O, ⟨⟨.pointer none, Ad, cd, e2, (h2.turn e3 (Nat.le_refl _) (fun _ ad e hh => (h4 ad e).2 hh)).more e3.size, h3, h4, fun hh => by cases hh⟩, a1, fun i hi => Nat.lt_of_lt_of_le (a2 i hi) e3.size, a3, a4, hr, (fun hh => by cases hh), a7, a8, a9, d1, b1, b2⟩, e3.mono fun i hi => by rw [hi]; exact a1, fun i hi => .inl hi⟩

/-- The number with which a part's blocks begin. -/
def nrB (k : Nat) : UInt8 := if k = 1 then 1 else 0
/-- A part begins: the block of the receiver as it is before. -/
theorem bbegin_any {w : World} {G : Nat} (z1 z2 : Int) {c2 c3 c4 c5 c6 c7 c8 c9 : Value} (k : Nat) (hk : k ≤ 2) (pt : Int) (hpt : pt = ((k + 1 : Nat) : Int)) (h : Blk w G 102 #[.int .i64 z1, .int .i64 z2, c2, c3, c4, c5, c6, c7, c8, c9]) :
    Calls Tryz.prog 73 #[ptV G, .int .i64 pt] w fun e w' => e = .returned (.tuple #[]) ∧ ∃ G2, w.heap.size ≤ G2 ∧ Blk w' G 102 #[.int .i64 z1, .int .i64 z2, .int .i64 pt, ptV G2, c4, c5, c6, c7, c8, c9] ∧
      Rcv w' w.heap.size G2 (fun i => i = G2) true (clB k) (capZ z2 99) (newR (nrB k) 1 (capZ z1 9)) ∧ Turn (fun i => i = G) w w' := by
  have d0 : w.cell? ⟨G, 0, none⟩ = some (.int .i64 z1) := h.cell 0
  have d1 : w.cell? ⟨G, 1, none⟩ = some (.int .i64 z2) := h.cell 1
  have d2 : w.cell? ⟨G, 2, none⟩ = some c2 := h.cell 2
  have d3 : w.cell? ⟨G, 3, none⟩ = some c3 := h.cell 3
  have hf := h.frozen
  have hlt := h.lt
  obtain ⟨w1, hw1⟩ : ∃ w1, w.setCell ⟨G, 2, none⟩ (.int .i64 pt) = w1 := ⟨_, rfl⟩
  have h1 : Blk w1 G 102 #[.int .i64 z1, .int .i64 z2, .int .i64 pt, c3, c4, c5, c6, c7, c8, c9] := by rw [← hw1]; exact h.put 2 _
  have t1 : Turn (fun i => i = G) w w1 := by rw [← hw1]; exact turnAt _ _ (Turn.refl _ w)
  have HOF : Hid (∀ nr cl, nr = ((nrB k).toNat : Int) → cl = clB k → Calls Tryz.prog 59 #[.agg #[.int .i64 z1, .int .i64 z2], .int .u8 nr, .bool true, .bool cl, .int .i64 1] w1 fun e w2 => ∃ G2, e = .returned (ptV G2) ∧ w2.cell? ⟨G, 3, none⟩ = some c3 ∧ w2.frozen? ⟨G, 3, none⟩ = false ∧ (w.heap.size ≤ G2 ∧ Blk (w2.setCell ⟨G, 3, none⟩ (ptV G2)) G 102 #[.int .i64 z1, .int .i64 z2, .int .i64 pt, ptV G2, c4, c5, c6, c7, c8, c9] ∧
      Rcv (w2.setCell ⟨G, 3, none⟩ (ptV G2)) w.heap.size G2 (fun i => i = G2) true (clB k) (capZ z2 99) (newR (nrB k) 1 (capZ z1 9)) ∧ Turn (fun i => i = G) w (w2.setCell ⟨G, 3, none⟩ (ptV G2)))) := keepHid (fun nr cl hnr hcl => by
    rw [hnr]
    refine (of_rcv z1 z2 (nrB k) true cl 1 w1 (by omega)).mono ?_
    rintro e w2 ⟨G2, rfl, e2, e3, e4⟩
    have hb := h1.below e4 h1.lt
    have hs := t1.size
    have tG : Turn (fun i => i = G) w2 (w2.setCell ⟨G, 3, none⟩ (ptV G2)) := turnAt _ _ (Turn.refl _ w2)
    refine ⟨G2, rfl, hb.cell 3, hb.frozen 3, Nat.le_trans hs e2, hb.put 3 _, ?_, (t1.trans (Turn.of_below e4)).trans tG⟩
    rw [← hcl]
    have e5 := e3.turns tG (fun i hi hh => by omega)
    obtain ⟨⟨vb, vd, m1, m2, m3, m4, m5⟩, hg, hl, hge, r1, r2, r3, r4, r5, r6⟩ := e5
    exact ⟨⟨vb, vd, m1, own_lower m2 hs, own_lower m3 hs, m4, m5⟩, hg, hl, fun i hi => Nat.le_trans hs (hge i hi), r1, r2, r3, r4, r5, r6⟩)
  have f0 : w1.cell? ⟨G, 0, none⟩ = some (.int .i64 z1) := h1.cell 0
  have f1 : w1.cell? ⟨G, 1, none⟩ = some (.int .i64 z2) := h1.cell 1
  clear h h1 t1 hlt
  unfold ptV at *
  rcases (by omega : k = 0 ∧ pt = 1 ∨ k = 1 ∧ pt = 2 ∨ k = 2 ∧ pt = 3) with ⟨rfl, rfl⟩ | ⟨rfl, rfl⟩ | ⟨rfl, rfl⟩
  all_goals
    clear hpt
    first
    | (have HO := keepHid (HOF.out 0 false rfl rfl))
    | (have HO := keepHid (HOF.out 1 true rfl rfl))
    clear HOF
    go_enter Tryz.func73, Tryz.ntmps73
    go_wp2_with fail
    (with_reducible refine HO.out.mono ?_)
    rintro e w2 ⟨G2, rfl, g3, gf, hp⟩
    have HP := keepHid hp
    clear hp
    go_wp2
    first
    | refine bodyPost_end (results_none rfl _ _ _) rfl ?_
    | refine bodyPost_ret (results_none rfl _ _ _) rfl ?_
    exact ⟨rfl, G2, HP.out⟩


/-- What lies at start-up lies there still. -/
structure Std (w0 w : World) : Prop where
  tabs : Tabs w0
  errs : Errs w0
  bel : Below w0.heap.size w0 w
theorem Std.t {w0 w : World} (h : Std w0 w) : Tabs w := h.tabs.below h.bel (Nat.le_refl _)
theorem Std.e {w0 w : World} (h : Std w0 w) : Errs w := h.errs.below h.bel (Nat.le_refl _)
theorem Std.turn {S : Nat → Prop} {w0 w w' : World} (h : Std w0 w) (ht : Turn S w w') (hS : ∀ i, S i → w0.heap.size ≤ i) : Std w0 w' := ⟨h.tabs, h.errs, h.bel.trans (ht.below hS h.bel.size)⟩
theorem Std.below {w0 w w' : World} (h : Std w0 w) (hb : Below w.heap.size w w') : Std w0 w' := ⟨h.tabs, h.errs, h.bel.trans (hb.mono h.bel.size)⟩
theorem Std.new {w : World} (h1 : Tabs w) (h2 : Errs w) : Std w w := ⟨h1, h2, Below.refl _ _⟩

/-- The next part of a receiver's begins. -/
theorem bnext_any {wP w : World} {B G : Nat} {O : Nat → Prop} {p : BP Fl} {z1 z2 : Int} (hB : B ≤ wP.heap.size) (hg : O G) (hlt : ∀ i, O i → i < wP.heap.size) (hge : ∀ i, O i → B ≤ i) (hT : capZ z1 9 = p.T) (hW : capZ z2 99 = p.W) (ht : Turn O wP w) (k : Nat) (hk : k ≤ 2) (pt : Int) (hpt : pt = ((k + 1 : Nat) : Int)) (f : Fl) (hf : May f) (da : List UInt8) (hd : da.length ≤ 8192) (hd1 : k ≠ 2 → da = [])
    (Ad : Option Addr) (cd : Nat) (hy : Bys w w.heap.size Ad da.length da) (hcd : da.length ≤ cd) (hAd : ∀ ad, Ad = some ad → (O ad.block ∨ wP.heap.size ≤ ad.block) ∧ ad.block ≠ G ∧ ad.block < w.heap.size) {c2 c3 : Value} (h : Blk w G 102 #[.int .i64 z1, .int .i64 z2, c2, c3, .string (strB f.name), .int .i64 f.size, .int .i64 f.time, .int .i64 f.mode, .slice Ad da.length cd, .nilIface]) :
    Calls Tryz.prog 73 #[ptV G, .int .i64 pt] w (BrStep B G O p z1 z2 ⟨k, newR (nrB k) 1 p.T, false, 0, some f, da⟩ wP) := by
  refine (bbegin_any z1 z2 k hk pt hpt h).mono ?_
  rintro e w' ⟨e1, G2, e2, e3, e4, e5⟩
  have hs := ht.size
  have hs5 := e5.size
  refine ⟨e1, fun i => O i ∨ i = G2 ∨ ∃ ad, Ad = some ad ∧ i = ad.block, ⟨⟨ptV G2, Ad, cd, ?_, (hy.turn e5 (Nat.le_refl _) (fun _ ad e hh => (hAd ad e).2.1 hh)).more hs5, hcd, fun ad e => ⟨.inr (.inr ⟨ad, e, rfl⟩), (hAd ad e).2.1⟩, fun _ => ⟨G2, fun i => i = G2, rfl, ?_, fun i hi => ⟨.inr (.inl hi), ?_⟩, fun ad e hh => ?_⟩⟩, .inl hg, ?_, ?_, hk, r0_new _ _ _, fun _ => rfl, fun _ => ⟨f, rfl⟩, ?_, hd, hd1, hT, hW⟩, ?_, ?_⟩
  · rw [hpt] at e3
    exact e3
  · rw [hW, hT] at e4
    obtain ⟨⟨vb, vd, m1, m2, m3, m4, m5⟩, hg, hl, hge, r1, r2, r3, r4, r5, r6⟩ := e4
    exact ⟨⟨vb, vd, m1, own_lower m2 (by omega), own_lower m3 (by omega), m4, m5⟩, hg, hl, fun i hi => by have := hge i hi; omega, r1, r2, r3, r4, r5, r6⟩
  · have := hlt G hg
    intro hh
    omega
  · have := (hAd ad e).2.2
    omega
  · rintro i (hi | rfl | ⟨ad, e, rfl⟩)
    · have := hlt i hi; omega
    · exact e4.lt _ rfl
    · have := (hAd ad e).2.2; omega
  · rintro i (hi | rfl | ⟨ad, e, rfl⟩)
    · exact hge i hi
    · omega
    · rcases (hAd ad e).1 with hh | hh
      · exact hge _ hh
      · omega
  · intro g hg
    obtain rfl := Option.some.inj hg
    exact hf
  · exact ht.trans (e5.mono fun i hi => by rw [hi]; exact hg)
  · rintro i (hi | rfl | ⟨ad, e, rfl⟩)
    · exact .inl hi
    · exact .inr (by omega)
    · exact (hAd ad e).1

/-- What becomes of the first part's data. -/
def desB (p : BP Fl) (b : Br Fl) (bs : List UInt8) : Br Fl :=
  match p.rd bs with
  | some f => ⟨1, newR 1 1 p.T, false, 0, some f, []⟩
  | none => { b with ov := true, er := 14 }
theorem fl_nz (f : Fl) : ∃ l a b c, f = ⟨l, a, b, c⟩ := by obtain ⟨l, a, b, c⟩ := f; exact ⟨l, a, b, c, rfl⟩
set_option maxRecDepth 100000 in
set_option maxHeartbeats 4000000 in
theorem bdescribe_any {w0 wP w : World} {B G : Nat} {O : Nat → Prop} {p : BP Fl} (hp : Rdr p) {z1 z2 : Int} {b : Br Fl} (h : Brv wP B G O p z1 z2 b) (hov : b.ov = false) (hk : b.k = 0) (hw : Below wP.heap.size wP w) (hS : Std w0 w) (A : Option Addr) (n c : Nat) (bs : List UInt8) (hy : Bys w w.heap.size A n bs) :
    Calls Tryz.prog 78 #[ptV G, .slice A n c] w (BrStep B G O p z1 z2 (desB p b bs) wP) := by
  have HRD := keepHid (read_any A n c bs w hy hS.t hS.e)
  have HH := keepHid h
  have HW := keepHid hw
  have HP := keepHid hp
  have HOV := keepHid hov
  have HK := keepHid hk
  have hGlt : G < wP.heap.size := h.lt G h.g
  have HGL := keepHid hGlt
  clear h hw hy hS hp hov hk hGlt
  unfold ptV
  go_enter Tryz.func78, Tryz.ntmps78
  go_wp2_with fail
  (with_reducible refine HRD.out.mono ?_)
  rintro e w2 ⟨⟨f, ok, rfl, hr⟩, hb2⟩
  have HR := keepHid hr
  have HB2 := keepHid (HW.out.trans (hb2.mono HW.out.size))
  clear hr hb2
  obtain ⟨l, a, d, m, rfl⟩ := fl_nz f
  unfold flV flCells
  dsimp only
  obtain ⟨w3, hw3⟩ : ∃ w3, w2.alloc (.cells #[.string (strB l), .int .i64 a, .int .i64 d, .int .i64 m] 100) = w3 := ⟨_, rfl⟩
  have hk3 : Blk w3 w2.heap.size 100 (flCells ⟨l, a, d, m⟩) := by rw [← hw3]; exact Blk.new _ _ _
  have hb3 : Below wP.heap.size wP w3 := by rw [← hw3]; exact HB2.out.alloc HB2.out.size _
  have fa := fileAt_blk hk3
  have hc0 := fa.c0; have hc1 := fa.c1; have hc2 := fa.c2; have hc3 := fa.c3
  have HW3 := keepHid hw3
  have HB3 := keepHid hb3
  have hH3 := HH.out.turns (S := fun _ => False) (Turn.of_below hb3) (fun _ _ h => h)
  have HH3 := keepHid hH3
  clear hw3 hk3 hb3 fa
  cases ok
  · have HST : Hid (Calls Tryz.prog 65 #[.pointer (some ⟨G, 0, none⟩), .iface 107 (.int .i64 14)] w3 (BrStep B G O p z1 z2 (desB p b bs) wP)) := keepHid (by
      unfold desB
      rw [(HP.out.reads HR.out).2 rfl]
      refine (bstop_any HH3.out 14 b.r HH3.out.r0).mono ?_
      exact fun _ _ h => h.of (Turn.of_below HB3.out) (fun i hi => .inl hi))
    clear hH3
    go_wp2_with (go_at_call 65; fail)
    rw [HW3.out]
    (with_reducible refine HST.out.mono ?_)
    rintro e w5 ⟨rfl, hp5⟩
    have HP5 := keepHid hp5
    clear hp5
    go_wp2
    refine bodyPost_ret (results_none rfl _ _ _) rfl ?_
    exact ⟨rfl, HP5.out⟩
  · obtain ⟨⟨vb, Ad, cd, h1, h2, h3, h4, h5⟩, a1, a2, a3, a4, a5, a6, a7, a8, a9, d1, b1, b2⟩ := hH3
    have hd0 := d1 (by rw [HK.out]; decide)
    have hyes := (HP.out.reads HR.out).1 rfl
    rw [hd0] at h1 h2 h3
    rw [a6 HOV.out] at h1
    have g4 : w3.cell? ⟨G, 4, none⟩ = some (.string (strB (b.fi.getD fl0).name)) := h1.cell 4
    have g5 : w3.cell? ⟨G, 5, none⟩ = some (.int .i64 (b.fi.getD fl0).size) := h1.cell 5
    have g6 : w3.cell? ⟨G, 6, none⟩ = some (.int .i64 (b.fi.getD fl0).time) := h1.cell 6
    have g7 : w3.cell? ⟨G, 7, none⟩ = some (.int .i64 (b.fi.getD fl0).mode) := h1.cell 7
    have gf := h1.frozen
    have HBG : Hid (Calls Tryz.prog 73 #[.pointer (some ⟨G, 0, none⟩), .int .i64 2] ((((w3.setCell ⟨G, 4, none⟩ (.string (strB l))).setCell ⟨G, 5, none⟩ (.int .i64 a)).setCell ⟨G, 6, none⟩ (.int .i64 d)).setCell ⟨G, 7, none⟩ (.int .i64 m)) (BrStep B G O p z1 z2 (desB p b bs) wP)) := keepHid (by
      have tG : Turn (fun i => i = G) w3 ((((w3.setCell ⟨G, 4, none⟩ (.string (strB l))).setCell ⟨G, 5, none⟩ (.int .i64 a)).setCell ⟨G, 6, none⟩ (.int .i64 d)).setCell ⟨G, 7, none⟩ (.int .i64 m)) := turnAt _ _ (turnAt _ _ (turnAt _ _ (turnAt _ _ (Turn.refl _ w3))))
      have t1 : Turn O wP w3 := Turn.of_below HB3.out
      unfold desB
      rw [hyes.2]
      refine bnext_any (B := B) (O := O) (p := p) (z1 := z1) (z2 := z2) (hB := Nat.le_trans (a3 G a1) (Nat.le_of_lt HGL.out)) a1 HH.out.lt a3 b1 b2 (t1.trans (tG.mono fun i hi => by rw [hi]; exact a1)) 1 (by omega) 2 rfl ⟨l, a, d, m⟩ hyes.1 [] (by simp) (fun _ => rfl) Ad cd ?_ h3 (fun ad e => ⟨.inl (h4 ad e).1, (h4 ad e).2, ?_⟩) ((((h1.put 4 _).put 5 _).put 6 _).put 7 _)
      · exact (h2.turn tG (Nat.le_refl _) (Apart.zero _ _)).more tG.size
      · have := a2 _ (h4 ad e).1
        have := tG.size
        omega)
    clear h1 h2 h3 h4 h5 a1 a2 a3 a4 a5 a6 a7 a8 a9 d1 b1 b2 hd0 hyes
    have hw3 := HW3.out
    go_wp2_with fail
    (with_reducible refine HBG.out.mono ?_)
    rintro e w5 ⟨rfl, hp5⟩
    have HP5 := keepHid hp5
    clear hp5
    go_wp2
    refine bodyPost_end (results_none rfl _ _ _) rfl ?_
    exact ⟨rfl, HP5.out⟩


/-- What becomes of the second part's data. -/
def filB (p : BP Fl) (b : Br Fl) (bs : List UInt8) : Br Fl :=
  match b.fi with
  | some f => if bs.length < p.sz f then { b with ov := true, er := 13 } else ⟨2, newR 0 1 p.T, false, 0, some f, bs.take (p.sz f)⟩
  | none => { b with ov := true, er := 13 }
set_option maxRecDepth 100000 in
set_option maxHeartbeats 4000000 in
theorem bfill_any {wP w : World} {B G : Nat} {O : Nat → Prop} {p : BP Fl} (hp : Rdr p) {z1 z2 : Int} {b : Br Fl} (h : Brv wP B G O p z1 z2 b) (hov : b.ov = false) (hk : b.k = 1) (hw : Below wP.heap.size wP w) (A : Option Addr) (n c : Nat) (bs : List UInt8) (hy : Bys w w.heap.size A n bs) (hc : n ≤ c) (hcm : c ≤ 9223372036854775807) (hA : ∀ ad, A = some ad → wP.heap.size ≤ ad.block ∧ ad.block < w.heap.size) :
    Calls Tryz.prog 79 #[ptV G, .slice A n c] w (BrStep B G O p z1 z2 (filB p b bs) wP) := by
  have hlen := hy.len
  have HH := keepHid h
  have HW := keepHid hw
  have hGlt : G < wP.heap.size := h.lt G h.g
  have hH3 := h.turns (S := fun _ => False) (Turn.of_below hw) (fun _ _ h => h)
  have HH3 := keepHid hH3
  obtain ⟨⟨vb, Ad, cd, h1, h2, h3, h4, h5⟩, a1, a2, a3, a4, a5, a6, a7, a8, a9, d1, b1, b2⟩ := hH3
  obtain ⟨f, hf⟩ := a7 (by omega)
  have hmay := a8 f hf
  have hsz0 := hmay.size0
  have hsz1 := hmay.size
  obtain ⟨q, hq⟩ : ∃ q : Nat, f.size = (q : Int) := ⟨f.size.toNat, by omega⟩
  have hpsz : p.sz f = q := by rw [hp.sz, hq]; rfl
  have hd0 := d1 (by rw [hk]; decide)
  rw [hd0, a6 hov, hf] at h1
  simp only [Option.getD_some] at h1
  have g5 : w.cell? ⟨G, 5, none⟩ = some (.int .i64 (q : Int)) := by rw [← hq]; exact h1.cell 5
  have g8 : w.cell? ⟨G, 8, none⟩ = some (.slice Ad 0 cd) := h1.cell 8
  have gf := h1.frozen
  rcases Nat.lt_or_ge n q with hlt | hge
  · have HST : Hid (Calls Tryz.prog 65 #[.pointer (some ⟨G, 0, none⟩), .iface 107 (.int .i64 13)] w (BrStep B G O p z1 z2 (filB p b bs) wP)) := keepHid (by
      have e : filB p b bs = { b with ov := true, er := 13 } := by
        unfold filB
        rw [hf]
        simp only
        rw [if_pos (by rw [hlen, hpsz]; exact hlt)]
      rw [e]
      refine (bstop_any HH3.out 13 b.r HH3.out.r0).mono ?_
      exact fun _ _ h => h.of (Turn.of_below HW.out) (fun i hi => .inl hi))
    have i1 : (n : Int) < (q : Int) := by omega
    unfold ptV
    clear h hw hy hlen h1 h2 h3 h4 h5 a1 a2 a3 a4 a5 a6 a7 a8 a9 d1 b1 b2 hmay hsz0 hsz1 hq hpsz hd0 hf hA
    go_enter Tryz.func79, Tryz.ntmps79
    go_wp2_with fail
    (with_reducible refine HST.out.mono ?_)
    rintro e w5 ⟨rfl, hp5⟩
    have HP5 := keepHid hp5
    clear hp5
    go_wp2
    refine bodyPost_ret (results_none rfl _ _ _) rfl ?_
    exact ⟨rfl, HP5.out⟩
  · have HBG : Hid (Calls Tryz.prog 73 #[.pointer (some ⟨G, 0, none⟩), .int .i64 3] (w.setCell ⟨G, 8, none⟩ (.slice A q c)) (BrStep B G O p z1 z2 (filB p b bs) wP)) := keepHid (by
      have tG : Turn (fun i => i = G) w (w.setCell ⟨G, 8, none⟩ (.slice A q c)) := turnAt _ _ (Turn.refl _ w)
      have e : filB p b bs = ⟨2, newR 0 1 p.T, false, 0, some f, bs.take q⟩ := by
        unfold filB
        rw [hf]
        simp only
        rw [if_neg (by rw [hlen, hpsz]; omega), hpsz]
      have hl2 : (bs.take q).length = q := by rw [List.length_take, hlen]; omega
      rw [e]
      have t1 : Turn O wP w := Turn.of_below HW.out
      refine bnext_any (c2 := .int .i64 (ptB b : Int)) (c3 := vb) (B := B) (O := O) (p := p) (z1 := z1) (z2 := z2) (hB := Nat.le_trans (a3 G a1) (Nat.le_of_lt hGlt)) a1 HH.out.lt a3 b1 b2 (t1.trans (tG.mono fun i hi => by rw [hi]; exact a1)) 2 (by omega) 3 rfl f hmay (bs.take q) (by rw [hl2]; omega) (fun hh => absurd rfl hh) A c ?_ (by rw [hl2]; omega) (fun ad e => ⟨.inr (hA ad e).1, ?_, ?_⟩) ?_
      · rw [hl2]
        exact ((hy.head hge).turn tG (Nat.le_refl _) (fun _ ad e hh => by have := (hA ad e).1; omega)).more tG.size
      · have := (hA ad e).1
        omega
      · have := (hA ad e).2
        have := tG.size
        omega
      · rw [hl2]
        exact h1.put 8 _)
    have i1 : ¬ (n : Int) < (q : Int) := by omega
    have i2 : (q : Int) ≤ 8192 := by omega
    have i3 : (q : Int) ≤ (c : Int) := by omega
    unfold ptV
    clear h hw hy hlen h1 h2 h3 h4 h5 a1 a2 a3 a4 a5 a6 a7 a8 a9 d1 b1 b2 hmay hsz0 hsz1 hq hpsz hd0 hf hA
    go_enter Tryz.func79, Tryz.ntmps79
    go_wp2_with fail
    (with_reducible refine HBG.out.mono ?_)
    rintro e w5 ⟨rfl, hp5⟩
    have HP5 := keepHid hp5
    clear hp5
    go_wp2
    refine bodyPost_end (results_none rfl _ _ _) rfl ?_
    exact ⟨rfl, HP5.out⟩

/-- What becomes of the third part's data. -/
def cloB (p : BP Fl) (b : Br Fl) (bs : List UInt8) : Br Fl := { b with ov := true, er := if p.en bs then 0 else 14 }
set_option maxRecDepth 100000 in
set_option maxHeartbeats 4000000 in
theorem bclose_any {wP w : World} {B G : Nat} {O : Nat → Prop} {p : BP Fl} (hp : Rdr p) {z1 z2 : Int} {b : Br Fl} (h : Brv wP B G O p z1 z2 b) (hw : Below wP.heap.size wP w) (A : Option Addr) (n c : Nat) (bs : List UInt8) (hy : Bys w w.heap.size A n bs) (hc : n ≤ c) :
    Calls Tryz.prog 80 #[ptV G, .slice A n c] w (BrStep B G O p z1 z2 (cloB p b bs) wP) := by
  have HEN := keepHid (ends_any A n c w.heap.size bs w hy hc)
  have hH3 := h.turns (S := fun _ => False) (Turn.of_below hw) (fun _ _ h => h)
  have HST : Hid (∀ en ev, errV en = ev → (if p.en bs then 0 else 14) = en → Calls Tryz.prog 65 #[.pointer (some ⟨G, 0, none⟩), ev] w (BrStep B G O p z1 z2 (cloB p b bs) wP)) := keepHid (fun en ev he hen => by
    subst he
    unfold cloB
    rw [hen]
    refine (bstop_any hH3 en b.r hH3.r0).mono ?_
    exact fun _ _ h => h.of (Turn.of_below hw) (fun i hi => .inl hi))
  have hen := hp.en bs
  obtain ⟨x, hx⟩ : ∃ x, endsB bs = x := ⟨_, rfl⟩
  rw [hx] at HEN hen
  clear h hw hy hH3 hx
  unfold ptV
  cases x
  · have HS2 := keepHid (HST.out 14 (.iface 107 (.int .i64 14)) rfl (by rw [hen]; rfl))
    clear HST hen
    go_enter Tryz.func80, Tryz.ntmps80
    go_wp2_with (go_at_call 91; (with_reducible refine HEN.out.mono ?_); rintro e w2 ⟨rfl, rfl⟩)
    (with_reducible refine HS2.out.mono ?_)
    rintro e w5 ⟨rfl, hp5⟩
    have HP5 := keepHid hp5
    clear hp5
    go_wp2
    refine bodyPost_ret (results_none rfl _ _ _) rfl ?_
    exact ⟨rfl, HP5.out⟩
  · have HS2 := keepHid (HST.out 0 .nilIface rfl (by rw [hen]; rfl))
    clear HST hen
    go_enter Tryz.func80, Tryz.ntmps80
    go_wp2_with (go_at_call 91; (with_reducible refine HEN.out.mono ?_); rintro e w2 ⟨rfl, rfl⟩)
    (with_reducible refine HS2.out.mono ?_)
    rintro e w5 ⟨rfl, hp5⟩
    have HP5 := keepHid hp5
    clear hp5
    go_wp2
    refine bodyPost_end (results_none rfl _ _ _) rfl ?_
    exact ⟨rfl, HP5.out⟩

/-- What becomes of a part's data. -/
def takB (p : BP Fl) (b : Br Fl) (bs : List UInt8) : Br Fl := if b.k = 0 then desB p b bs else if b.k = 1 then filB p b bs else cloB p b bs
set_option maxRecDepth 100000 in
set_option maxHeartbeats 4000000 in
theorem btake_any {w0 wP w : World} {B G : Nat} {O : Nat → Prop} {p : BP Fl} (hp : Rdr p) {z1 z2 : Int} {b : Br Fl} (h : Brv wP B G O p z1 z2 b) (hov : b.ov = false) (hw : Below wP.heap.size wP w) (hS : Std w0 w) (A : Option Addr) (n c : Nat) (bs : List UInt8) (hy : Bys w w.heap.size A n bs) (hc : n ≤ c) (hcm : c ≤ 9223372036854775807) (hA : ∀ ad, A = some ad → wP.heap.size ≤ ad.block ∧ ad.block < w.heap.size) :
    Calls Tryz.prog 66 #[ptV G, .slice A n c] w (BrStep B G O p z1 z2 (takB p b bs) wP) := by
  have hH3 := h.turns (S := fun _ => False) (Turn.of_below hw) (fun _ _ h => h)
  have hk2 := h.k2
  have g2 : w.cell? ⟨G, 2, none⟩ = some (.int .i64 ((b.k + 1 : Nat) : Int)) := by
    obtain ⟨⟨vb, Ad, cd, h1, _⟩, _⟩ := hH3
    have := h1.cell 2
    have e : ptB b = b.k + 1 := by unfold ptB; rw [hov]; rfl
    rw [e] at this
    exact this
  unfold takB
  rcases (by omega : b.k = 0 ∨ b.k = 1 ∨ b.k = 2) with hk | hk | hk
  · have HC := keepHid (bdescribe_any hp h hov hk hw hS A n c bs hy)
    rw [if_pos hk]
    rw [hk] at g2
    have g2' : w.cell? ⟨G, 2, none⟩ = some (.int .i64 1) := g2
    unfold ptV at *
    clear h hov hk hw hS hy hA hH3 g2
    go_enter Tryz.func66, Tryz.ntmps66
    go_wp2_with fail
    (with_reducible refine HC.out.mono ?_)
    rintro e w5 ⟨rfl, hp5⟩
    have HP5 := keepHid hp5
    clear hp5
    go_wp2
    refine bodyPost_end (results_none rfl _ _ _) rfl ?_
    exact ⟨rfl, HP5.out⟩
  · have HC := keepHid (bfill_any hp h hov hk hw A n c bs hy hc hcm hA)
    rw [if_neg (by omega), if_pos hk]
    rw [hk] at g2
    have g2' : w.cell? ⟨G, 2, none⟩ = some (.int .i64 2) := g2
    unfold ptV at *
    clear h hov hk hw hS hy hA hH3 g2
    go_enter Tryz.func66, Tryz.ntmps66
    go_wp2_with fail
    (with_reducible refine HC.out.mono ?_)
    rintro e w5 ⟨rfl, hp5⟩
    have HP5 := keepHid hp5
    clear hp5
    go_wp2
    refine bodyPost_end (results_none rfl _ _ _) rfl ?_
    exact ⟨rfl, HP5.out⟩
  · have HC := keepHid (bclose_any hp h hw A n c bs hy hc)
    rw [if_neg (by omega), if_neg (by omega)]
    rw [hk] at g2
    have g2' : w.cell? ⟨G, 2, none⟩ = some (.int .i64 3) := g2
    unfold ptV at *
    clear h hov hk hw hS hy hA hH3 g2
    go_enter Tryz.func66, Tryz.ntmps66
    go_wp2_with fail
    (with_reducible refine HC.out.mono ?_)
    rintro e w5 ⟨rfl, hp5⟩
    have HP5 := keepHid hp5
    clear hp5
    go_wp2
    refine bodyPost_end (results_none rfl _ _ _) rfl ?_
    exact ⟨rfl, HP5.out⟩

/-- What the plain text says of a part that is over is what is made of its data. -/
theorem next_tak (p : BP Fl) (b : Br Fl) (hov : b.ov = false) (h1 : b.r.ov = true) (h2 : b.r.er = 0) (hf : b.k ≠ 0 → ∃ f, b.fi = some f) : nextBR p b b.r = takB p b b.r.da := by
  obtain ⟨k, r, ov, er, fi, da⟩ := b
  simp only at *
  unfold nextBR takB desB filB cloB
  rw [if_pos h1, if_neg (by rw [h2]; simp)]
  simp only
  split
  · cases p.rd r.da <;> rfl
  · split
    · rename_i h0 h1
      obtain ⟨f, hf⟩ := hf h0
      subst hf
      rfl
    · rfl
set_option maxRecDepth 100000 in
set_option maxHeartbeats 4000000 in
theorem brproceed_any {w0 w : World} {B G : Nat} {O : Nat → Prop} {p : BP Fl} (hp : Rdr p) {z1 z2 : Int} {b : Br Fl} (h : Brv w B G O p z1 z2 b) (hov : b.ov = false) (hS : Std w0 w) (hda : b.r.da.length ≤ 140737488355328) :
    Calls Tryz.prog 50 #[ptV G] w (BrStep B G O p z1 z2 (nextBR p b b.r) w) := by
  have H0 := keepHid h
  obtain ⟨⟨vb, Ad, cd, h1, h2, h3, h4, h5⟩, a1, a2, a3, a4, a5, a6, a7, a8, a9, d1, b1, b2⟩ := h
  obtain ⟨G2, O2, rfl, hr, h6, h7⟩ := h5 hov
  have g3 : w.cell? ⟨G, 3, none⟩ = some (ptV G2) := h1.cell 3
  have HDN := keepHid (done_rcv hr)
  have HS := keepHid hS
  have HP := keepHid hp
  by_cases ho : b.r.ov = true
  · by_cases he : b.r.er = 0
    · have e0 : errV b.r.er = .nilIface := by unfold errV; rw [if_pos he]
      rw [ho, e0] at HDN
      have HDT : Hid (Calls Tryz.prog 49 #[ptV G2] w.drew fun e w2 => ∃ A c, e = .returned (.slice A b.r.da.length c) ∧ Calls Tryz.prog 66 #[ptV G, .slice A b.r.da.length c] w2 (BrStep B G O p z1 z2 (nextBR p b b.r) w)) := keepHid (by
        refine (data_rcv hr.drew hda).mono ?_
        rintro e w2 ⟨A, c, rfl, ho2, hc1, hc2, hb2⟩
        have hbw : Below w.heap.size w w2 := (Below.drew (Below.refl _ _)).trans hb2
        refine ⟨A, c, rfl, ?_⟩
        rw [next_tak p b hov ho he a7]
        exact btake_any HP.out H0.out hov hbw (HS.out.below hbw) A _ c b.r.da (ho2.bys (by omega)) hc1 hc2 (fun ad e => ⟨(own_of ho2 ad e).1, own_lt ho2 ad e⟩))
      generalize b.r.da.length = n at *
      unfold ptV at *
      have g3' : w.drew.cell? ⟨G, 3, none⟩ = some (.pointer (some ⟨G2, 0, none⟩)) := g3
      clear h1 h2 h3 h4 h5 a1 a2 a3 a4 a5 a6 a7 a8 a9 d1 b1 b2 hr h6 h7 hov ho he e0 hS hp hda
      go_enter Tryz.func50, Tryz.ntmps50
      go_wp2_with (go_at_call 48; (with_reducible refine HDN.out.mono ?_); rintro e w2 ⟨rfl, rfl⟩)
      (with_reducible refine HDT.out.mono ?_)
      rintro e w2 ⟨A2, c2, rfl, ht2⟩
      have HT2 := keepHid ht2
      clear ht2
      go_wp2_with fail
      (with_reducible refine HT2.out.mono ?_)
      rintro e w5 ⟨rfl, hp5⟩
      have HP5 := keepHid hp5
      clear hp5
      go_wp2
      refine bodyPost_end (results_none rfl _ _ _) rfl ?_
      exact ⟨rfl, HP5.out⟩
    · obtain ⟨t, u, e0⟩ : ∃ t u, errV b.r.er = .iface t u := by unfold errV; rw [if_neg he]; exact ⟨_, _, rfl⟩
      have HST : Hid (Calls Tryz.prog 65 #[.pointer (some ⟨G, 0, none⟩), .iface t u] w.drew (BrStep B G O p z1 z2 (nextBR p b b.r) w)) := keepHid (by
        have e1 : nextBR p b b.r = { b with r := b.r, ov := true, er := b.r.er } := by unfold nextBR; rw [if_pos ho, if_pos he]
        rw [e1, ← e0]
        exact (bstop_any H0.out.drew b.r.er b.r H0.out.r0).mono fun _ _ h => h.of (Turn.drew (Turn.refl _ w)) (fun i hi => .inl hi))
      rw [ho, e0] at HDN
      unfold ptV at *
      clear h1 h2 h3 h4 h5 a1 a2 a3 a4 a5 a6 a7 a8 a9 d1 b1 b2 hr h6 h7 hov ho he e0 hS hp hda
      go_enter Tryz.func50, Tryz.ntmps50
      go_wp2_with (go_at_call 48; (with_reducible refine HDN.out.mono ?_); rintro e w2 ⟨rfl, rfl⟩)
      (with_reducible refine HST.out.mono ?_)
      rintro e w5 ⟨rfl, hp5⟩
      have HP5 := keepHid hp5
      clear hp5
      go_wp2
      refine bodyPost_end (results_none rfl _ _ _) rfl ?_
      exact ⟨rfl, HP5.out⟩
  · have ho' : b.r.ov = false := by simpa using ho
    have he : b.r.er = 0 := a5 ho'
    have e0 : errV b.r.er = .nilIface := by unfold errV; rw [if_pos he]
    rw [ho', e0] at HDN
    have HFIN : Hid (BrStep B G O p z1 z2 (nextBR p b b.r) w (.returned (.tuple #[])) w.drew) := keepHid (by
      have e1 : nextBR p b b.r = b := by unfold nextBR; rw [if_neg ho]
      rw [e1]
      exact ⟨rfl, O, H0.out.drew, Turn.drew (Turn.refl _ w), fun i hi => .inl hi⟩)
    unfold ptV at *
    clear h1 h2 h3 h4 h5 a1 a2 a3 a4 a5 a6 a7 a8 a9 d1 b1 b2 hr h6 h7 hov ho he e0 hS hp hda ho'
    go_enter Tryz.func50, Tryz.ntmps50
    go_wp2_with (go_at_call 48; (with_reducible refine HDN.out.mono ?_); rintro e w2 ⟨rfl, rfl⟩)
    refine bodyPost_end (results_none rfl _ _ _) rfl ?_
    exact HFIN.out


theorem nextBR_r (p : BP Fl) (b : Br Fl) (r : Rd) : nextBR p { b with r := r } r = nextBR p b r := by
  obtain ⟨k, r0, ov, er, fi, da⟩ := b
  rfl
theorem turn_more' {S T : Nat → Prop} {w0 w w' : World} (h : Turn T w0 w) (k : Turn S w w') (hS : ∀ i, S i → T i ∨ w0.heap.size ≤ i) : Turn T w0 w' :=
  ⟨k.os.trans h.os, k.tape.trans h.tape, k.output.trans h.output, Nat.le_trans h.size k.size, fun i hi hn => (k.block i (Nat.lt_of_lt_of_le hi h.size) (fun hs => by
    rcases hS i hs with a | a
    · exact hn a
    · omega)).trans (h.block i hi hn)⟩
/-- What an exported call of a receiver of files leaves. -/
def BrPost (B G : Nat) (O : Nat → Prop) (p : BP Fl) (z1 z2 : Int) (r : List UInt8 × Br Fl) (w : World) (e : Ending) (w' : World) : Prop :=
  ∃ A c O', e = .returned (.slice A r.1.length c) ∧ OwnB w' w.heap.size 5 (.slice A r.1.length c) r.1.length r.1 ∧ r.1.length ≤ c ∧ c ≤ 9223372036854775807 ∧ Turn O w w' ∧ Brv w' B G O' p z1 z2 r.2 ∧
    (∀ i, O' i → O i ∨ w.heap.size ≤ i) ∧ ∀ ad, A = some ad → ¬ O' ad.block
/-- Behind what the part at work answers, it is looked at what it brought. -/
theorem brecv_step {w0 w w1 : World} {B G : Nat} {O : Nat → Prop} {p : BP Fl} (hp : Rdr p) {z1 z2 : Int} {b : Br Fl} (h : Brv w B G O p z1 z2 b) (hov : b.ov = false) (hS : Std w0 w) (hB : w0.heap.size ≤ B) {vb : Value} {Ad : Option Addr} {cd : Nat} {G2 : Nat} {O2 : Nat → Prop}
    (hv : vb = ptV G2) (hk : Blk w G 102 (brC z1 z2 (ptB b) vb (b.fi.getD fl0) (.slice Ad b.da.length cd) (errV b.er))) (hy : Bys w w.heap.size Ad b.da.length b.da) (hcd : b.da.length ≤ cd) (hAd : ∀ ad, Ad = some ad → O ad.block ∧ ad.block ≠ G) (hO2 : ∀ i, O2 i → O i ∧ i ≠ G) (hA2 : ∀ ad, Ad = some ad → ¬ O2 ad.block)
    {r : List UInt8 × Rd} {e : Ending} (hr0 : R0 r.2) (hda : r.2.da.length ≤ 140737488355328) (ho : RPost B G2 O2 true (clB b.k) p.W r w e w1) :
    ∃ A c, e = .returned (.slice A r.1.length c) ∧ Calls Tryz.prog 50 #[ptV G] w1 fun e2 w2 => e2 = .returned (.tuple #[]) ∧ BrPost B G O p z1 z2 (r.1, nextBR p b r.2) w (.returned (.slice A r.1.length c)) w2 := by
  obtain ⟨A, c, O3, e1, e2, e3, e4, e5, e6, e7, e8⟩ := ho
  have hG2 : O2 G → False := fun hh => (hO2 G hh).2 rfl
  have hs := e5.size
  have hAO : ∀ ad, A = some ad → w.heap.size ≤ ad.block ∧ ad.block < w1.heap.size := fun ad ea => ⟨(own_of e2 ad ea).1, own_lt e2 ad ea⟩
  have t1 : Turn O w w1 := e5.mono fun i hi => (hO2 i hi).1
  have h1 : Brv w1 B G (fun i => O i ∨ O3 i) p z1 z2 { b with r := r.2 } := by
    refine ⟨⟨vb, Ad, cd, e5.blk hk hG2, (hy.turn e5 (Nat.le_refl _) (fun _ => hA2)).more hs, hcd, fun ad ea => ⟨.inl (hAd ad ea).1, (hAd ad ea).2⟩, fun _ => ⟨G2, O3, hv, e6, fun i hi => ⟨.inr hi, ?_⟩, fun ad ea hh => ?_⟩⟩, .inl h.g, ?_, ?_, h.k2, hr0, h.er, h.fi, h.may, h.da, h.d01, h.T, h.W⟩
    · rcases e7 i hi with hh | hh
      · exact (hO2 i hh).2
      · have := h.lt G h.g; omega
    · rcases e7 _ hh with h2 | h2
      · exact hA2 ad ea h2
      · have := h.lt _ (hAd ad ea).1; omega
    · rintro i (hi | hi)
      · have := h.lt i hi; omega
      · exact e6.lt i hi
    · rintro i (hi | hi)
      · exact h.ge i hi
      · exact e6.ge i hi
  have hS1 : Std w0 w1 := hS.turn e5 (fun i hi => Nat.le_trans hB (h.ge i (hO2 i hi).1))
  refine ⟨A, c, e1, (brproceed_any hp h1 hov hS1 hda).mono ?_⟩
  rintro e2' w2 ⟨f1, O4, f2, f3, f4⟩
  rw [nextBR_r] at f2
  refine ⟨f1, A, c, O4, rfl, own_keepB e2 f3 (fun ad ea hh => ?_), e3, e4, turn_more' t1 f3 (fun i hi => ?_), f2, fun i hi => ?_, fun ad ea hh => ?_⟩
  · rcases hh with hh | hh
    · have := h.lt _ hh; have := (hAO ad ea).1; omega
    · exact e8 ad ea hh
  · rcases hi with hi | hi
    · exact .inl hi
    · rcases e7 i hi with hh | hh
      · exact .inl (hO2 i hh).1
      · exact .inr hh
  · rcases f4 i hi with (hh | hh) | hh
    · exact .inl hh
    · rcases e7 i hh with h2 | h2
      · exact .inl (hO2 i h2).1
      · exact .inr h2
    · exact .inr (Nat.le_trans hs hh)
  · rcases f4 _ hh with (h2 | h2) | h2
    · have := h.lt _ h2; have := (hAO ad ea).1; omega
    · exact e8 ad ea h2
    · have := (hAO ad ea).2; omega
/-- The receiver at work, and a file's bytes, in memory. -/
theorem Brv.open_ {w : World} {B G : Nat} {O : Nat → Prop} {p : BP Fl} {z1 z2 : Int} {b : Br Fl} (h : Brv w B G O p z1 z2 b) (hov : b.ov = false) : ∃ vb Ad cd G2 O2, vb = ptV G2 ∧ Blk w G 102 (brC z1 z2 (ptB b) vb (b.fi.getD fl0) (.slice Ad b.da.length cd) (errV b.er)) ∧ Bys w w.heap.size Ad b.da.length b.da ∧ b.da.length ≤ cd ∧
    (∀ ad, Ad = some ad → O ad.block ∧ ad.block ≠ G) ∧ (∀ i, O2 i → O i ∧ i ≠ G) ∧ (∀ ad, Ad = some ad → ¬ O2 ad.block) ∧ Rcv w B G2 O2 true (clB b.k) p.W b.r := by
  obtain ⟨⟨vb, Ad, cd, h1, h2, h3, h4, h5⟩, _⟩ := h
  obtain ⟨G2, O2, e1, e2, e3, e4⟩ := h5 hov
  exact ⟨vb, Ad, cd, G2, O2, e1, h1, h2, h3, h4, e3, e4, e2⟩
theorem Brv.over {w : World} {B G : Nat} {O : Nat → Prop} {p : BP Fl} {z1 z2 : Int} {b : Br Fl} (h : Brv w B G O p z1 z2 b) : w.cell? ⟨G, 2, none⟩ = some (.int .i64 (ptB b : Int)) ∧ w.cell? ⟨G, 9, none⟩ = some (errV b.er) := by
  obtain ⟨⟨vb, Ad, cd, h1, _⟩, _⟩ := h
  exact ⟨h1.cell 2, h1.cell 9⟩
theorem pt_ov {b : Br Fl} (h : b.ov = true) : ptB b = 0 := by unfold ptB; rw [if_pos h]
theorem pt_in {b : Br Fl} (h : b.ov = false) : ptB b = b.k + 1 := by unfold ptB; rw [h]; rfl

set_option maxRecDepth 100000 in
set_option maxHeartbeats 4000000 in
theorem brput_any {w0 w : World} {B G : Nat} {O : Nat → Prop} {p : BP Fl} (hp : Rdr p) {z1 z2 : Int} {b : Br Fl} (h : Brv w B G O p z1 z2 b) (hS : Std w0 w) (hB : w0.heap.size ≤ B) (A : Option Addr) (n c : Nat) (x : List UInt8) (hx : Bys w w.heap.size A n x) (hap : Apart O A n) (hn : b.r.da.length + 1024 ≤ 1000000000) (hbl : -1000000000 < b.r.bl) (hbm : b.r.bu.length + n ≤ 1000000000) (hda : (putR true (clB b.k) p.W b.r x).2.da.length ≤ 1000000000) :
    Calls Tryz.prog 34 #[ptV G, .slice A n c] w (BrPost B G O p z1 z2 (putBR p b x) w) := by
  obtain ⟨g2, g9⟩ := h.over
  unfold putBR
  cases hov : b.ov
  · rw [if_neg (by simp)]
    obtain ⟨vb, Ad, cd, G2, O2, hv, hk, hy, hcd, hAd, hO2, hA2, hr⟩ := h.open_ hov
    have g3 : w.cell? ⟨G, 3, none⟩ = some vb := hk.cell 3
    rw [pt_in hov] at g2
    rw [hv] at g3
    have i0 : (((b.k + 1 : Nat) : Int) == 0) = false := by simp; omega
    have HPT : Hid (Calls Tryz.prog 35 #[ptV G2, .slice A n c] w fun e w1 => ∃ A c', e = .returned (.slice A (putR true (clB b.k) p.W b.r x).1.length c') ∧ Calls Tryz.prog 50 #[ptV G] w1 fun e2 w2 => e2 = .returned (.tuple #[]) ∧
        BrPost B G O p z1 z2 ((putR true (clB b.k) p.W b.r x).1, nextBR p b (putR true (clB b.k) p.W b.r x).2) w (.returned (.slice A (putR true (clB b.k) p.W b.r x).1.length c')) w2) := keepHid (by
      refine (put_rcv hr A n c w.heap.size x hx (Nat.le_refl _) (fun hn ad ea hh => hap hn ad ea (by rw [hh]; exact (hO2 _ hr.g).1)) (by omega) (by omega) (by omega)).mono ?_
      exact fun e w1 ho => brecv_step hp h hov hS hB hv hk hy hcd hAd hO2 hA2 (r0_put x h.r0) (by omega) ho)
    generalize putR true (clB b.k) p.W b.r x = r at *
    obtain ⟨kk, hkk⟩ : ∃ kk, b.k + 1 = kk := ⟨_, rfl⟩
    rw [hkk] at g2 i0
    unfold ptV at *
    clear hkk h hx hap hv hk hy hcd hAd hO2 hA2 hr g9 hS hov
    go_enter Tryz.func34, Tryz.ntmps34
    go_wp2_with fail
    (with_reducible refine HPT.out.mono ?_)
    rintro e w1 ⟨A1, c1, rfl, hpr⟩
    have HPR := keepHid hpr
    clear hpr
    go_wp2_with fail
    (with_reducible refine HPR.out.mono ?_)
    rintro e w2 ⟨rfl, hp2⟩
    have HP2 := keepHid hp2
    clear hp2
    go_wp2
    go_ret
    exact HP2.out
  · rw [if_pos rfl]
    rw [pt_ov hov] at g2
    have HFIN : Hid (BrPost B G O p z1 z2 ([], b) w (.returned (.slice none 0 0)) w) := keepHid ⟨none, 0, O, rfl, World.ownsRow_nil _ _ _ _, Nat.le_refl _, by omega, Turn.refl _ w, h, fun i hi => .inl hi, fun ad e => by cases e⟩
    unfold ptV
    have g2' : w.cell? ⟨G, 2, none⟩ = some (.int .i64 0) := g2
    clear h hx hap hS hov g2 g9
    go_enter Tryz.func34, Tryz.ntmps34
    go_wp2
    go_ret
    exact HFIN.out
set_option maxRecDepth 100000 in
set_option maxHeartbeats 4000000 in
theorem brtick_any {w0 w : World} {B G : Nat} {O : Nat → Prop} {p : BP Fl} (hp : Rdr p) {z1 z2 : Int} {b : Br Fl} (h : Brv w B G O p z1 z2 b) (hS : Std w0 w) (hB : w0.heap.size ≤ B) (hda : (tickR true p.W b.r).2.da.length ≤ 1000000000) :
    Calls Tryz.prog 31 #[ptV G] w (BrPost B G O p z1 z2 (tickBR p b) w) := by
  obtain ⟨g2, g9⟩ := h.over
  unfold tickBR
  cases hov : b.ov
  · rw [if_neg (by simp)]
    obtain ⟨vb, Ad, cd, G2, O2, hv, hk, hy, hcd, hAd, hO2, hA2, hr⟩ := h.open_ hov
    have g3 : w.cell? ⟨G, 3, none⟩ = some vb := hk.cell 3
    rw [pt_in hov] at g2
    rw [hv] at g3
    have i0 : (((b.k + 1 : Nat) : Int) == 0) = false := by simp; omega
    have HPT : Hid (Calls Tryz.prog 32 #[ptV G2] w fun e w1 => ∃ A c', e = .returned (.slice A (tickR true p.W b.r).1.length c') ∧ Calls Tryz.prog 50 #[ptV G] w1 fun e2 w2 => e2 = .returned (.tuple #[]) ∧
        BrPost B G O p z1 z2 ((tickR true p.W b.r).1, nextBR p b (tickR true p.W b.r).2) w (.returned (.slice A (tickR true p.W b.r).1.length c')) w2) := keepHid (by
      refine (tick_rcv hr).mono ?_
      exact fun e w1 ho => brecv_step hp h hov hS hB hv hk hy hcd hAd hO2 hA2 (r0_tick h.r0) (by omega) ho)
    generalize tickR true p.W b.r = r at *
    obtain ⟨kk, hkk⟩ : ∃ kk, b.k + 1 = kk := ⟨_, rfl⟩
    rw [hkk] at g2 i0
    unfold ptV at *
    clear hkk h hv hk hy hcd hAd hO2 hA2 hr g9 hS hov
    go_enter Tryz.func31, Tryz.ntmps31
    go_wp2_with fail
    (with_reducible refine HPT.out.mono ?_)
    rintro e w1 ⟨A1, c1, rfl, hpr⟩
    have HPR := keepHid hpr
    clear hpr
    go_wp2_with fail
    (with_reducible refine HPR.out.mono ?_)
    rintro e w2 ⟨rfl, hp2⟩
    have HP2 := keepHid hp2
    clear hp2
    go_wp2
    go_ret
    exact HP2.out
  · rw [if_pos rfl]
    rw [pt_ov hov] at g2
    have HFIN : Hid (BrPost B G O p z1 z2 ([], b) w (.returned (.slice none 0 0)) w) := keepHid ⟨none, 0, O, rfl, World.ownsRow_nil _ _ _ _, Nat.le_refl _, by omega, Turn.refl _ w, h, fun i hi => .inl hi, fun ad e => by cases e⟩
    unfold ptV
    have g2' : w.cell? ⟨G, 2, none⟩ = some (.int .i64 0) := g2
    clear h hS hov g2 g9
    go_enter Tryz.func31, Tryz.ntmps31
    go_wp2
    go_ret
    exact HFIN.out
theorem brdone_any {w : World} {B G : Nat} {O : Nat → Prop} {p : BP Fl} {z1 z2 : Int} {b : Br Fl} (h : Brv w B G O p z1 z2 b) :
    Calls Tryz.prog 46 #[ptV G] w fun e w' => e = .returned (.tuple #[.bool b.ov, errV b.er]) ∧ w' = w.drew := by
  obtain ⟨g2, g9⟩ := h.over
  have hn : ((ptB b : Int) == 0) = b.ov := by
    cases hb : b.ov
    · rw [pt_in hb]; simp; omega
    · rw [pt_ov hb]; rfl
  obtain ⟨ov, hov⟩ : ∃ ov, b.ov = ov := ⟨_, rfl⟩
  rw [hov] at hn
  rw [hov]
  generalize ptB b = k at *
  clear h hov
  unfold ptV
  rcases errV_or b.er with e | ⟨t, u, e⟩
  all_goals
    rw [e] at g9 ⊢
    clear e
    go_enter Tryz.func46, Tryz.ntmps46
    go_upto_region 1 with fail
    go_region
    go_wp2
    go_ret2
    exact ⟨rfl, rfl⟩
/-- The file's bytes, in a row of the call's own. -/
theorem brdata_any {w : World} {B G : Nat} {O : Nat → Prop} {p : BP Fl} {z1 z2 : Int} {b : Br Fl} (h : Brv w B G O p z1 z2 b) :
    Calls Tryz.prog 47 #[ptV G] w (RetB w b.da) := by
  have hd := h.da
  obtain ⟨⟨vb, Ad, cd, h1, h2, h3, _⟩, _⟩ := h
  have g8 : w.cell? ⟨G, 8, none⟩ = some (.slice Ad b.da.length cd) := h1.cell 8
  have HC := keepHid (clone_any Ad b.da.length cd w.heap.size b.da w h2 (by omega))
  generalize b.da.length = n at *
  generalize b.da = d at *
  clear h1 h2 h3
  unfold ptV
  go_enter Tryz.func47, Tryz.ntmps47
  go_wp2_with (go_at_call 64; (with_reducible refine HC.out.mono ?_); rintro e w5 ⟨A5, c5, rfl, hp5⟩; have HP5 := keepHid hp5; clear hp5)
  go_ret
  exact ⟨A5, c5, rfl, HP5.out⟩
/-- A receiver is made. -/
theorem brtake_any {w : World} (p : BP Fl) (z1 z2 : Int) (hT : capZ z1 9 = p.T) (hW : capZ z2 99 = p.W) :
    Calls Tryz.prog 58 #[.agg #[.int .i64 z1, .int .i64 z2]] w fun e w' => ∃ G O, e = .returned (ptV G) ∧ Brv w' w.heap.size G O p z1 z2 (newBR p) ∧ Below w.heap.size w w' := by
  obtain ⟨w1, hw1⟩ : ∃ w1, w.alloc (.cells #[.int .i64 z1, .int .i64 z2] 23) = w1 := ⟨_, rfl⟩
  obtain ⟨w2, hw2⟩ : ∃ w2, w1.alloc (.cells #[.int .i64 z1, .int .i64 z2, .int .i64 0, .pointer none, .string ⟨#[]⟩, .int .i64 0, .int .i64 0, .int .i64 0, .slice none 0 0, .nilIface] 102) = w2 := ⟨_, rfl⟩
  have hb1 : Below w.heap.size w w1 := by rw [← hw1]; exact (Below.refl _ _).alloc (Nat.le_refl _) _
  have hk1 : Blk w1 w.heap.size 23 #[.int .i64 z1, .int .i64 z2] := by rw [← hw1]; exact Blk.new w _ _
  have a0 : w1.cell? ⟨w.heap.size, 0, none⟩ = some (.int .i64 z1) := hk1.cell 0
  have a1 : w1.cell? ⟨w.heap.size, 1, none⟩ = some (.int .i64 z2) := hk1.cell 1
  have hs1 := hb1.size
  have hb2 : Below w.heap.size w w2 := by rw [← hw2]; exact hb1.alloc hs1 _
  have hk2 : Blk w2 w1.heap.size 102 #[.int .i64 z1, .int .i64 z2, .int .i64 0, .pointer none, .string ⟨#[]⟩, .int .i64 0, .int .i64 0, .int .i64 0, .slice none 0 0, .nilIface] := by rw [← hw2]; exact Blk.new w1 _ _
  have HBG : Hid (Calls Tryz.prog 73 #[.pointer (some ⟨w1.heap.size, 0, none⟩), .int .i64 1] w2 fun e w' => e = .returned (.tuple #[]) ∧ ∃ O, Brv w' w.heap.size w1.heap.size O p z1 z2 (newBR p) ∧ Below w.heap.size w w') := keepHid (by
    refine (bbegin_any z1 z2 0 (by omega) 1 rfl hk2).mono ?_
    rintro e w' ⟨e1, G2, e2, e3, e4, e5⟩
    have hlt := hk2.lt
    have hs5 := e5.size
    rw [hW, hT] at e4
    have e6 := e4.lt _ rfl
    have hsz := hb2.size
    refine ⟨e1, fun i => i = w1.heap.size ∨ i = G2, ⟨⟨ptV G2, none, 0, e3, Bys.none_, Nat.le_refl _, (fun ad e => by cases e), fun _ => ⟨G2, fun i => i = G2, rfl, ?_, fun i hi => ⟨.inr hi, by omega⟩, (fun ad e => by cases e)⟩⟩, .inl rfl, ?_, ?_, Nat.zero_le _, r0_new _ _ _, fun _ => rfl, fun hh => absurd rfl hh, (fun f hf => by cases hf), Nat.zero_le _, fun _ => rfl, hT, hW⟩, hb2.trans (e5.below (fun i hi => by omega) hsz)⟩
    · obtain ⟨⟨vb, vd, m1, m2, m3, m4, m5⟩, hg, hl, hge, r1, r2, r3, r4, r5, r6⟩ := e4
      exact ⟨⟨vb, vd, m1, own_lower m2 (by omega), own_lower m3 (by omega), m4, m5⟩, hg, hl, fun i hi => by have := hge i hi; omega, r1, r2, r3, r4, r5, r6⟩
    · rintro i (rfl | rfl) <;> omega
    · rintro i (rfl | rfl) <;> omega)
  have HW2 := keepHid hw2
  clear hb1 hk1 hs1 hb2 hk2 hw2
  go_enter Tryz.func58, Tryz.ntmps58
  go_wp2_with (go_at_call 73; fail)
  rw [HW2.out]
  (with_reducible refine HBG.out.mono ?_)
  rintro e w' ⟨rfl, O, hp⟩
  have HP := keepHid hp
  clear hp
  go_wp2
  go_ret
  exact ⟨_, O, rfl, HP.out⟩
end Go.Proofs.YtonloefjhofeeaaGreatDoor
