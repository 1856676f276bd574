/-
  A receiver takes a block.
-/
import Derived.Test.YtgdjopiejmdbnaaGreatDoorReceiver
import Derived.Deep.RegionLaw
import Derived.Lib.QuietBelow
namespace Go.Proofs.YtgdjopiejmdbnaaGreatDoor
open Go.RowKit
set_option linter.unusedVariables false

/-- 'append' onto bytes of the call's own, as one step of a region that draws. -/
theorem step_append_bytes {ops : Array Oper} {o : Oper} {a : Act} {w : World} {K : Act → World → Prop} {Q : Exit → Act → World → Prop} {E : Prop} (hg : o.guard = none) (s x : Operand)
    (ho : o.op = .call { callee := .builtin .append, args := #[s, x], argTypes := #[24, 24] })
    (base : Nat) (v : Value) (n : Nat) (xs : List UInt8) (hs : a.eval s = v) (hown : OwnB w base 5 v n xs)
    (B : Nat) (A : Option Addr) (m c : Nat) (bs : List UInt8) (hx : a.eval x = .slice A m c) (hb : Bys w B A m bs)
    (hnm : n + m ≤ 140737488355328) (hbase : base ≤ w.heap.size)
    (h : ∀ A' cap' w', OwnB w' base 5 (.slice A' (n + m) cap') (n + m) (xs ++ bs) → Turn (fun i => v.ownBlock = some i) w w' → ((Value.slice A' (n + m) cap').ownBlock = v.ownBlock ∨ (Value.slice A' (n + m) cap').ownBlock = some w.heap.size) →
      K (a.put o.dst (.slice A' (n + m) cap')) w') :
    if Region.wanted o (yielded ops a.tmps) = true then Oper.wp Tryz.prog o a w K Q else E := by
  have hw : Region.wanted o (yielded ops a.tmps) = true := by simp [Region.wanted, hg]
  rw [if_pos hw]
  exact wp_append_bytes w s x 24 ho base 5 byteT v n xs hs hown B A m c bs hx hb _ rfl hnm hbase fun A' cap' w' h2 h3 h4 _ _ => h A' cap' w' h2 h3 h4

/-- One cell of the receiver's is written, no slice. -/
theorem Rcv.put_ {w : World} {B G W : Nat} {O : Nat → Prop} {crc cl : Bool} {s s' : Rd} (h : Rcv w B G O crc cl W s) (i : Nat) (u : Value) (hc : ∀ vb vd, (rcvC crc cl W vb vd s).setIfInBounds i u = rcvC crc cl W vb vd s') (hbu : s'.bu = s.bu) (hda : s'.da = s.da)
    (t1 : 1 ≤ s'.tk) (t99 : s'.tk ≤ 99) (tr : s'.tr ≤ 9) (bl : s'.bl ≤ 9223372036854775807) : Rcv (w.setCell ⟨G, i, none⟩ u) B G O crc cl W s' := by
  obtain ⟨⟨vb, vd, h1, h2, h3, h4, h5⟩, hg, hl, hge, a1, a2, a3, a4, a5, a6⟩ := h
  have t : Turn (fun b => b = G) w (w.setCell ⟨G, i, none⟩ u) := turnAt _ _ (Turn.refl _ w)
  refine ⟨⟨vb, vd, by rw [← hc]; exact h1.put i u, ?_, ?_, h4, h5⟩, hg, fun j hj => Nat.lt_of_lt_of_le (hl j hj) t.size, hge, a1, a2, t1, t99, tr, bl⟩
  · rw [hbu]; exact h2.keep fun j hj hlt => t.block j hlt (h4 j hj).2.1
  · rw [hda]; exact h3.keep fun j hj hlt => t.block j hlt (h5 j hj).2
theorem Rcv.turnO {w : World} {B G W : Nat} {O : Nat → Prop} {crc cl : Bool} {s : Rd} (h : Rcv w B G O crc cl W s) (i : Nat) (u : Value) : Turn O w (w.setCell ⟨G, i, none⟩ u) := (turnAt i u (Turn.refl _ w)).mono (fun j hj => by rw [hj]; exact h.g)
/-- The bytes that wait are thrown away. -/
theorem Rcv.drop_ {w : World} {B G W : Nat} {O : Nat → Prop} {crc cl : Bool} {s : Rd} (h : Rcv w B G O crc cl W s) : Rcv (w.setCell ⟨G, 7, none⟩ (.slice none 0 0)) B G O crc cl W { s with bu := [] } := by
  obtain ⟨⟨vb, vd, h1, h2, h3, h4, h5⟩, hg, hl, hge, a1, a2, a3, a4, a5, a6⟩ := h
  have t : Turn (fun b => b = G) w (w.setCell ⟨G, 7, none⟩ (.slice none 0 0)) := turnAt _ _ (Turn.refl _ w)
  exact ⟨⟨.slice none 0 0, vd, h1.put 7 _, World.ownsRow_nil _ _ _ _, h3.keep fun j hj hlt => t.block j hlt (h5 j hj).2, fun j hj => by simp [Value.ownBlock] at hj, h5⟩, hg, fun j hj => Nat.lt_of_lt_of_le (hl j hj) t.size, hge, a1, a2, a3, a4, a5, a6⟩
/-- What an append of bytes to the receiver's row leaves. -/
def Grew (w : World) (B : Nat) (v : Value) (n : Nat) (xs : List UInt8) (A : Option Addr) (m c : Nat) (bs : List UInt8) (w' : World) : Prop :=
  OwnB w' B 5 (.slice A (n + m) c) (n + m) (xs ++ bs) ∧ Turn (fun i => v.ownBlock = some i) w w' ∧ ((Value.slice A (n + m) c).ownBlock = v.ownBlock ∨ (Value.slice A (n + m) c).ownBlock = some w.heap.size)
theorem Grew.lt {w w' : World} {B n m c : Nat} {v : Value} {xs bs : List UInt8} {A : Option Addr} (h : Grew w B v n xs A m c bs w') : ∀ i, (Value.slice A (n + m) c).ownBlock = some i → i < w'.heap.size ∧ B ≤ i := by
  intro i hi
  rcases h.1.form with ⟨A', c', e, _, _, rfl | ⟨g, rfl, hb, hg⟩⟩
  · injection e with e1; subst e1; simp [Value.ownBlock] at hi
  · injection e with e1; subst e1; simp [Value.ownBlock] at hi; subst hi; exact ⟨hg, hb⟩
theorem grew_data {w : World} {B G W : Nat} {O : Nat → Prop} {crc cl : Bool} {s : Rd} (h : Rcv w B G O crc cl W s) (d : List UInt8) (m : Nat) (hm : d.length = m) :
    ∃ A c, w.cell? ⟨G, 8, none⟩ = some (.slice A s.da.length c) ∧ OwnB w B 5 (.slice A s.da.length c) s.da.length s.da ∧
      ∀ A' c' w2, Grew w B (.slice A s.da.length c) s.da.length s.da A' m c' d w2 → w2.cell? ⟨G, 8, none⟩ = some (.slice A s.da.length c) ∧ (∀ i, w2.frozen? ⟨G, i, none⟩ = false) ∧
        ∃ O', Rcv (w2.setCell ⟨G, 8, none⟩ (.slice A' (s.da.length + m) c')) B G O' crc cl W { s with da := s.da ++ d } ∧ Turn O w (w2.setCell ⟨G, 8, none⟩ (.slice A' (s.da.length + m) c')) ∧ (∀ i, O' i → O i ∨ w.heap.size ≤ i) := by
  subst hm
  obtain ⟨⟨vb, vd, h1, h2, h3, h4, h5⟩, hg, hl, hge, a1, a2, a3, a4, a5, a6⟩ := h
  obtain ⟨Ad, cd, rfl⟩ := len_sl h3
  refine ⟨Ad, cd, h1.cell 8, h3, fun A' c' w2 hgr => ?_⟩
  have hlt := hgr.lt
  obtain ⟨g1, g2, g3⟩ := hgr
  have k2 : Blk w2 G _ _ := g2.blk h1 (fun e => (h5 _ e).2 rfl)
  have t2 : Turn (fun b => b = G) w2 (w2.setCell ⟨G, 8, none⟩ (.slice A' (s.da.length + d.length) c')) := turnAt _ _ (Turn.refl _ w2)
  have hnew : ∀ i, (Value.slice A' (s.da.length + d.length) c').ownBlock = some i → i ≠ G ∧ vb.ownBlock ≠ some i := fun i hi => by
    rcases g3 with e | e
    · rw [hi] at e; exact ⟨(h5 i e.symm).2, fun hb => (h4 i hb).2.2 e.symm⟩
    · rw [hi] at e
      obtain rfl := Option.some.inj e
      exact ⟨fun e => by have := hl G hg; omega, fun hb => by have := hl _ (h4 _ hb).1; omega⟩
  refine ⟨k2.cell 8, k2.frozen, fun i => O i ∨ (Value.slice A' (s.da.length + d.length) c').ownBlock = some i, ?_, (g2.mono (fun i hi => (h5 i hi).1)).trans (t2.mono (fun i hi => by rw [hi]; exact hg)), fun i hi => ?_⟩
  · refine ⟨⟨vb, .slice A' (s.da.length + d.length) c', ?_, ?_, ?_, fun i hi => ⟨.inl (h4 i hi).1, (h4 i hi).2.1, fun e => (hnew i e).2 hi⟩, fun i hi => ⟨.inr hi, (hnew i hi).1⟩⟩, .inl hg, fun i hi => ?_, fun i hi => ?_, a1, a2, a3, a4, a5, a6⟩
    · have := k2.put 8 (.slice A' (s.da.length + d.length) c')
      exact this
    · exact (h2.keep fun i hi hlt => g2.block i hlt (fun e => (h4 i hi).2.2 e)).keep fun i hi hlt => t2.block i hlt (h4 i hi).2.1
    · show OwnB _ B _ _ (s.da ++ d).length (s.da ++ d)
      rw [List.length_append]
      exact g1.keep fun i hi hlt => t2.block i hlt (hnew i hi).1
    · rcases hi with hi | hi
      · exact Nat.lt_of_lt_of_le (hl i hi) (Nat.le_trans g2.size t2.size)
      · exact Nat.lt_of_lt_of_le (hlt i hi).1 t2.size
    · rcases hi with hi | hi
      · exact hge i hi
      · exact (hlt i hi).2
  · rcases hi with hi | hi
    · exact .inl hi
    · rcases g3 with e | e
      · rw [hi] at e; exact .inl (h5 i e.symm).1
      · rw [hi] at e; exact .inr (by rw [Option.some.inj e]; exact Nat.le_refl _)
theorem grew_buf {w : World} {B G W : Nat} {O : Nat → Prop} {crc cl : Bool} {s : Rd} (h : Rcv w B G O crc cl W s) (d : List UInt8) (m : Nat) (hm : d.length = m) :
    ∃ A c, w.cell? ⟨G, 7, none⟩ = some (.slice A s.bu.length c) ∧ OwnB w B 5 (.slice A s.bu.length c) s.bu.length s.bu ∧
      ∀ A' c' w2, Grew w B (.slice A s.bu.length c) s.bu.length s.bu A' m c' d w2 → w2.cell? ⟨G, 7, none⟩ = some (.slice A s.bu.length c) ∧ (∀ i, w2.frozen? ⟨G, i, none⟩ = false) ∧
        ∃ O', Rcv (w2.setCell ⟨G, 7, none⟩ (.slice A' (s.bu.length + m) c')) B G O' crc cl W { s with bu := s.bu ++ d } ∧ Turn O w (w2.setCell ⟨G, 7, none⟩ (.slice A' (s.bu.length + m) c')) ∧ (∀ i, O' i → O i ∨ w.heap.size ≤ i) ∧
          (w2.setCell ⟨G, 7, none⟩ (.slice A' (s.bu.length + m) c')).cell? ⟨G, 7, none⟩ = some (.slice A' (s.bu.length + m) c') ∧ OwnB (w2.setCell ⟨G, 7, none⟩ (.slice A' (s.bu.length + m) c')) B 5 (.slice A' (s.bu.length + m) c') (s.bu.length + m) (s.bu ++ d) := by
  subst hm
  obtain ⟨⟨vb, vd, h1, h2, h3, h4, h5⟩, hg, hl, hge, a1, a2, a3, a4, a5, a6⟩ := h
  obtain ⟨Ab, cb, rfl⟩ := len_sl h2
  refine ⟨Ab, cb, h1.cell 7, h2, fun A' c' w2 hgr => ?_⟩
  have hlt := hgr.lt
  obtain ⟨g1, g2, g3⟩ := hgr
  have k2 : Blk w2 G _ _ := g2.blk h1 (fun e => (h4 _ e).2.1 rfl)
  have t2 : Turn (fun b => b = G) w2 (w2.setCell ⟨G, 7, none⟩ (.slice A' (s.bu.length + d.length) c')) := turnAt _ _ (Turn.refl _ w2)
  have hnew : ∀ i, (Value.slice A' (s.bu.length + d.length) c').ownBlock = some i → i ≠ G ∧ vd.ownBlock ≠ some i := fun i hi => by
    rcases g3 with e | e
    · rw [hi] at e; exact ⟨(h4 i e.symm).2.1, (h4 i e.symm).2.2⟩
    · rw [hi] at e
      obtain rfl := Option.some.inj e
      exact ⟨fun e => by have := hl G hg; omega, fun hb => by have := hl _ (h5 _ hb).1; omega⟩
  refine ⟨k2.cell 7, k2.frozen, fun i => O i ∨ (Value.slice A' (s.bu.length + d.length) c').ownBlock = some i, ?_, (g2.mono (fun i hi => (h4 i hi).1)).trans (t2.mono (fun i hi => by rw [hi]; exact hg)), fun i hi => ?_, ?_, ?_⟩
  · refine ⟨⟨.slice A' (s.bu.length + d.length) c', vd, ?_, ?_, ?_, fun i hi => ⟨.inr hi, (hnew i hi).1, (hnew i hi).2⟩, fun i hi => ⟨.inl (h5 i hi).1, (h5 i hi).2⟩⟩, .inl hg, fun i hi => ?_, fun i hi => ?_, a1, a2, a3, a4, a5, a6⟩
    · have := k2.put 7 (.slice A' (s.bu.length + d.length) c')
      exact this
    · show OwnB _ B _ _ (s.bu ++ d).length (s.bu ++ d)
      rw [List.length_append]
      exact g1.keep fun i hi hlt => t2.block i hlt (hnew i hi).1
    · exact (h3.keep fun i hi hlt => g2.block i hlt (fun e => (h4 i e).2.2 hi)).keep fun i hi hlt => t2.block i hlt (h5 i hi).2
    · rcases hi with hi | hi
      · exact Nat.lt_of_lt_of_le (hl i hi) (Nat.le_trans g2.size t2.size)
      · exact Nat.lt_of_lt_of_le (hlt i hi).1 t2.size
    · rcases hi with hi | hi
      · exact hge i hi
      · exact (hlt i hi).2
  · rcases hi with hi | hi
    · exact .inl hi
    · rcases g3 with e | e
      · rw [hi] at e; exact .inl (h4 i e.symm).1
      · rw [hi] at e; exact .inr (by rw [Option.some.inj e]; exact Nat.le_refl _)
  · exact World.cell?_setCell_same _ _ _ (by rw [k2.cell 7]; rfl)
  · exact g1.keep fun i hi hlt => t2.block i hlt (hnew i hi).1
/-- What a block's taking comes to at its end. -/
theorem fin_post {w w1 : World} {B G W : Nat} {O O1 : Nat → Prop} {crc cl : Bool} {s : Rd} (h : Rcv w1 B G O1 crc cl W s) (ht : Turn O w w1) (hO : ∀ i, O1 i → O i ∨ w.heap.size ≤ i) (g : Nat) (hg : g = w1.heap.size) :
    (cl = false ∧ s.bl ≤ 0 ∧ Calls Tryz.prog 85 #[.pointer (some ⟨G, 0, none⟩), .nilIface, .slice (some ⟨g, 0, none⟩) 1 1] (w1.alloc (.cells #[.int .u8 6] 5)) (RPost B G O crc cl W (finR cl s) w)) ∨
    (cl = false ∧ ¬ s.bl ≤ 0 ∧ RPost B G O crc cl W (finR cl s) w (.returned (.slice (some ⟨g, 0, none⟩) 1 1)) (w1.alloc (.cells #[.int .u8 6] 5))) ∨
    (cl = true ∧ RPost B G O crc cl W (finR cl s) w (.returned (.slice (some ⟨g, 0, none⟩) 1 1)) (w1.alloc (.cells #[.int .u8 6] 5))) := by
  have ha : RPost B G O crc cl W ([6], s) w (.returned (.slice (some ⟨g, 0, none⟩) 1 1)) (w1.alloc (.cells #[.int .u8 6] 5)) := (ack_post h [6] 1 rfl (by omega) _ rfl g hg).of ht hO
  unfold finR
  cases cl
  · by_cases hb : s.bl ≤ 0
    · refine .inl ⟨rfl, hb, ?_⟩
      rw [if_pos ⟨rfl, hb⟩]
      exact (stop_new h 0 .nilIface rfl [6] 1 rfl (by omega) _ rfl g hg).mono fun _ _ h => h.of ht hO
    · refine .inr (.inl ⟨rfl, hb, ?_⟩)
      rw [if_neg (fun e => hb e.2)]
      exact ha
  · refine .inr (.inr ⟨rfl, ?_⟩)
    rw [if_neg (fun e => by cases e.1)]
    exact ha
set_option maxRecDepth 100000 in
set_option maxHeartbeats 4000000 in
theorem take_yes {w : World} {B G W : Nat} {O : Nat → Prop} {crc cl : Bool} {s : Rd} (h : Rcv w B G O crc cl W s) (num : UInt8) (A : Option Addr) (n c Q : Nat) (d : List UInt8) (hd : Bys w Q A n d) (hQ : Q ≤ w.heap.size) (hn : s.da.length + n ≤ 140737488355328) (hbl : -9223372036854775808 < s.bl) (he : num = s.ex) :
    Calls Tryz.prog 102 #[.pointer (some ⟨G, 0, none⟩), .agg #[.int .u8 (num.toNat : Int), .slice A n c]] w (RPost B G O crc cl W (finR cl { s with da := s.da ++ d, ex := s.ex + 1, bl := s.bl - 1 }) w) := by
  subst he
  obtain ⟨wb, hwb⟩ : ∃ wb, w.alloc (.cells #[.int .u8 (s.ex.toNat : Int), .slice A n c] 50) = wb := ⟨_, rfl⟩
  have hbb : Below w.heap.size w wb := by rw [← hwb]; exact (Below.refl _ _).alloc (Nat.le_refl _) _
  have hkb : Blk wb w.heap.size 50 #[.int .u8 (s.ex.toNat : Int), .slice A n c] := by rw [← hwb]; exact Blk.new w _ _
  have b0 : wb.cell? ⟨w.heap.size, 0, none⟩ = some (.int .u8 (s.ex.toNat : Int)) := hkb.cell 0
  have b1 : wb.cell? ⟨w.heap.size, 1, none⟩ = some (.slice A n c) := hkb.cell 1
  have hr := h.below hbb
  have hlow : B ≤ w.heap.size := by have := h.lt G h.g; have := h.ge G h.g; omega
  have HLOW : Hid (B ≤ wb.heap.size) := keepHid (Nat.le_trans hlow hbb.size)
  have HY : Hid (Bys wb.drew.drew Q A n d) := keepHid ((hd.more hQ |>.below hbb |>.drew |>.drew) |> fun hy => by
    exact ((hd.below (hbb.mono hQ)).drew).drew)
  have hdl : d.length = n := hd.len
  obtain ⟨Ad, cd, e8, ho, hgr⟩ := grew_data (w := wb.drew.drew) hr.drew.drew d n hdl
  have e0 : wb.cell? ⟨G, 0, none⟩ = some (.int .u8 (s.ex.toNat : Int)) := by
    obtain ⟨⟨vb, vd, h1, _⟩, _⟩ := hr
    exact h1.cell 0
  obtain ⟨nd, hnd⟩ : ∃ nd, s.da.length = nd := ⟨_, rfl⟩
  rw [hnd] at e8 ho hgr hn
  have e8' : wb.cell? ⟨G, 8, none⟩ = some (.slice Ad nd cd) := e8
  have HO := keepHid ho
  obtain ⟨y, hy⟩ : ∃ y : Nat, (s.ex + 1).toNat = y := ⟨_, rfl⟩
  have hy2 : ((s.ex.toNat : Int) + 1) % 256 = (y : Int) := by
    rw [← hy, UInt8.toNat_add]
    simp
  have hTB : Turn O w wb.drew.drew := Turn.drew (Turn.drew (Turn.of_below hbb))
  have hsz : ∀ i, i ≥ wb.drew.drew.heap.size → w.heap.size ≤ i := fun i hi => Nat.le_trans hbb.size hi
  have HG : Hid (∀ A' c' w2, OwnB w2 B 5 (.slice A' (nd + n) c') (nd + n) (s.da ++ d) → Turn (fun i => (Value.slice Ad nd cd).ownBlock = some i) wb.drew.drew w2 → ((Value.slice A' (nd + n) c').ownBlock = (Value.slice Ad nd cd).ownBlock ∨ (Value.slice A' (nd + n) c').ownBlock = some wb.drew.drew.heap.size) →
      w2.cell? ⟨G, 8, none⟩ = some (.slice Ad nd cd) ∧ w2.frozen? ⟨G, 8, none⟩ = false ∧ ∀ w3, w2.setCell ⟨G, 8, none⟩ (.slice A' (nd + n) c') = w3 → w3.cell? ⟨G, 0, none⟩ = some (.int .u8 (s.ex.toNat : Int)) ∧ w3.cell? ⟨G, 3, none⟩ = some (.int .i64 s.bl) ∧ w3.cell? ⟨G, 2, none⟩ = some (.bool cl) ∧ (∀ i, w3.frozen? ⟨G, i, none⟩ = false) ∧
        ((cl = false ∧ s.bl - 1 ≤ 0 ∧ Calls Tryz.prog 85 #[.pointer (some ⟨G, 0, none⟩), .nilIface, .slice (some ⟨w3.heap.size, 0, none⟩) 1 1] (((w3.setCell ⟨G, 0, none⟩ (.int .u8 (y : Int))).setCell ⟨G, 3, none⟩ (.int .i64 (s.bl - 1))).alloc (.cells #[.int .u8 6] 5)) (RPost B G O crc cl W (finR cl { s with da := s.da ++ d, ex := s.ex + 1, bl := s.bl - 1 }) w)) ∨
          (cl = false ∧ ¬ s.bl - 1 ≤ 0 ∧ RPost B G O crc cl W (finR cl { s with da := s.da ++ d, ex := s.ex + 1, bl := s.bl - 1 }) w (.returned (.slice (some ⟨w3.heap.size, 0, none⟩) 1 1)) (((w3.setCell ⟨G, 0, none⟩ (.int .u8 (y : Int))).setCell ⟨G, 3, none⟩ (.int .i64 (s.bl - 1))).alloc (.cells #[.int .u8 6] 5))) ∨
          (cl = true ∧ RPost B G O crc cl W (finR cl { s with da := s.da ++ d, ex := s.ex + 1, bl := s.bl - 1 }) w (.returned (.slice (some ⟨w3.heap.size, 0, none⟩) 1 1)) (((w3.setCell ⟨G, 0, none⟩ (.int .u8 (y : Int))).setCell ⟨G, 3, none⟩ (.int .i64 (s.bl - 1))).alloc (.cells #[.int .u8 6] 5))))) := keepHid (fun A' c' w2 q1 q2 q3 => by
    obtain ⟨f1, f2, O', f3, f4, f5⟩ := hgr A' c' w2 ⟨q1, q2, q3⟩
    refine ⟨f1, f2 8, fun w3 hw3 => ?_⟩
    rw [hw3] at f3 f4
    have hfz : ∀ i, w3.frozen? ⟨G, i, none⟩ = false ∧ w3.cell? ⟨G, i, none⟩ = w3.cell? ⟨G, i, none⟩ := fun i => by
      obtain ⟨⟨vb, vd, h1, _⟩, _⟩ := f3
      exact ⟨h1.frozen i, rfl⟩
    have r1 := f3.put_ (s' := { s with da := s.da ++ d, ex := s.ex + 1 }) 0 (.int .u8 (y : Int)) (fun vb vd => by rw [← hy]; rfl) rfl rfl h.t1 h.t99 h.tr h.bl
    have r2 := r1.put_ (s' := { s with da := s.da ++ d, ex := s.ex + 1, bl := s.bl - 1 }) 3 (.int .i64 (s.bl - 1)) (fun vb vd => rfl) rfl rfl h.t1 h.t99 h.tr (by have := h.bl; show s.bl - 1 ≤ _; omega)
    have tt : Turn O' w3 ((w3.setCell ⟨G, 0, none⟩ (.int .u8 (y : Int))).setCell ⟨G, 3, none⟩ (.int .i64 (s.bl - 1))) := (f3.turnO 0 _).trans (r1.turnO 3 _)
    have hG : O G := h.g
    have tt2 : Turn O w3 ((w3.setCell ⟨G, 0, none⟩ (.int .u8 (y : Int))).setCell ⟨G, 3, none⟩ (.int .i64 (s.bl - 1))) := ((turnAt 3 _ (turnAt 0 _ (Turn.refl _ w3))) : Turn (fun b => b = G) w3 _).mono (fun i hi => by rw [hi]; exact hG)
    have key := fin_post (O := O) (w := w) r2 ((hTB.trans f4).trans tt2) (fun i hi => by
      rcases f5 i hi with h | h
      · exact .inl h
      · exact .inr (hsz i h)) w3.heap.size (by simp [World.setCell])
    obtain ⟨⟨vb, vd, h1, _⟩, _⟩ := f3
    exact ⟨h1.cell 0, h1.cell 3, h1.cell 2, h1.frozen, key⟩)
  have hbl2 := h.bl
  have hl1 : (s.da ++ d).length = nd + n := by rw [List.length_append, hnd, hdl]
  generalize finR cl { s with da := s.da ++ d, ex := s.ex + 1, bl := s.bl - 1 } = r at *
  generalize hex : s.ex.toNat = ex at *
  have hexl : ex < 256 := by rw [← hex]; exact u8lt _
  have hx2 : IntKind.u8.wrap ((ex : Int) + 1) = (y : Int) := by rw [← hy2]; rfl
  generalize hbx : s.bl = bl at *
  clear h hd hbb hkb hr hlow ho hgr e8 hTB hsz hnd hdl hl1 hy hex hbx
  go_enter Tryz.func102, Tryz.ntmps102
  go_upto_region 1 with fail
  go_region
  go_upto_region 2 with fail
  go_region_law (refine step_append_bytes rfl (.tmp 17) (.tmp 19) rfl B (.slice Ad nd cd) nd s.da (by simp [Act.eval]) HO.out Q A n c d (by simp [Act.eval]) HY.out (by omega) HLOW.out ?_; intro A' c' w2 q1 q2 q3; obtain ⟨f1, f2, f3⟩ := HG.out A' c' w2 q1 q2 q3; have HF3 := keepHid f3; clear q1 q2 q3 f3)
  all_goals
    obtain ⟨w3, hw3⟩ : ∃ w3, w2.setCell ⟨G, 8, none⟩ (.slice A' (nd + n) c') = w3 := ⟨_, rfl⟩
    rw [hw3]
    obtain ⟨g0, g3, g2, gf, hfin⟩ := HF3.out w3 hw3
    clear hw3 f1 f2 b0 b1 e0 e8' hwb
    rcases hfin with ⟨rfl, hb, hst⟩ | ⟨rfl, hb, hp⟩ | ⟨rfl, hp⟩
    · have HST := keepHid hst
      clear hst
      go_wp2_with (go_at_call 85; (with_reducible refine HST.out.mono ?_); rintro e w5 ⟨A5, c5, O5, rfl, hp5⟩; have HP5 := keepHid hp5; clear hp5)
      go_ret
      exact ⟨A5, c5, O5, rfl, HP5.out⟩
    · have HP := keepHid hp
      clear hp
      go_wp2
      go_ret
      exact HP.out
    · have HP := keepHid hp
      clear hp
      go_wp2
      go_ret
      exact HP.out
set_option maxRecDepth 100000 in
set_option maxHeartbeats 4000000 in
theorem take_not {w : World} {B G W : Nat} {O : Nat → Prop} {crc cl : Bool} {s : Rd} (h : Rcv w B G O crc cl W s) (num : UInt8) (A : Option Addr) (n c : Nat) (he : num ≠ s.ex) (d : List UInt8) :
    Calls Tryz.prog 102 #[.pointer (some ⟨G, 0, none⟩), .agg #[.int .u8 (num.toNat : Int), .slice A n c]] w (RPost B G O crc cl W (takeR cl s num d) w) := by
  obtain ⟨wb, hwb⟩ : ∃ wb, w.alloc (.cells #[.int .u8 (num.toNat : Int), .slice A n c] 50) = wb := ⟨_, rfl⟩
  have hbb : Below w.heap.size w wb := by rw [← hwb]; exact (Below.refl _ _).alloc (Nat.le_refl _) _
  have hkb : Blk wb w.heap.size 50 #[.int .u8 (num.toNat : Int), .slice A n c] := by rw [← hwb]; exact Blk.new w _ _
  have b0 : wb.cell? ⟨w.heap.size, 0, none⟩ = some (.int .u8 (num.toNat : Int)) := hkb.cell 0
  have hr := h.below hbb
  have hr2 := hr.drew.drew
  have tt : Turn O w wb.drew.drew := Turn.drew (Turn.drew (Turn.of_below hbb))
  have q1 : ((num.toNat : Int) == (s.ex.toNat : Int)) = false := u8_ne he
  obtain ⟨p, hp⟩ : ∃ p, (s.ex - 1).toNat = p := ⟨_, rfl⟩
  have hp2 : ((s.ex.toNat : Int) - 1) % 256 = (p : Int) := by
    rw [← hp, UInt8.toNat_sub]
    have := u8lt s.ex
    simp
    omega
  have hx2 : IntKind.u8.wrap ((s.ex.toNat : Int) - 1) = (p : Int) := by rw [← hp2]; rfl
  have hst : Calls Tryz.prog 85 #[.pointer (some ⟨G, 0, none⟩), .iface 71 (.int .i64 14), .slice (some ⟨wb.heap.size, 0, none⟩) 2 2] (wb.alloc (.cells #[.int .u8 24, .int .u8 24] 5)).drew.drew (RPost B G O crc cl W ([24, 24], stopR s 14) w) := (stop_new hr2 14 (.iface 71 (.int .i64 14)) rfl [24, 24] 2 rfl (by omega) #[.int .u8 24, .int .u8 24] rfl wb.heap.size rfl).mono fun _ _ h => h.of tt (fun i hi => .inl hi)
  have hfin : (cl = false ∧ s.bl ≤ 0 ∧ Calls Tryz.prog 85 #[.pointer (some ⟨G, 0, none⟩), .nilIface, .slice (some ⟨wb.heap.size, 0, none⟩) 1 1] (wb.alloc (.cells #[.int .u8 6] 5)).drew.drew (RPost B G O crc cl W (finR cl s) w)) ∨
      (cl = false ∧ ¬ s.bl ≤ 0 ∧ RPost B G O crc cl W (finR cl s) w (.returned (.slice (some ⟨wb.heap.size, 0, none⟩) 1 1)) (wb.alloc (.cells #[.int .u8 6] 5)).drew.drew) ∨
      (cl = true ∧ RPost B G O crc cl W (finR cl s) w (.returned (.slice (some ⟨wb.heap.size, 0, none⟩) 1 1)) (wb.alloc (.cells #[.int .u8 6] 5)).drew.drew) := fin_post hr2 tt (fun i hi => .inl hi) wb.heap.size rfl
  have hlen : s.da.length = 0 ↔ s.da = [] := ⟨List.eq_nil_of_length_eq_zero, fun e => by rw [e]; rfl⟩
  have hbl := h.bl
  obtain ⟨⟨vb, vd, h1, h2, h3, h4, h5⟩, hg, hl, hge, a1, a2, a3, a4, a5, a6⟩ := hr
  obtain ⟨Ad, cd, rfl⟩ := len_sl h3
  have c8 : wb.cell? ⟨G, 8, none⟩ = some (.slice Ad s.da.length cd) := h1.cell 8
  have c0 : wb.cell? ⟨G, 0, none⟩ = some (.int .u8 (s.ex.toNat : Int)) := h1.cell 0
  have c2 : wb.cell? ⟨G, 2, none⟩ = some (.bool cl) := h1.cell 2
  have c3 : wb.cell? ⟨G, 3, none⟩ = some (.int .i64 s.bl) := h1.cell 3
  unfold takeR
  rw [if_neg he]
  by_cases hn : num = s.ex - 1
  · have hnp : num.toNat = p := by rw [hn, hp]
    have q2 : ((num.toNat : Int) != (p : Int)) = false := by rw [hnp]; simp
    by_cases hd : s.da = []
    · rw [if_pos (.inr hd)]
      rw [hlen.2 hd] at c8
      generalize stopR s 14 = r at *
      generalize s.ex.toNat = ex at *
      generalize num.toNat = nu at *
      have HST := keepHid hst
      clear h hbb hkb hr2 tt hst hfin h1 h2 h3 h4 h5 hg hl hge a1 a2 a3 a4 a5 a6 hn hnp hd hp hlen he
      go_enter Tryz.func102, Tryz.ntmps102
      go_upto_region 1 with fail
      go_region
      go_upto_region 5 with fail
      go_region
      all_goals
        go_wp2_with (go_at_call 85; (with_reducible refine HST.out.mono ?_); rintro e w5 ⟨A5, c5, O5, rfl, hp5⟩; have HP5 := keepHid hp5; clear hp5)
        go_ret
        exact ⟨A5, c5, O5, rfl, HP5.out⟩
    · rw [if_neg (fun e => e.elim (fun e => e hn) hd)]
      have q3 : ((s.da.length : Int) == 0) = false := by
        have : s.da.length ≠ 0 := fun e => hd (hlen.1 e)
        simp; omega
      generalize finR cl s = r at *
      generalize s.da.length = nd at *
      generalize s.ex.toNat = ex at *
      generalize num.toNat = nu at *
      generalize hbx : s.bl = bl at *
      clear h hbb hkb hr2 tt hst h1 h2 h3 h4 h5 hg hl hge a1 a2 a3 a4 a5 hn hnp hd hp hlen he
      rcases hfin with ⟨rfl, hb, hst⟩ | ⟨rfl, hb, hpp⟩ | ⟨rfl, hpp⟩
      · have HST := keepHid hst
        clear hst
        go_enter Tryz.func102, Tryz.ntmps102
        go_upto_region 1 with fail
        go_region
        go_upto_region 5 with fail
        go_region
        all_goals
          go_wp2_with (go_at_call 85; (with_reducible refine HST.out.mono ?_); rintro e w5 ⟨A5, c5, O5, rfl, hp5⟩; have HP5 := keepHid hp5; clear hp5)
          go_ret
          exact ⟨A5, c5, O5, rfl, HP5.out⟩
      all_goals
        have HP := keepHid hpp
        clear hpp
        go_enter Tryz.func102, Tryz.ntmps102
        go_upto_region 1 with fail
        go_region
        go_upto_region 5 with fail
        go_region
        all_goals
          go_wp2
          go_ret
          exact HP.out
  · rw [if_pos (.inl hn)]
    have hnp : num.toNat ≠ p := fun e => hn (UInt8.toNat_inj.1 (by rw [hp]; exact e))
    have q2 : ((num.toNat : Int) != (p : Int)) = true := by simp; omega
    generalize stopR s 14 = r at *
    generalize s.ex.toNat = ex at *
    generalize num.toNat = nu at *
    have HST := keepHid hst
    clear h hbb hkb hr2 tt hst hfin h1 h2 h3 h4 h5 hg hl hge a1 a2 a3 a4 a5 a6 hn hnp hp hlen he
    go_enter Tryz.func102, Tryz.ntmps102
    go_upto_region 1 with fail
    go_region
    go_upto_region 5 with fail
    go_region
    all_goals
      go_wp2_with (go_at_call 85; (with_reducible refine HST.out.mono ?_); rintro e w5 ⟨A5, c5, O5, rfl, hp5⟩; have HP5 := keepHid hp5; clear hp5)
      go_ret
      exact ⟨A5, c5, O5, rfl, HP5.out⟩
theorem take_any {w : World} {B G W : Nat} {O : Nat → Prop} {crc cl : Bool} {s : Rd} (h : Rcv w B G O crc cl W s) (num : UInt8) (A : Option Addr) (n c Q : Nat) (d : List UInt8) (hd : Bys w Q A n d) (hQ : Q ≤ w.heap.size) (hn : s.da.length + n ≤ 140737488355328) (hbl : -9223372036854775808 < s.bl) :
    Calls Tryz.prog 102 #[.pointer (some ⟨G, 0, none⟩), .agg #[.int .u8 (num.toNat : Int), .slice A n c]] w (RPost B G O crc cl W (takeR cl s num d) w) := by
  by_cases he : num = s.ex
  · have := take_yes h num A n c Q d hd hQ hn hbl he
    unfold takeR
    rwa [if_pos he]
  · exact take_not h num A n c he d
end Go.Proofs.YtgdjopiejmdbnaaGreatDoor
