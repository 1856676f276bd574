/-
  Acts that come in: a board's deeds, as a law has them.
-/
import Derived.Test.YtonloefjhofeeaaGreatDoorRows
import Derived.Test.YtonloefjhofeeaaGreatDoorBlockAct
import Derived.Test.YtonloefjhofeeaaGreatDoorMac
import Derived.Test.YtonloefjhofeeaaGreatDoorFrameActs
import Derived.Test.YtonloefjhofeeaaGreatDoorBoardPlain
namespace Go.Proofs.YtonloefjhofeeaaGreatDoor
open Go.RowKit Go.ChangeShapes Go.WideShapes Go.Deep
set_option linter.unusedVariables false

/-- The slice value '.slice A n _' holds these acts. -/
def TacS (w : World) (A : Option Addr) (n : Nat) (ts : List Tac) : Prop :=
  ts.length = n ∧ ∀ k t, ts[k]? = some t → ∃ ad RA rc BA bc, A = some ad ∧ ad.block < w.heap.size ∧ (∀ j z, (tacL t (.slice RA t.raw.length rc) (.slice BA t.blk.bs.length bc))[j]? = some z → w.cell? (ad.add (k * 10 + j)) = some z) ∧ TacF t ∧
    Bys w w.heap.size RA t.raw.length t.raw ∧ t.raw.length ≤ rc ∧ rc ≤ 9223372036854775807 ∧ Bys w w.heap.size BA t.blk.bs.length t.blk.bs ∧ t.blk.bs.length ≤ bc ∧ bc ≤ 9223372036854775807
theorem TacS.len {w : World} {A : Option Addr} {n : Nat} {ts : List Tac} (h : TacS w A n ts) : ts.length = n := h.1
section
variable {H : Type} {enc : TypeId × Value → H} {P : Program} {W : World}
theorem trod_struct6d {base : Nat} {spare : Nat → Bool} {held : Bool} {t : TypeId} {f0 f1 f2 f3 f4 f5 : Field} {fuel : Nat} {cs : List Value} {x : DataW H × List MemPlace} (ht : P.underlying t = some (.struct #[f0, f1, f2, f3, f4, f5])) (h : DataW.trod enc P W base spare held fuel t cs = some x) :
    ∃ y0 y1 y2 y3 y4 y5 n, x.1 = .agg [y0.1, y1.1, y2.1, y3.1, y4.1, y5.1] ∧ cs.length = P.cellsOf t ∧ DataW.trod enc P W base spare held n f0.type ((cs.drop f0.offset).take (P.cellsOf f0.type)) = some y0 ∧
      DataW.trod enc P W base spare held n f1.type ((cs.drop f1.offset).take (P.cellsOf f1.type)) = some y1 ∧ DataW.trod enc P W base spare held n f2.type ((cs.drop f2.offset).take (P.cellsOf f2.type)) = some y2 ∧
      DataW.trod enc P W base spare held n f3.type ((cs.drop f3.offset).take (P.cellsOf f3.type)) = some y3 ∧ DataW.trod enc P W base spare held n f4.type ((cs.drop f4.offset).take (P.cellsOf f4.type)) = some y4 ∧
      DataW.trod enc P W base spare held n f5.type ((cs.drop f5.offset).take (P.cellsOf f5.type)) = some y5 := by
  obtain ⟨xs, n, _, rfl, hl, hlen, hf⟩ := DataW.trod_struct ht h
  match xs, hlen with
  | [y0, y1, y2, y3, y4, y5], _ => exact ⟨y0, y1, y2, y3, y4, y5, n, by simp, hl, by simpa using hf 0 f0 rfl, by simpa using hf 1 f1 rfl, by simpa using hf 2 f2 rfl, by simpa using hf 3 f3 rfl, by simpa using hf 4 f4 rfl, by simpa using hf 5 f5 rfl⟩
end
section
variable {H : Type} {enc : TypeId × Value → H} {P : Program} {W : World} {base : Nat} {held : Bool}
theorem open_tac {b0 : Nat} {t q k b h s : TypeId} {f0 f1 f2 f3 f4 f5 g0 g1 g2 g3 g4 : Field} {v : Value} {d : DataW H} {p : List MemPlace} (ht : P.underlying t = some (.slice q)) (hq : P.underlying q = some (.struct #[f0, f1, f2, f3, f4, f5])) (hk : P.underlying k = some (.struct #[g0, g1, g2, g3, g4]))
    (h0 : f0.type = b ∧ f0.offset = 0) (h1 : f1.type = b ∧ f1.offset = 1) (h2 : f2.type = h ∧ f2.offset = 2) (h3 : f3.type = h ∧ f3.offset = 3) (h4 : f4.type = s ∧ f4.offset = 4) (h5 : f5.type = k ∧ f5.offset = 5)
    (i0 : g0.type = b ∧ g0.offset = 0) (i1 : g1.type = b ∧ g1.offset = 1) (i2 : g2.type = s ∧ g2.offset = 2) (i3 : g3.type = h ∧ g3.offset = 3) (i4 : g4.type = b ∧ g4.offset = 4)
    (hs : P.underlying s = some (.slice b)) (hb : P.underlying b = some (.int .u8)) (hh : P.underlying h = some (.int .u16))
    (cs' : P.cellsOf s = 1) (cb : P.cellsOf b = 1) (ch : P.cellsOf h = 1) (ck : P.cellsOf k = 5) (ct : P.cellsOf q = 10)
    (hv : Value.okWide P W .any b0 t v) (hd : DataW.Trod enc P W base (fun _ => true) held t v d p) :
    ∃ A n c ts, v = .slice A n c ∧ TacS W A n ts ∧ n ≤ c ∧ c ≤ 9223372036854775807 ∧ ((d = .nil ∧ ts = []) ∨ ∃ D sp, d = .slice ((List.range n).map D) sp ∧ ∀ k r, ts[k]? = some r → ∃ y0 y1 y2 y3 y4 z0 z1 z2 z3 z4, D k = .agg [y0, y1, y2, y3, y4, .agg [z0, z1, z2, z3, z4]] ∧ SizedAs y4 r.raw.length ∧ SizedAs z2 r.blk.bs.length) := by
  obtain ⟨a0, len0, cap0, rfl⟩ := okWide_slice ht hv
  obtain ⟨fuel, hf⟩ := hd
  rcases open_slice ht hf with ⟨hcs', hx⟩ | ⟨a, len, cap, m, n, D, Pl, hcs', hb', hl, hm, hmm, hx, hi'⟩
  · simp [Value.cells] at hcs'
    obtain ⟨rfl, rfl, rfl⟩ := hcs'
    exact ⟨none, 0, 0, [], rfl, ⟨rfl, fun k e h => by simp at h⟩, Nat.le_refl _, Nat.zero_le _, .inl ⟨by injection hx, rfl⟩⟩
  · simp [Value.cells] at hcs'
    obtain ⟨rfl, rfl, rfl⟩ := hcs'
    simp only [if_true] at hmm
    subst hmm
    rw [ct] at hi'
    obtain ⟨rows, hr1, hr2⟩ := choose_list (α := Tac) (p := fun k t => (∃ RA rc BA bc, a.block < W.heap.size ∧ (∀ j z, (tacL t (.slice RA t.raw.length rc) (.slice BA t.blk.bs.length bc))[j]? = some z → W.cell? (a.add (k * 10 + j)) = some z) ∧ TacF t ∧
        Bys W W.heap.size RA t.raw.length t.raw ∧ t.raw.length ≤ rc ∧ rc ≤ 9223372036854775807 ∧ Bys W W.heap.size BA t.blk.bs.length t.blk.bs ∧ t.blk.bs.length ≤ bc ∧ bc ≤ 9223372036854775807) ∧ ∃ y0 y1 y2 y3 y4 z0 z1 z2 z3 z4, D k = .agg [y0, y1, y2, y3, y4, .agg [z0, z1, z2, z3, z4]] ∧ SizedAs y4 t.raw.length ∧ SizedAs z2 t.blk.bs.length) len0 (fun j0 hj0 => by
      obtain ⟨cs, h3', h4'⟩ := hi' j0 (by omega)
      obtain ⟨_, hcl, hat⟩ := World.cells?_some h3'
      obtain ⟨y0, y1, y2, y3, y4, y5, n', hD, hl', t0, t1, t2, t3, t4, t5⟩ := trod_struct6d hq h4'
      rw [h0.1, h0.2, cb] at t0
      rw [h1.1, h1.2, cb] at t1
      rw [h2.1, h2.2, ch] at t2
      rw [h3.1, h3.2, ch] at t3
      rw [h4.1, h4.2, cs'] at t4
      rw [h5.1, h5.2, ck] at t5
      match cs, hcl with
      | [c0, c1, c2, c3, c4, c5, c6, c7, c8, c9], _ =>
        obtain ⟨x0, x1, x2, x3, x4, n2, hD2, _, u0, u1, u2, u3, u4⟩ := trod_struct5 hk t5
        rw [i0.1, i0.2, cb] at u0
        rw [i1.1, i1.2, cb] at u1
        rw [i2.1, i2.2, cs'] at u2
        rw [i3.1, i3.2, ch] at u3
        rw [i4.1, i4.2, cb] at u4
        obtain ⟨z0, q0, _, r0⟩ := DataW.trod_int hb t0
        obtain ⟨z1, q1, _, r1⟩ := DataW.trod_int hb t1
        obtain ⟨z2, q2, _, r2⟩ := DataW.trod_int hh t2
        obtain ⟨z3, q3, _, r3⟩ := DataW.trod_int hh t3
        obtain ⟨RA, rn, rc, rb, rv, hrb, hrc, hrm, hrs⟩ := bys_trod hs hb cb t4
        obtain ⟨z5, q5, _, r5⟩ := DataW.trod_int hb u0
        obtain ⟨z6, q6, _, r6⟩ := DataW.trod_int hb u1
        obtain ⟨BA, bn, bc, bb, bv, hbb, hbc, hbm, hbs⟩ := bys_trod hs hb cb u2
        obtain ⟨z8, q8, _, r8⟩ := DataW.trod_int hh u3
        obtain ⟨z9, q9, _, r9⟩ := DataW.trod_int hb u4
        have e0 : c0 = .int .u8 z0 := by simpa using q0
        have e1 : c1 = .int .u8 z1 := by simpa using q1
        have e2 : c2 = .int .u16 z2 := by simpa using q2
        have e3 : c3 = .int .u16 z3 := by simpa using q3
        have e4 : c4 = .slice RA rn rc := by simpa using rv
        have e5 : c5 = .int .u8 z5 := by simpa using q5
        have e6 : c6 = .int .u8 z6 := by simpa using q6
        have e7 : c7 = .slice BA bn bc := by simpa using bv
        have e8 : c8 = .int .u16 z8 := by simpa using q8
        have e9 : c9 = .int .u8 z9 := by simpa using q9
        subst e0 e1 e2 e3 e4 e5 e6 e7 e8 e9
        have w0 := wf_u8 r0; have w1 := wf_u8 r1; have w2 := wf_u16 r2; have w3 := wf_u16 r3; have w5 := wf_u8 r5; have w6 := wf_u8 r6; have w8 := wf_u16 r8; have w9 := wf_u8 r9
        obtain ⟨m0, rfl⟩ : ∃ m : Nat, z0 = (m : Int) := ⟨z0.toNat, by omega⟩
        obtain ⟨m1, rfl⟩ : ∃ m : Nat, z1 = (m : Int) := ⟨z1.toNat, by omega⟩
        obtain ⟨m2, rfl⟩ : ∃ m : Nat, z2 = (m : Int) := ⟨z2.toNat, by omega⟩
        obtain ⟨m3, rfl⟩ : ∃ m : Nat, z3 = (m : Int) := ⟨z3.toNat, by omega⟩
        obtain ⟨m5, rfl⟩ : ∃ m : Nat, z5 = (m : Int) := ⟨z5.toNat, by omega⟩
        obtain ⟨m6, rfl⟩ : ∃ m : Nat, z6 = (m : Int) := ⟨z6.toNat, by omega⟩
        obtain ⟨m8, rfl⟩ : ∃ m : Nat, z8 = (m : Int) := ⟨z8.toNat, by omega⟩
        obtain ⟨m9, rfl⟩ : ∃ m : Nat, z9 = (m : Int) := ⟨z9.toNat, by omega⟩
        have hlr := hrb.len
        have hlb := hbb.len
        subst hlr hlb
        have hat2 : ∀ j z, (tacL ⟨m0, m1, m2, m3, rb, ⟨m5, m6, bb, m8, m9⟩⟩ (.slice RA rb.length rc) (.slice BA bb.length bc))[j]? = some z → W.cell? (a.add (j0 * 10 + j)) = some z := fun j z hz => by
          have hj : j < 10 := by
            rcases Nat.lt_or_ge j 10 with h | h
            · exact h
            · rw [Array.getElem?_eq_none (show (tacL _ _ _).size ≤ j from h)] at hz; cases hz
          have := hat j (by simpa using hj)
          rw [ad_add] at this
          rw [this]
          have e : (tacL ⟨m0, m1, m2, m3, rb, ⟨m5, m6, bb, m8, m9⟩⟩ (.slice RA rb.length rc) (.slice BA bb.length bc)).toList[j]? = some z := by rw [Array.getElem?_toList]; exact hz
          exact e
        have hlt : a.block < W.heap.size := by
          have := World.block_lt_of_cell? _ _ (hat2 0 _ rfl)
          rwa [ad_block] at this
        refine ⟨⟨m0, m1, m2, m3, rb, ⟨m5, m6, bb, m8, m9⟩⟩, ⟨RA, rc, BA, bc, hlt, hat2, ⟨by show m0 ≤ _; omega, by show m1 ≤ _; omega, by show m2 ≤ _; omega, by show m3 ≤ _; omega, ⟨by show m5 ≤ _; omega, by show m6 ≤ _; omega, by show m8 ≤ _; omega, by show m9 ≤ _; omega⟩⟩, hrb, hrc, hrm, hbb, hbc, hbm⟩, y0.1, y1.1, y2.1, y3.1, y4.1, x0.1, x1.1, x2.1, x3.1, x4.1, ?_, hrs, hbs⟩
        rw [← hD2]
        exact hD)
    refine ⟨some a, len0, _, rows, rfl, ⟨hr1, fun k e hk => ?_⟩, hl, by unfold maxLen at hm; omega, .inr ⟨D, _, by injection hx, fun k r hk => (hr2 k r hk).2⟩⟩
    obtain ⟨⟨RA, rc, BA, bc, o1, o2, o3, o4, o5, o6, o7, o8, o9⟩, _⟩ := hr2 k e hk
    exact ⟨a, RA, rc, BA, bc, rfl, o1, o2, o3, o4, o5, o6, o7, o8, o9⟩
/-- How much an act holds. -/
def szTac (t : Tac) : Nat := 12 + t.raw.length + t.blk.bs.length
theorem sized_le {d : DataW H} {n : Nat} (h : SizedAs d n) : n + 1 ≤ Rows.uptoBulk d := by
  rcases h with ⟨hd, hk⟩ | ⟨el, sp, hd, hk⟩
  · have := bulk_one d; omega
  · rw [hd, ← hk]
    have := bulk_len el
    simp only [Rows.uptoBulk]
    omega
theorem bulk_tac : ∀ (y : List Tac) (D : Nat → DataW H) (s : Nat), (∀ k r, y[k]? = some r → szTac r ≤ Rows.uptoBulk (D (s + k))) → (y.map szTac).sum ≤ Rows.uptoBulkAll ((List.range y.length).map fun k => D (s + k))
  | [], D, s, _ => by simp [Rows.uptoBulkAll]
  | b :: y, D, s, h => by
    have ih := bulk_tac y D (s + 1) (fun k r hk => by have := h (k + 1) r (by simpa using hk); rwa [show s + (k + 1) = s + 1 + k by omega] at this)
    have h1 := h 0 b rfl
    rw [List.length_cons, List.range_succ_eq_map, List.map_cons, List.map_cons, List.map_map]
    simp only [Rows.uptoBulkAll, List.sum_cons]
    have e : (List.range y.length).map ((fun k => D (s + k)) ∘ Nat.succ) = (List.range y.length).map fun k => D (s + 1 + k) := by
      apply List.map_congr_left
      intro k _
      show D (s + (k + 1)) = _
      rw [show s + (k + 1) = s + 1 + k by omega]
    rw [e]
    omega
theorem open_tacz {b0 : Nat} {t q k b h s : TypeId} {f0 f1 f2 f3 f4 f5 g0 g1 g2 g3 g4 : Field} {v : Value} {d : DataW H} {p : List MemPlace} (ht : P.underlying t = some (.slice q)) (hq : P.underlying q = some (.struct #[f0, f1, f2, f3, f4, f5])) (hk : P.underlying k = some (.struct #[g0, g1, g2, g3, g4]))
    (h0 : f0.type = b ∧ f0.offset = 0) (h1 : f1.type = b ∧ f1.offset = 1) (h2 : f2.type = h ∧ f2.offset = 2) (h3 : f3.type = h ∧ f3.offset = 3) (h4 : f4.type = s ∧ f4.offset = 4) (h5 : f5.type = k ∧ f5.offset = 5)
    (i0 : g0.type = b ∧ g0.offset = 0) (i1 : g1.type = b ∧ g1.offset = 1) (i2 : g2.type = s ∧ g2.offset = 2) (i3 : g3.type = h ∧ g3.offset = 3) (i4 : g4.type = b ∧ g4.offset = 4)
    (hs : P.underlying s = some (.slice b)) (hb : P.underlying b = some (.int .u8)) (hh : P.underlying h = some (.int .u16))
    (cs' : P.cellsOf s = 1) (cb : P.cellsOf b = 1) (ch : P.cellsOf h = 1) (ck : P.cellsOf k = 5) (ct : P.cellsOf q = 10)
    (hv : Value.okWide P W .any b0 t v) (hd : DataW.Trod enc P W base (fun _ => true) held t v d p) :
    ∃ A n c ts, v = .slice A n c ∧ TacS W A n ts ∧ n ≤ c ∧ c ≤ 9223372036854775807 ∧ (ts.map szTac).sum ≤ Rows.uptoBulk d := by
  obtain ⟨A, n, c, ts, rfl, hT, h1', h2', h3'⟩ := open_tac ht hq hk h0 h1 h2 h3 h4 h5 i0 i1 i2 i3 i4 hs hb hh cs' cb ch ck ct hv hd
  refine ⟨A, n, c, ts, rfl, hT, h1', h2', ?_⟩
  rcases h3' with ⟨rfl, rfl⟩ | ⟨D, sp, rfl, hD⟩
  · simp [Rows.uptoBulk]
  · have hb := bulk_tac ts D 0 (fun k r hk => by
      obtain ⟨y0, y1, y2, y3, y4, z0, z1, z2, z3, z4, e, e1, e2⟩ := hD k r hk
      rw [Nat.zero_add, e]
      have q1 := sized_le e1
      have q2 := sized_le e2
      have p0 := bulk_one y0; have p1 := bulk_one y1; have p2 := bulk_one y2; have p3 := bulk_one y3
      have r0 := bulk_one z0; have r1 := bulk_one z1; have r3 := bulk_one z3; have r4 := bulk_one z4
      simp only [Rows.uptoBulk, Rows.uptoBulkAll, szTac]
      omega)
    rw [hT.len] at hb
    have e : ((List.range n).map fun k => D (0 + k)) = (List.range n).map D := by simp
    rw [e] at hb
    simp only [Rows.uptoBulk]
    omega
theorem bulk_rw : ∀ (y : List (List UInt8)) (D : Nat → DataW H) (s : Nat), (∀ k r, y[k]? = some r → SizedAs (D (s + k)) r.length) → (y.map fun b => 1 + b.length).sum ≤ Rows.uptoBulkAll ((List.range y.length).map fun k => D (s + k))
  | [], D, s, _ => by simp [Rows.uptoBulkAll]
  | b :: y, D, s, h => by
    have ih := bulk_rw y D (s + 1) (fun k r hk => by have := h (k + 1) r (by simpa using hk); rwa [show s + (k + 1) = s + 1 + k by omega] at this)
    have h1 := sized_le (h 0 b rfl)
    rw [List.length_cons, List.range_succ_eq_map, List.map_cons, List.map_cons, List.map_map]
    simp only [Rows.uptoBulkAll, List.sum_cons]
    have e : (List.range y.length).map ((fun k => D (s + k)) ∘ Nat.succ) = (List.range y.length).map fun k => D (s + 1 + k) := by
      apply List.map_congr_left
      intro k _
      show D (s + (k + 1)) = _
      rw [show s + (k + 1) = s + 1 + k by omega]
    rw [e]
    omega
/-- How much rows that came in hold. -/
theorem rows_bulk {n : Nat} {rows : List (List UInt8)} {d : DataW H} (hl : rows.length = n) (h : (d = .nil ∧ rows = []) ∨ ∃ D sp, d = .slice ((List.range n).map D) sp ∧ ∀ k bs, rows[k]? = some bs → SizedAs (D k) bs.length) : (rows.map fun b => 1 + b.length).sum ≤ Rows.uptoBulk d := by
  rcases h with ⟨rfl, rfl⟩ | ⟨D, sp, rfl, hD⟩
  · simp [Rows.uptoBulk]
  · have hb := bulk_rw rows D 0 (fun k r hk => by rw [Nat.zero_add]; exact hD k r hk)
    rw [hl] at hb
    have e : ((List.range n).map fun k => D (0 + k)) = (List.range n).map D := by simp
    rw [e] at hb
    simp only [Rows.uptoBulk]
    omega
end


/-! ### How much is told -/
theorem fin_le2 (cl : Bool) (s : Rd) : (finR cl s).1.length ≤ 2 := by unfold finR; split <;> simp
theorem take_le2 (cl : Bool) (s : Rd) (n : UInt8) (d : List UInt8) : (takeR cl s n d).1.length ≤ 2 := by
  unfold takeR
  split
  · exact fin_le2 _ _
  split
  · simp
  · exact fin_le2 _ _
theorem put_le2 (crc cl : Bool) (W : Nat) (s : Rd) (x : List UInt8) : (putR crc cl W s x).1.length ≤ 2 := by
  unfold putR seeR scanR
  repeat' split
  all_goals first
    | exact take_le2 _ _ _ _
    | simp
theorem tick_le2 (crc : Bool) (W : Nat) (s : Rd) : (tickR crc W s).1.length ≤ 2 := by
  unfold tickR askR
  repeat' split
  all_goals simp
theorem lodput_le2 (p : BP Fl) (l : Lod) (x : List UInt8) : (l.put p x).1.length ≤ 2 := by
  cases l with
  | non => simp [Lod.put]
  | one crc s => exact put_le2 _ _ _ _ _
  | files b =>
    show (putBR p b x).1.length ≤ 2
    unfold putBR
    split
    · simp
    · exact put_le2 _ _ _ _ _
theorem lodtick_le2 (p : BP Fl) (l : Lod) : (l.tick p).1.length ≤ 2 := by
  cases l with
  | non => simp [Lod.tick]
  | one crc s => exact tick_le2 _ _ _
  | files b =>
    show (tickBR p b).1.length ≤ 2
    unfold tickBR
    split
    · simp
    · exact tick_le2 _ _ _
theorem fin20_le6 (s : Bd) : (fin20 s).1.length ≤ 6 := by
  unfold fin20
  repeat' split
  all_goals simp [readyL]
theorem lput_le8 (p : BP Fl) (s : Bd) (x : List UInt8) : (lput20 p s x).1.length ≤ 8 ∧ (lput20 p s x).2.rp = s.rp := by
  have h1 := lodput_le2 p s.ld x
  have h2 := fin20_le6 { s with ld := (s.ld.put p x).2 }
  refine ⟨?_, (fin20_free { s with ld := (s.ld.put p x).2 }).2⟩
  show ((s.ld.put p x).1 ++ _).length ≤ 8
  rw [List.length_append]
  omega
theorem tick_le8 (p : BP Fl) (s : Bd) : (tick20 p s).1.length ≤ 8 ∧ (tick20 p s).2.rp = s.rp := by
  have h1 := lodtick_le2 p s.ld
  have h2 := fin20_le6 { s with ld := (s.ld.tick p).2 }
  refine ⟨?_, (fin20_free { s with ld := (s.ld.tick p).2 }).2⟩
  show ((s.ld.tick p).1 ++ _).length ≤ 8
  rw [List.length_append]
  omega
theorem feed_le20 (p : BP Fl) : ∀ (x : List UInt8) (s : Bd), (feed20 p s x).1.length ≤ 64 * x.length + 8 ∧ (feed20 p s x).2.rp.length ≤ s.rp.length + x.length
  | [], s => by
    have h := lput_le8 p s []
    exact ⟨h.1, by show (lput20 p s []).2.rp.length ≤ _; rw [h.2]; simp⟩
  | c :: r, s => by
    rw [feed20]
    split
    · have h := feed_le20 p r (take20 p s c).2
      have h2 := take_out p s c
      simp only [List.length_append, List.length_cons]
      exact ⟨by omega, by omega⟩
    · have h := lput_le8 p s (c :: r)
      exact ⟨by simp only [List.length_cons]; omega, by rw [h.2]; omega⟩

/-! ### How much comes -/
theorem bk_len (a : Bka) (next : UInt8) (crc : Bool) : (bkB a next crc).length ≤ 1032 + a.bs.length := by
  unfold bkB
  split
  · simp only [List.length_cons, List.length_nil]; omega
  split
  · simp only [List.length_cons, List.length_nil]; omega
  split
  · omega
  · have h := encA_few a next crc
    have hx : (xorA a (encA a next crc)).length = (encA a next crc).length := by unfold xorA; split <;> simp
    have hc : (cutA a (xorA a (encA a next crc))).length ≤ (xorA a (encA a next crc)).length := by
      unfold cutA
      split
      · rw [List.length_take]; exact Nat.min_le_right _ _
      · exact Nat.le_refl _
    omega
theorem bytes_len (a : Tac) (next : UInt8) : (bytesT a next).length ≤ 1100 + szTac a := by
  unfold bytesT szTac
  split
  · have l1 := dig_eight (n := a.ad % 17000) (by omega)
    have l2 := (way_noblank (((a.way % 4 : Nat)) : Int)).2
    unfold loadL wLoad
    simp only [List.length_append, List.length_cons, List.length_nil]
    omega
  split
  · have l1 := dig_eight (n := a.ad % 17000) (by omega)
    have l2 := dig_eight (n := a.sz % 300) (by omega)
    unfold askL wSum
    simp only [List.length_append, List.length_cons, List.length_nil]
    omega
  split
  · omega
  split
  · have := six_le (a.way % 6); omega
  · have := bk_len a.blk next (decide (0 < a.way % 4)); omega
/-- How much the first k acts and rows hold. -/
def sumA (ts : List Tac) (k : Nat) : Nat := ((ts.take k).map szTac).sum
def sumY (ys : List (List UInt8)) (k : Nat) : Nat := ((ys.take k).map fun b => 1 + b.length).sum
theorem sum_take {α : Type} (f : α → Nat) (l : List α) (k : Nat) : ((l.take k).map f).sum ≤ (l.map f).sum := by
  induction l generalizing k with
  | nil => simp
  | cons a l ih =>
    cases k with
    | zero => simp
    | succ k => have := ih k; simp only [List.take_succ_cons, List.map_cons, List.sum_cons]; omega
theorem sum_next {α : Type} (f : α → Nat) (l : List α) (k : Nat) (a : α) (h : l[k]? = some a) : ((l.take (k + 1)).map f).sum = ((l.take k).map f).sum + f a := by
  rw [List.take_add_one, h]
  simp [List.sum_append]
theorem sum_past {α : Type} (f : α → Nat) (l : List α) (k : Nat) (h : l.length ≤ k) : ((l.take (k + 1)).map f).sum = ((l.take k).map f).sum := by
  rw [List.take_of_length_le h, List.take_of_length_le (by omega)]
theorem acts_few (ts : List Tac) (h : (ts.map szTac).sum ≤ 1048576) : 12 * ts.length ≤ 1048576 := by
  have : ∀ l : List Tac, 12 * l.length ≤ (l.map szTac).sum := fun l => by
    induction l with
    | nil => simp
    | cons a l ih => simp only [List.length_cons, List.map_cons, List.sum_cons, szTac] at ih ⊢; omega
  have := this ts
  omega

/-! ### An act's ten cells, as a walk spells them -/
theorem TacS.below {w w' : World} {A : Option Addr} {n : Nat} {ts : List Tac} (h : TacS w A n ts) (hb : Below w.heap.size w w') : TacS w' A n ts :=
  ⟨h.1, fun k t hk => by
    obtain ⟨ad, RA, rc, BA, bc, e, hl, hc, hF, r1, r2, r3, b1, b2, b3⟩ := h.2 k t hk
    exact ⟨ad, RA, rc, BA, bc, e, Nat.lt_of_lt_of_le hl hb.size, fun j z hz => (hb.cell (by rw [ad_block]; exact hl)).trans (hc j z hz), hF, (r1.below hb).more hb.size, r2, r3, (b1.below hb).more hb.size, b2, b3⟩⟩
/-- The ten cells from an address on. -/
structure TenAt (w : World) (b o : Nat) (t : Tac) (R B : Value) : Prop where
  c1 : w.cell? ⟨b, o + 1, none⟩ = some (.int .u8 (t.way : Int))
  c2 : w.cell? ⟨b, o + 2, none⟩ = some (.int .u16 (t.ad : Int))
  c3 : w.cell? ⟨b, o + 3, none⟩ = some (.int .u16 (t.sz : Int))
  c4 : w.cell? ⟨b, o + 4, none⟩ = some R
  c5 : w.cell? ⟨b, o + 5, none⟩ = some (.int .u8 (t.blk.op : Int))
  c6 : w.cell? ⟨b, o + 6, none⟩ = some (.int .u8 (t.blk.nb : Int))
  c7 : w.cell? ⟨b, o + 7, none⟩ = some B
  c8 : w.cell? ⟨b, o + 8, none⟩ = some (.int .u16 (t.blk.pl : Int))
  c9 : w.cell? ⟨b, o + 9, none⟩ = some (.int .u8 (t.blk.xr : Int))
theorem TacS.at_ {w : World} {A : Option Addr} {n k : Nat} {ts : List Tac} {t : Tac} (h : TacS w A n ts) (hk : ts[k]? = some t) : ∃ ad RA rc BA bc, A = some ad ∧ ad.block < w.heap.size ∧ w.cell? (ad.add (k * 10)) = some (.int .u8 (t.op : Int)) ∧ TenAt w (ad.add (k * 10)).block (ad.add (k * 10)).off t (.slice RA t.raw.length rc) (.slice BA t.blk.bs.length bc) ∧ TacF t ∧
    Bys w w.heap.size RA t.raw.length t.raw ∧ t.raw.length ≤ rc ∧ rc ≤ 9223372036854775807 ∧ Bys w w.heap.size BA t.blk.bs.length t.blk.bs ∧ t.blk.bs.length ≤ bc ∧ bc ≤ 9223372036854775807 := by
  obtain ⟨ad, RA, rc, BA, bc, e, hl, hc, hF, r1, r2, r3, b1, b2, b3⟩ := h.2 k t hk
  have hs : ∀ j, (⟨(ad.add (k * 10)).block, (ad.add (k * 10)).off + (j + 1), none⟩ : Addr) = ad.add (k * 10 + (j + 1)) := fun j => by rw [← ad_add, Addr.add_succ' (ad.add (k * 10)) j]
  have hz := fun j z (h : (tacL t (.slice RA t.raw.length rc) (.slice BA t.blk.bs.length bc))[j + 1]? = some z) => (show w.cell? ⟨(ad.add (k * 10)).block, (ad.add (k * 10)).off + (j + 1), none⟩ = some z by rw [hs]; exact hc (j + 1) z h)
  exact ⟨ad, RA, rc, BA, bc, e, hl, hc 0 _ rfl, ⟨hz 0 _ rfl, hz 1 _ rfl, hz 2 _ rfl, hz 3 _ rfl, hz 4 _ rfl, hz 5 _ rfl, hz 6 _ rfl, hz 7 _ rfl, hz 8 _ rfl⟩, hF, r1, r2, r3, b1, b2, b3⟩

/-! ### A board that has been fed -/
/-- How much has come at most, k acts behind. -/
def comeT (ts : List Tac) (ys : List (List UInt8)) (k : Nat) : Nat := 1100 * k + sumA ts k + sumY ys k
theorem come_le {ts : List Tac} {ys : List (List UInt8)} {k : Nat} (h1 : (ts.map szTac).sum ≤ 1048576) (h2 : (ys.map fun b => 1 + b.length).sum ≤ 1048576) (hk : k ≤ ts.length) : comeT ts ys k ≤ 100000000 := by
  have a1 := sum_take szTac ts k
  have a2 := sum_take (fun b : List UInt8 => 1 + b.length) ys k
  have a3 := acts_few ts h1
  unfold comeT sumA sumY
  omega
/-- A board, what it has told, how much has come to it. -/
structure FedI (s : Bd) (told : List UInt8) (C T E : Nat) : Prop where
  ok : Ok20 C T s
  tol : Tol20 told s.rp
  rp : s.rp.length ≤ T
  len : told.length ≤ 64 * T + E
  num : ∀ r ∈ s.rp, Rsm r
theorem FedI.put {p : BP Fl} {s : Bd} {told : List UInt8} {C T E : Nat} (h : FedI s told C T E) (x : List UInt8) : FedI (feed20 p s x).2 (told ++ (feed20 p s x).1) (C + 1) (T + x.length) (E + 8) := by
  have h1 := feed_le20 p x s
  obtain ⟨rs, e, t, m⟩ := feed_adds p x s
  refine ⟨feed_ok x h.ok, by rw [e]; exact h.tol.app t, by have := h.rp; omega, by rw [List.length_append]; have := h.len; omega, fun r hr => ?_⟩
  rw [e] at hr
  exact (List.mem_append.1 hr).elim (h.num r) (m r)
theorem FedI.tick {p : BP Fl} {s : Bd} {told : List UInt8} {C T E : Nat} (h : FedI s told C T E) : FedI (tick20 p s).2 (told ++ (tick20 p s).1) C T (E + 8) := by
  have h1 := tick_le8 p s
  obtain ⟨rs, e, t, m⟩ := tick_adds p s
  exact ⟨tick_ok h.ok, by rw [e]; exact h.tol.app t, by rw [h1.2]; exact h.rp, by rw [List.length_append]; have := h.len; omega, by rw [h1.2]; exact h.num⟩
theorem FedI.mono {s : Bd} {told : List UInt8} {C T E C' T' E' : Nat} (h : FedI s told C T E) (h1 : C ≤ C') (h2 : T ≤ T') (h3 : E ≤ E') : FedI s told C' T' E' := ⟨h.ok.mono h1 h2, h.tol, Nat.le_trans h.rp h2, by have := h.len; omega, h.num⟩
theorem FedI.new : FedI new20 [] 0 0 0 := ⟨new_ok, .nil, Nat.le_refl _, Nat.le_refl _, fun r hr => absurd hr (by simp [new20])⟩

/-! ### Calls of a board that has been fed -/
set_option maxRecDepth 100000 in
theorem safe_put {w0 w1 w : World} {G : Nat} {κ : Nat → Nat} {p : BP Fl} (hp : Rdr p) {z1 z2 : Int} {s : Bd} {told : List UInt8} {C T E : Nat} (h : Tgt w0 w1 G κ p z1 z2 s) (hb : Below w1.heap.size w1 w) (hf : FedI s told C T E) (hC : C ≤ 500000) (hT : T ≤ 300000000)
    (A : Option Addr) (n c : Nat) (b : List UInt8) (hy : Bys w w.heap.size A n b) (hn : n ≤ c) (hc : c ≤ 9223372036854775807) (hN : n ≤ 300000000) (hap : ∀ ad, A = some ad → 0 < n → ad.block < w0.heap.size ∨ w1.heap.size ≤ ad.block) :
    Calls Tryz.prog 16 #[.pointer (some ⟨G, 0, none⟩), .slice A n c] w fun e w' => ∃ A' n' c' κ' out s', e = .returned (.slice A' n' c') ∧ Fre w' κ' A' n' out ∧ Tgt w0 w' G κ' p z1 z2 s' ∧ FedI s' (told ++ out) (C + 1) (T + n) (E + 8) ∧ out.length ≤ 64 * n + 8 ∧ ∀ A n b, Fre w κ A n b → Fre w' κ' A n b := by
  have hfre : Fre w κ A n b := ⟨hy, fun ad e h0 => by
    rcases Nat.eq_zero_or_pos (κ ad.block) with q | q
    · exact q
    · have := h.lt ad.block (by omega)
      rcases hap ad e h0 with h1 | h1 <;> omega⟩
  have hrp := hf.rp
  have hle := feed_le20 p b s
  have hbl := hy.len
  refine (put_lit hp (h.below hb) hf.ok hC (by omega) A n c b hfre (by omega) hn hc (by omega) (feed20 p s b).1 (feed20 p s b).2 rfl _ rfl (by omega)).mono ?_
  rintro e w' ⟨A', c', κ', rfl, q1, q2, q3, q4, q5, q6⟩
  have hput := hf.put (p := p) b
  rw [hbl] at hput hle
  exact ⟨A', _, c', κ', _, _, rfl, q1, q2, hput, hle.1, fun A n b hh => hh.turn q3 q4⟩
set_option maxRecDepth 100000 in
theorem safe_tick {w0 w1 w : World} {G : Nat} {κ : Nat → Nat} {p : BP Fl} (hp : Rdr p) {z1 z2 : Int} {s : Bd} {told : List UInt8} {C T E : Nat} (h : Tgt w0 w1 G κ p z1 z2 s) (hb : Below w1.heap.size w1 w) (hf : FedI s told C T E) (hC : C ≤ 500000) (hT : T ≤ 500000000) :
    Calls Tryz.prog 13 #[.pointer (some ⟨G, 0, none⟩)] w fun e w' => ∃ A' n' c' κ' out s', e = .returned (.slice A' n' c') ∧ Fre w' κ' A' n' out ∧ Tgt w0 w' G κ' p z1 z2 s' ∧ FedI s' (told ++ out) C T (E + 8) ∧ out.length ≤ 8 ∧ ∀ A n b, Fre w κ A n b → Fre w' κ' A n b := by
  have hle := tick_le8 p s
  refine (show Calls Tryz.prog 13 #[ptV G] w _ from ttick_any hp (h.below hb) ⟨C, T, hf.ok.few, by omega, by omega⟩ hf.ok.ad).mono ?_
  intro e w' hh
  obtain ⟨A', c', κ', rfl, q1, q2, q3, q4, q5, q6⟩ := hh.law (out := (tick20 p s).1) (s' := (tick20 p s).2) rfl _ rfl (by omega)
  exact ⟨A', _, c', κ', _, _, rfl, q1, q2, hf.tick, hle.1, fun A n b hh => hh.turn q3 q4⟩
end Go.Proofs.YtonloefjhofeeaaGreatDoor
