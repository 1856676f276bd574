/-
  Rows of replies: what a board told of its memory.
-/
import Derived.Test.YtonloefjhofeeaaGreatDoorSl
import Derived.Test.YtonloefjhofeeaaGreatDoorStr
import Derived.LoopTactic
import Derived.Deep.DeepCutAuto
import Derived.Deep.RegionWith
import Derived.Deep.RegionLaw
import Derived.Deep.AppendLies
import Derived.Lib.QuietBelow
import Derived.Lib.BufferMore
import Derived.Test.YtonloefjhofeeaaGreatDoorBoardNum
import Derived.Test.YtonloefjhofeeaaGreatDoorFrameBoard
import Derived.Test.YtonloefjhofeeaaGreatDoorBatchRecv
import Derived.Test.YtonloefjhofeeaaGreatDoorAppStr
import Derived.Deep.RegionHeld3
import Derived.Deep.DrawnRows
import Derived.Handy
namespace Go.Proofs.YtonloefjhofeeaaGreatDoor
open Go.RowKit
set_option linter.unusedVariables false

/-- A reply: where, how many bytes, their print. -/
abbrev Rp := Nat × Nat × Nat
def rpA (s : Rp) : Array Value := #[.int .i64 (s.1 : Int), .int .i64 (s.2.1 : Int), .int .u32 (s.2.2 : Int)]
def rpL (s : Rp) : List Value := [.int .i64 (s.1 : Int), .int .i64 (s.2.1 : Int), .int .u32 (s.2.2 : Int)]
theorem rpL_len : ∀ (ss : List Rp), (ss.flatMap rpL).length = ss.length * 3
  | [] => rfl
  | y :: ss => by
    have hl : (rpL y).length = 3 := rfl
    rw [List.flatMap_cons, List.length_append, rpL_len ss, hl, List.length_cons]; omega
theorem rpL_get : ∀ (ss : List Rp) (j : Nat) (s : Rp) (r : Nat), ss[j]? = some s → r < 3 → (ss.flatMap rpL)[j * 3 + r]? = (rpL s)[r]?
  | [], j, z, r, h, _ => by simp at h
  | y :: ss, 0, z, r, h, hr => by
    obtain rfl : y = z := by simpa using h
    rw [List.flatMap_cons, List.getElem?_append_left (by simp [rpL]; omega)]
    simp
  | y :: ss, j + 1, z, r, h, hr => by
    have h' : ss[j]? = some z := by simpa using h
    have hl : (rpL y).length = 3 := rfl
    rw [List.flatMap_cons, List.getElem?_append_right (by rw [hl]; omega), hl, show (j + 1) * 3 + r - 3 = j * 3 + r by omega]
    exact rpL_get ss j z r h' hr
/-- A row of replies of the call's own. -/
def OwnR (w : World) (base : Nat) (v : Value) (n : Nat) (ss : List Rp) : Prop := w.ownsRow base 54 3 v n (ss.flatMap rpL)
namespace OwnR
variable {w w' : World} {base n : Nat} {v : Value} {ss : List Rp}
theorem nil (w : World) (base : Nat) : OwnR w base (.slice none 0 0) 0 [] := World.ownsRow_nil _ _ _ _
theorem len (h : OwnR w base v n ss) : ss.length = n := by
  have := h.1
  rw [rpL_len] at this
  omega
theorem cell {g c : Nat} (h : OwnR w base (.slice (some ⟨g, 0, none⟩) n c) n ss) {j : Nat} {s : Rp} (hs : ss[j]? = some s) {r : Nat} (hr : r < 3) : w.cell? ⟨g, j * 3 + r, none⟩ = (rpL s)[r]? := by
  have hj := (List.getElem?_eq_some_iff.1 hs).1
  have := h.len
  rw [World.ownsRow.cellAt h (j * 3 + r) (by omega), rpL_get ss j s r hs hr]
theorem frozen {g c : Nat} (h : OwnR w base (.slice (some ⟨g, 0, none⟩) n c) n ss) (j : Nat) : w.frozen? ⟨g, j, none⟩ = false := World.ownsRow.frozenAt h j
theorem form (h : OwnR w base v n ss) (hn : 0 < n) : ∃ g c, v = .slice (some ⟨g, 0, none⟩) n c ∧ base ≤ g ∧ g < w.heap.size ∧ n ≤ c := by
  rcases h.2 with ⟨_, h0⟩ | ⟨g, cap, cur, rfl, hb, hg, hnc, hcm, _⟩
  · omega
  · exact ⟨g, cap, rfl, hb, (Array.getElem?_eq_some_iff.1 hg).1, hnc⟩
theorem keep (h : OwnR w base v n ss) (hk : ∀ i, v.ownBlock = some i → i < w.heap.size → w'.heap[i]? = w.heap[i]?) : OwnR w' base v n ss := own_keep h hk
end OwnR
/-- A reply's three cells, as a walk spells them. -/
theorem OwnR.at_ {w : World} {base n c : Nat} {A : Option Addr} {ss : List Rp} (h : OwnR w base (.slice A n c) n ss) {j : Nat} {r : Rp} (hs : ss[j]? = some r) : ∃ ad, A = some ad ∧ w.cell? (ad.add (j * 3)) = some (.int .i64 (r.1 : Int)) ∧
    w.cell? ⟨(ad.add (j * 3)).block, (ad.add (j * 3)).off + 1, none⟩ = some (.int .i64 (r.2.1 : Int)) ∧ w.cell? ⟨(ad.add (j * 3)).block, (ad.add (j * 3)).off + 2, none⟩ = some (.int .u32 (r.2.2 : Int)) := by
  have hn : 0 < n := by have := h.len; have := (List.getElem?_eq_some_iff.1 hs).1; omega
  obtain ⟨g, c', hv, _, _, _⟩ := h.form hn
  obtain ⟨rfl, rfl⟩ : A = some ⟨g, 0, none⟩ ∧ c = c' := by injection hv with q1 q2 q3; exact ⟨q1, q3⟩
  have e : (⟨g, 0, none⟩ : Addr).add (j * 3) = ⟨g, j * 3, none⟩ := by rw [add_at, Nat.zero_add]
  refine ⟨_, rfl, ?_, ?_, ?_⟩ <;> rw [e]
  · exact h.cell hs (r := 0) (by omega)
  · exact h.cell hs (r := 1) (by omega)
  · exact h.cell hs (r := 2) (by omega)
theorem infoRp : (Tryz.prog.info? 54).map (fun i => (i.zero, i.size, i.bytes)) = some (some (.agg #[.int .i64 0, .int .i64 0, .int .u32 0]), 3, 24) := by kernel_rfl
theorem rpL_one (ss : List Rp) : ∀ u ∈ ss.flatMap rpL, u.oneCell' = true := by
  intro u hu
  obtain ⟨s, _, h⟩ := List.mem_flatMap.1 hu
  simp [rpL] at h
  rcases h with rfl | rfl | rfl <;> rfl
theorem wpList_append_rps {w : World} {ops : Array Oper} {rest : List Oper} {o : Oper} {a : Act} {Q : Exit → Act → World → Prop} (hgd : o.guard = none) (s x : Operand)
    (ho : o.op = .call { callee := .builtin .append, args := #[s, x], argTypes := #[34, 34] })
    (base : Nat) (v : Value) (n : Nat) (ss : List Rp) (hs : a.eval s = v) (hown : OwnR w base v n ss) (ad : Addr) (m c : Nat) (qs : List Rp) (hx : a.eval x = .slice (some ad) m c) (hm : qs.length = m) (hq : ∀ j u, (qs.flatMap rpL)[j]? = some u → w.cell? (ad.add j) = some u) (h0 : 0 < m) (hn : (n + m) * 24 ≤ 140737488355328) (hbase : base ≤ w.heap.size)
    (h : ∀ G cap w', OwnR w' base (.slice (some ⟨G, 0, none⟩) (n + m) cap) (n + m) (ss ++ qs) → w.grownBy w' v.ownBlock → (v.ownBlock = some G ∨ G = w.heap.size) → wpList Tryz.prog ops Q rest (a.put o.dst (.slice (some ⟨G, 0, none⟩) (n + m) cap)) w') : wpList Tryz.prog ops Q (o :: rest) a w := by
  obtain ⟨i, hi, hz, hsz, hby⟩ := info_parts infoRp
  refine wpList_append_lies w hgd s x 34 ho base 54 i _ 3 24 Tryz.underlying34 hi hz hsz hby rfl (by omega) v n _ hs hown ad m c (qs.flatMap rpL) hx (by rw [rpL_len, hm]) hq (rpL_one qs) h0 (by unfold maxLen; omega) hn hbase _ rfl ?_
  intro G cap w' h2 h3 h4 _
  refine h G cap w' ?_ h3 h4
  unfold OwnR
  rw [List.flatMap_append]
  exact h2
theorem step_append_rps {w : World} {ops : Array Oper} {o : Oper} {a : Act} {K : Act → World → Prop} {Q : Exit → Act → World → Prop} {E : Prop} (hgd : o.guard = none) (s x : Operand)
    (ho : o.op = .call { callee := .builtin .append, args := #[s, x], argTypes := #[34, 34] })
    (base : Nat) (v : Value) (n : Nat) (ss : List Rp) (hs : a.eval s = v) (hown : OwnR w base v n ss) (ad : Addr) (m c : Nat) (qs : List Rp) (hx : a.eval x = .slice (some ad) m c) (hm : qs.length = m) (hq : ∀ j u, (qs.flatMap rpL)[j]? = some u → w.cell? (ad.add j) = some u) (h0 : 0 < m) (hn : (n + m) * 24 ≤ 140737488355328) (hbase : base ≤ w.heap.size)
    (h : ∀ G cap w', OwnR w' base (.slice (some ⟨G, 0, none⟩) (n + m) cap) (n + m) (ss ++ qs) → w.grownBy w' v.ownBlock → (v.ownBlock = some G ∨ G = w.heap.size) → K (a.put o.dst (.slice (some ⟨G, 0, none⟩) (n + m) cap)) w') :
    if Region.wanted o (yielded ops a.tmps) = true then Oper.wp Tryz.prog o a w K Q else E := by
  obtain ⟨i, hi, hz, hsz, hby⟩ := info_parts infoRp
  refine step_append_lies w hgd s x 34 ho base 54 i _ 3 24 Tryz.underlying34 hi hz hsz hby rfl (by omega) v n _ hs hown ad m c (qs.flatMap rpL) hx (by rw [rpL_len, hm]) hq (rpL_one qs) h0 (by unfold maxLen; omega) hn hbase _ rfl ?_
  intro G cap w' h2 h3 h4 _
  refine h G cap w' ?_ h3 h4
  unfold OwnR
  rw [List.flatMap_append]
  exact h2

theorem OwnR.turn {S : Nat → Prop} {w w' : World} {base n : Nat} {v : Value} {ss : List Rp} (h : OwnR w base v n ss) (ht : Turn S w w') (hS : ∀ i, v.ownBlock = some i → ¬ S i) : OwnR w' base v n ss := h.keep fun i hi hlt => ht.block i hlt (hS i hi)
theorem OwnR.low {w : World} {base base' n : Nat} {v : Value} {ss : List Rp} (h : OwnR w base v n ss) (hl : base' ≤ base) : OwnR w base' v n ss := own_low h hl

/-- A slice of replies that a call made. -/
def RpsPost (rs : List Rp) (w : World) (e : Ending) (w' : World) : Prop := ∃ A c, e = .returned (.slice A rs.length c) ∧ OwnR w' w.heap.size (.slice A rs.length c) rs.length rs ∧ Below w.heap.size w w'
theorem rclone_any (A : Option Addr) (c L : Nat) (ts : List Rp) (w : World) (h : OwnR w L (.slice A ts.length c) ts.length ts) (h0 : ts = [] → A = none) (hto : ts.length ≤ 1099511627776) :
    Calls Tryz.prog 40 #[.slice A ts.length c] w (RpsPost ts w) := by
  by_cases hs : ts = []
  · obtain rfl := h0 hs
    subst hs
    have HP : Hid (RpsPost [] w (.returned (.slice none 0 0)) w) := keepHid ⟨none, 0, rfl, OwnR.nil _ _, Below.refl _ _⟩
    have hq := Lib.run_eql_slice_nil_nil (P := Tryz.prog) w 0 c Tryz.underlying34
    clear h
    go_enter Tryz.func40, Tryz.ntmps40
    go_wp2
    go_ret
    exact HP.out
  · have hn : 0 < ts.length := List.length_pos_iff.2 hs
    obtain ⟨G, c', e2, hG, hlt, hnc⟩ := h.form hn
    obtain ⟨rfl, rfl⟩ : A = some ⟨G, 0, none⟩ ∧ c = c' := by injection e2 with q1 q2 q3; exact ⟨q1, q3⟩
    obtain ⟨w1, hw1⟩ : ∃ w1, w.alloc (.cells #[] 54) = w1 := ⟨_, rfl⟩
    have hb1 : Below w.heap.size w w1 := by rw [← hw1]; exact (Below.refl _ _).alloc (Nat.le_refl _) _
    have H0 : Hid (OwnR w1 w.heap.size (.slice (some ⟨w.heap.size, 0, none⟩) 0 0) 0 []) := keepHid (by rw [← hw1]; exact World.ownsRow_lit (base := w.heap.size) (e := 54) (size := 3) w #[] 0 (Nat.le_refl _) (by unfold maxLen; omega) rfl)
    have HC : Hid (∀ j u, (ts.flatMap rpL)[j]? = some u → w1.cell? ((⟨G, 0, none⟩ : Addr).add j) = some u) := keepHid (fun j u hu => (hb1.cell (by rw [ad_block]; exact hlt)).trans (World.ownsRow.cells h rfl j u hu))
    have HB : Hid (Below w.heap.size w w1) := keepHid hb1
    have hq := Lib.run_eql_slice_some_nil (P := Tryz.prog) w ⟨G, 0, none⟩ ts.length c Tryz.underlying34
    have hN : (ts.length : Int) ≤ 1099511627776 := by omega
    obtain ⟨N, hNN⟩ : ∃ N, ts.length = N := ⟨_, rfl⟩
    have HN := keepHid hNN
    have HPP : Hid (∀ G2 cap w2, OwnR w2 w.heap.size (.slice (some ⟨G2, 0, none⟩) N cap) N ts → w1.grownBy w2 (Value.slice (some ⟨w.heap.size, 0, none⟩) 0 0).ownBlock → RpsPost ts w (.returned (.slice (some ⟨G2, 0, none⟩) N cap)) w2) := keepHid (fun G2 cap w2 q1 q2 => by
      refine ⟨_, cap, by rw [hNN], by rw [hNN]; exact q1, HB.out.trans (below_grown q2 (fun i hi => ?_) HB.out.size)⟩
      rw [← Option.some.inj hi]
      exact Nat.le_refl _)
    rw [hNN] at hn hnc hq hN ⊢
    clear h hb1 e2 hs h0 hNN
    go_enter Tryz.func40, Tryz.ntmps40
    go_wp2_with (at_builtin; refine wpList_append_rps rfl _ _ rfl w.heap.size (.slice (some ⟨w.heap.size, 0, none⟩) 0 0) 0 [] (by rfl) H0.out ⟨G, 0, none⟩ N c ts (by rfl) HN.out HC.out hn (by omega) HB.out.size ?_)
    intro G2 cap2 w2 q1 q2 q3
    have HP := keepHid (HPP.out G2 cap2 w2 q1 q2)
    clear q1 q2 q3
    go_wp2
    go_ret
    exact HP.out


/-! ### Pieces -/
/-- A line that is on its way: colour 3. -/
structure LineAt (w0 w : World) (κ : Nat → Nat) (lv : Value) (ln : List UInt8) : Prop where
  own : OwnB w w0.heap.size 5 lv ln.length ln
  col : ∀ i, lv.ownBlock = some i → κ i = 3
/-- Replies: colour 4. -/
structure RepsAt (w0 w : World) (κ : Nat → Nat) (rv : Value) (rp : List Rp) : Prop where
  own : OwnR w w0.heap.size rv rp.length rp
  col : ∀ i, rv.ownBlock = some i → κ i = 4
  nil : rp = [] → rv = .slice none 0 0
/-- A receiver of blocks of a load: colour 5. -/
def OneAt (w0 w : World) (κ : Nat → Nat) (p : BP Fl) (GR : Nat) (crc : Bool) (r : Rd) : Prop :=
  ∃ O B, w0.heap.size ≤ B ∧ Rcv w B GR O crc true p.W r ∧ ∀ i, O i → κ i = 5
/-- A receiver of files of a load: colour 5. -/
def FilesAt (w0 w : World) (κ : Nat → Nat) (p : BP Fl) (z1 z2 : Int) (GR : Nat) (b : Br Fl) : Prop :=
  ∃ O B, w0.heap.size ≤ B ∧ Brv w B GR O p z1 z2 b ∧ ∀ i, O i → κ i = 5
/-- What receives a load, in an interface. -/
def LodAt (w0 w : World) (κ : Nat → Nat) (p : BP Fl) (z1 z2 : Int) (iv : Value) : Lod → Prop
  | .non => iv = .nilIface
  | .one crc r => ∃ GR, iv = .iface 76 (ptV GR) ∧ OneAt w0 w κ p GR crc r
  | .files b => ∃ GR, iv = .iface 77 (ptV GR) ∧ FilesAt w0 w κ p z1 z2 GR b
section
variable {w0 w w' : World} {κ κ' : Nat → Nat} {S : Nat → Prop}
theorem LineAt.turns {lv : Value} {ln : List UInt8} (h : LineAt w0 w κ lv ln) (ht : Turn S w w') (hS : ∀ i, κ i = 3 → ¬ S i) : LineAt w0 w' κ lv ln :=
  ⟨h.own.keep fun i hi hlt => ht.block i hlt (hS i (h.col i hi)), h.col⟩
theorem LineAt.hue {lv : Value} {ln : List UInt8} (h : LineAt w0 w κ lv ln) (hk : ∀ i, κ i = 3 → κ' i = 3) : LineAt w0 w κ' lv ln := ⟨h.own, fun i hi => hk i (h.col i hi)⟩
theorem LineAt.nil_ (w0 w : World) (κ : Nat → Nat) : LineAt w0 w κ (.slice none 0 0) [] := ⟨OwnB.nil _ _ _, fun i hi => by simp [Value.ownBlock] at hi⟩
theorem RepsAt.turns {rv : Value} {rp : List Rp} (h : RepsAt w0 w κ rv rp) (ht : Turn S w w') (hS : ∀ i, κ i = 4 → ¬ S i) : RepsAt w0 w' κ rv rp :=
  ⟨h.own.turn ht fun i hi => hS i (h.col i hi), h.col, h.nil⟩
theorem RepsAt.hue {rv : Value} {rp : List Rp} (h : RepsAt w0 w κ rv rp) (hk : ∀ i, κ i = 4 → κ' i = 4) : RepsAt w0 w κ' rv rp := ⟨h.own, fun i hi => hk i (h.col i hi), h.nil⟩
theorem OneAt.turns {p : BP Fl} {GR : Nat} {crc : Bool} {r : Rd} (h : OneAt w0 w κ p GR crc r) (ht : Turn S w w') (hS : ∀ i, κ i = 5 → ¬ S i) : OneAt w0 w' κ p GR crc r := by
  obtain ⟨O, B, e2, e3, e4⟩ := h
  exact ⟨O, B, e2, e3.turns ht fun i hi => hS i (e4 i hi), e4⟩
theorem FilesAt.turns {p : BP Fl} {z1 z2 : Int} {GR : Nat} {b : Br Fl} (h : FilesAt w0 w κ p z1 z2 GR b) (ht : Turn S w w') (hS : ∀ i, κ i = 5 → ¬ S i) : FilesAt w0 w' κ p z1 z2 GR b := by
  obtain ⟨O, B, e2, e3, e4⟩ := h
  exact ⟨O, B, e2, e3.turns ht fun i hi => hS i (e4 i hi), e4⟩
theorem OneAt.hue {p : BP Fl} {GR : Nat} {crc : Bool} {r : Rd} (h : OneAt w0 w κ p GR crc r) (hk : ∀ i, κ i = 5 → κ' i = 5) : OneAt w0 w κ' p GR crc r := by
  obtain ⟨O, B, e2, e3, e4⟩ := h
  exact ⟨O, B, e2, e3, fun i hi => hk i (e4 i hi)⟩
theorem FilesAt.hue {p : BP Fl} {z1 z2 : Int} {GR : Nat} {b : Br Fl} (h : FilesAt w0 w κ p z1 z2 GR b) (hk : ∀ i, κ i = 5 → κ' i = 5) : FilesAt w0 w κ' p z1 z2 GR b := by
  obtain ⟨O, B, e2, e3, e4⟩ := h
  exact ⟨O, B, e2, e3, fun i hi => hk i (e4 i hi)⟩
theorem LodAt.turns {p : BP Fl} {z1 z2 : Int} {iv : Value} {l : Lod} (h : LodAt w0 w κ p z1 z2 iv l) (ht : Turn S w w') (hS : ∀ i, κ i = 5 → ¬ S i) : LodAt w0 w' κ p z1 z2 iv l := by
  cases l with
  | non => exact h
  | one crc r => obtain ⟨GR, e1, e2⟩ := h; exact ⟨GR, e1, e2.turns ht hS⟩
  | files b => obtain ⟨GR, e1, e2⟩ := h; exact ⟨GR, e1, e2.turns ht hS⟩
theorem LodAt.hue {p : BP Fl} {z1 z2 : Int} {iv : Value} {l : Lod} (h : LodAt w0 w κ p z1 z2 iv l) (hk : ∀ i, κ i = 5 → κ' i = 5) : LodAt w0 w κ' p z1 z2 iv l := by
  cases l with
  | non => exact h
  | one crc r => obtain ⟨GR, e1, e2⟩ := h; exact ⟨GR, e1, e2.hue hk⟩
  | files b => obtain ⟨GR, e1, e2⟩ := h; exact ⟨GR, e1, e2.hue hk⟩
theorem LodAt.or {p : BP Fl} {z1 z2 : Int} {iv : Value} {l : Lod} (h : LodAt w0 w κ p z1 z2 iv l) : (l = .non ∧ iv = .nilIface) ∨ (l ≠ .non ∧ ∃ t g, iv = .iface t (ptV g)) := by
  cases l with
  | non => exact .inl ⟨rfl, h⟩
  | one crc r => obtain ⟨GR, e1, _⟩ := h; exact .inr ⟨by simp, _, _, e1⟩
  | files b => obtain ⟨GR, e1, _⟩ := h; exact .inr ⟨by simp, _, _, e1⟩
end

/-! ### A Target -/
def tgtC (GS : Nat) (z1 z2 : Int) (aw : Bool) (lv iv : Value) (ad : Nat) (rv : Value) : Array Value :=
  #[ptV GS, .int .i64 z1, .int .i64 z2, .bool aw, lv, iv, .int .i64 (ad : Int), rv]
/-- What a board stands on: what lies at start-up, and what its Config comes to. -/
structure Stan (w0 w : World) (p : BP Fl) (z1 z2 : Int) : Prop where
  bel : Below w0.heap.size w0 w
  sup : Sup w0
  T : capZ z1 9 = p.T
  W : capZ z2 99 = p.W
theorem Stan.supw {w0 w : World} {p : BP Fl} {z1 z2 : Int} (h : Stan w0 w p z1 z2) : Sup w := h.sup.below h.bel (Nat.le_refl _)
theorem Stan.std {w0 w : World} {p : BP Fl} {z1 z2 : Int} (h : Stan w0 w p z1 z2) : Std w0 w := ⟨h.sup.tabs, h.sup.errs, h.bel⟩
theorem Stan.turns {S : Nat → Prop} {w0 w w' : World} {p : BP Fl} {z1 z2 : Int} (h : Stan w0 w p z1 z2) (ht : Turn S w w') (hS : ∀ i, S i → w0.heap.size ≤ i) : Stan w0 w' p z1 z2 := ⟨h.bel.trans (ht.below hS h.bel.size), h.sup, h.T, h.W⟩
theorem Stan.below {w0 w w' : World} {p : BP Fl} {z1 z2 : Int} (h : Stan w0 w p z1 z2) (hb : Below w.heap.size w w') : Stan w0 w' p z1 z2 := ⟨h.bel.trans (hb.mono h.bel.size), h.sup, h.T, h.W⟩
/-- A Target in block G (colour 1), its Store in block GS (colour 2). -/
structure TgtM (w0 w : World) (G : Nat) (κ : Nat → Nat) (p : BP Fl) (z1 z2 : Int) (GS : Nat) (lv iv rv : Value) (s : Bd) : Prop where
  blk : Blk w G 36 (tgtC GS z1 z2 s.aw lv iv s.ad rv)
  g : κ G = 1
  gs : κ GS = 2
  sto : Sto w GS s.st
  line : LineAt w0 w κ lv s.ln
  reps : RepsAt w0 w κ rv s.rp
  lod : LodAt w0 w κ p z1 z2 iv s.ld
  lt : ∀ i, κ i ≠ 0 → w0.heap.size ≤ i ∧ i < w.heap.size
  base : Stan w0 w p z1 z2
def Tgt (w0 w : World) (G : Nat) (κ : Nat → Nat) (p : BP Fl) (z1 z2 : Int) (s : Bd) : Prop := ∃ GS lv iv rv, TgtM w0 w G κ p z1 z2 GS lv iv rv s
section
variable {w0 w w' : World} {G GS : Nat} {κ κ' : Nat → Nat} {p : BP Fl} {z1 z2 : Int} {lv iv rv : Value} {s : Bd}
theorem TgtM.turns {S : Nat → Prop} (h : TgtM w0 w G κ p z1 z2 GS lv iv rv s) (ht : Turn S w w') (hS : ∀ i, S i → κ i = 0 ∧ w0.heap.size ≤ i) : TgtM w0 w' G κ p z1 z2 GS lv iv rv s := by
  obtain ⟨h1, h2, h3, h4, h5, h6, h7, h8, h9⟩ := h
  have hn : ∀ (k : Nat), k ≠ 0 → ∀ i, κ i = k → ¬ S i := fun k hk i hi hs => by have := (hS i hs).1; omega
  exact ⟨ht.blk h1 (hn 1 (by omega) G h2), h2, h3, h4.turn ht (hn 2 (by omega) GS h3), h5.turns ht (hn 3 (by omega)), h6.turns ht (hn 4 (by omega)), h7.turns ht (hn 5 (by omega)), fun i hi => ⟨(h8 i hi).1, Nat.lt_of_lt_of_le (h8 i hi).2 ht.size⟩, h9.turns ht fun i hi => (hS i hi).2⟩
theorem TgtM.below (h : TgtM w0 w G κ p z1 z2 GS lv iv rv s) (hb : Below w.heap.size w w') : TgtM w0 w' G κ p z1 z2 GS lv iv rv s := h.turns (S := fun _ => False) (Turn.of_below hb) (fun _ h => h.elim)
theorem Tgt.turns {S : Nat → Prop} (h : Tgt w0 w G κ p z1 z2 s) (ht : Turn S w w') (hS : ∀ i, S i → κ i = 0 ∧ w0.heap.size ≤ i) : Tgt w0 w' G κ p z1 z2 s := by
  obtain ⟨a, b, c, d, h⟩ := h; exact ⟨a, b, c, d, h.turns ht hS⟩
theorem Tgt.below (h : Tgt w0 w G κ p z1 z2 s) (hb : Below w.heap.size w w') : Tgt w0 w' G κ p z1 z2 s := by
  obtain ⟨a, b, c, d, h⟩ := h; exact ⟨a, b, c, d, h.below hb⟩
theorem Tgt.lt (h : Tgt w0 w G κ p z1 z2 s) : ∀ i, κ i ≠ 0 → w0.heap.size ≤ i ∧ i < w.heap.size := by obtain ⟨a, b, c, d, h⟩ := h; exact h.lt
theorem Tgt.base (h : Tgt w0 w G κ p z1 z2 s) : Stan w0 w p z1 z2 := by obtain ⟨a, b, c, d, h⟩ := h; exact h.base
/-- The Target's own cells are written anew, and a piece with them. -/
theorem TgtM.anew {s' : Bd} {lv' iv' rv' : Value} (h : TgtM w0 w G κ p z1 z2 GS lv iv rv s) (ht : Turn (fun i => i = G) w w') (hb : Blk w' G 36 (tgtC GS z1 z2 s'.aw lv' iv' s'.ad rv'))
    (hk : ∀ i, κ' i ≠ 0 → w0.heap.size ≤ i ∧ i < w'.heap.size) (hh : ∀ i, κ i = 1 ∨ κ i = 2 → κ' i = κ i) (hst : s'.st = s.st) (hl : LineAt w0 w' κ' lv' s'.ln) (hr : RepsAt w0 w' κ' rv' s'.rp) (hd : LodAt w0 w' κ' p z1 z2 iv' s'.ld) : TgtM w0 w' G κ' p z1 z2 GS lv' iv' rv' s' := by
  obtain ⟨h1, h2, h3, h4, h5, h6, h7, h8, h9⟩ := h
  have hne : GS ≠ G := fun e => by rw [e] at h3; omega
  refine ⟨hb, by rw [hh G (.inl h2)]; exact h2, by rw [hh GS (.inr h3)]; exact h3, by rw [hst]; exact h4.turn ht hne, hl, hr, hd, hk, h9.turns ht fun i hi => ?_⟩
  rw [hi]; exact (h8 G (by omega)).1
end
/-- What a call leaves: the Target in its new state; only its own blocks have turned. -/
def TOut (w0 : World) (G : Nat) (κ : Nat → Nat) (p : BP Fl) (z1 z2 : Int) (s' : Bd) (w w' : World) : Prop :=
  ∃ κ', Tgt w0 w' G κ' p z1 z2 s' ∧ Turn (fun i => κ i ≠ 0) w w' ∧ ∀ i, κ' i ≠ 0 → κ i ≠ 0 ∨ w.heap.size ≤ i
theorem TOut.of {w0 w w1 w' : World} {G : Nat} {κ κ1 : Nat → Nat} {p : BP Fl} {z1 z2 : Int} {s' : Bd} (ht : Turn (fun i => κ i ≠ 0) w w1) (hk : ∀ i, κ1 i ≠ 0 → κ i ≠ 0 ∨ w.heap.size ≤ i) (h : TOut w0 G κ1 p z1 z2 s' w1 w') : TOut w0 G κ p z1 z2 s' w w' := by
  obtain ⟨κ', h1, h2, h3⟩ := h
  refine ⟨κ', h1, ?_, fun i hi => ?_⟩
  · refine ⟨h2.os.trans ht.os, h2.tape.trans ht.tape, h2.output.trans ht.output, Nat.le_trans ht.size h2.size, fun i hi hn => (h2.block i (Nat.lt_of_lt_of_le hi ht.size) (fun h1 => ?_)).trans (ht.block i hi hn)⟩
    rcases hk i h1 with h2 | h2
    · exact hn h2
    · omega
  · rcases h3 i hi with h1 | h1
    · exact hk i h1
    · exact .inr (Nat.le_trans ht.size h1)
/-- As it is. -/
theorem TOut.same {w0 w w' : World} {G : Nat} {κ : Nat → Nat} {p : BP Fl} {z1 z2 : Int} {s : Bd} (h : Tgt w0 w G κ p z1 z2 s) (hb : Below w.heap.size w w') : TOut w0 G κ p z1 z2 s w w' :=
  ⟨κ, h.below hb, Turn.of_below hb, fun i hi => .inl hi⟩

/-! ### Small contracts -/
section
variable {w0 w : World} {G GS : Nat} {κ : Nat → Nat} {p : BP Fl} {z1 z2 : Int} {lv iv rv : Value} {s : Bd}
theorem memory_any {aw : Bool} {ad : Nat} (h : Blk w G 36 (tgtC GS z1 z2 aw lv iv ad rv)) :
    Calls Tryz.prog 45 #[ptV G] w fun e w' => e = .returned (ptV GS) ∧ w = w' := by
  have c0 : w.cell? ⟨G, 0, none⟩ = some (.pointer (some ⟨GS, 0, none⟩)) := h.cell 0
  unfold ptV
  go_enter Tryz.func45, Tryz.ntmps45
  go_wp2
  go_ret
  exact ⟨rfl, rfl⟩
theorem loads_any (h : Tgt w0 w G κ p z1 z2 s) :
    Calls Tryz.prog 26 #[ptV G] w fun e w' => e = .returned (.bool (!s.ld.isNon)) ∧ w = w' := by
  obtain ⟨GS, lv, iv, rv, h⟩ := h
  have c5 : w.cell? ⟨G, 5, none⟩ = some iv := h.blk.cell 5
  have hl := h.lod.or
  clear h
  unfold ptV at *
  rcases hl with ⟨h1, rfl⟩ | ⟨h1, t, g, rfl⟩
  all_goals
    go_enter Tryz.func26, Tryz.ntmps26
    go_wp2
    go_ret
  · exact ⟨by rw [h1]; rfl, rfl⟩
  · refine ⟨?_, rfl⟩
    cases hs : s.ld with
    | non => exact absurd hs h1
    | one crc r => rfl
    | files b => rfl
theorem replies_any (h : Tgt w0 w G κ p z1 z2 s) (hn : s.rp.length ≤ 1099511627776) :
    Calls Tryz.prog 24 #[ptV G] w (RpsPost s.rp w) := by
  obtain ⟨GS, lv, iv, rv, h⟩ := h
  obtain ⟨A, c, hrv⟩ : ∃ A c, rv = .slice A s.rp.length c := by
    rcases h.reps.own.2 with ⟨e, e2⟩ | ⟨g, cap, cur, e, _⟩
    · exact ⟨none, 0, by rw [e, e2]⟩
    · exact ⟨_, cap, e⟩
  subst hrv
  have c7 : w.cell? ⟨G, 7, none⟩ = some (.slice A s.rp.length c) := h.blk.cell 7
  have HC := keepHid (rclone_any A c w0.heap.size s.rp w h.reps.own (fun e => by have := h.reps.nil e; injection this) hn)
  clear h hn
  unfold ptV
  go_enter Tryz.func24, Tryz.ntmps24
  go_wp2_with fail
  refine HC.out.mono ?_
  rintro e w' hp
  obtain ⟨A', c', rfl, hp2⟩ := hp
  have HP := keepHid hp2
  clear hp2
  go_wp2
  go_ret
  exact ⟨A', c', rfl, HP.out⟩
end
def OfTPost (w0 : World) (p : BP Fl) (z1 z2 : Int) (w : World) (e : Ending) (w' : World) : Prop :=
  ∃ G κ, e = .returned (ptV G) ∧ Tgt w0 w' G κ p z1 z2 new20 ∧ Below w.heap.size w w' ∧ ∀ i, κ i ≠ 0 → w.heap.size ≤ i
attribute [local irreducible] zrow
set_option maxRecDepth 100000 in
set_option maxHeartbeats 4000000 in
theorem of_any20 {w0 w : World} {p : BP Fl} {z1 z2 : Int} (h : Stan w0 w p z1 z2) :
    Calls Tryz.prog 10 #[.agg #[.int .i64 z1, .int .i64 z2]] w (OfTPost w0 p z1 z2 w) := by
  obtain ⟨w1, hw1⟩ : ∃ w1, w.alloc (.cells #[.int .i64 z1, .int .i64 z2] 23) = w1 := ⟨_, rfl⟩
  obtain ⟨w2, hw2⟩ : ∃ w2, w1.alloc (.cells (zrow 16384) 75) = w2 := ⟨_, rfl⟩
  obtain ⟨w3, hw3⟩ : ∃ w3, w2.alloc (.cells (tgtC w1.heap.size z1 z2 false (.slice none 0 0) .nilIface 0 (.slice none 0 0)) 36) = w3 := ⟨_, rfl⟩
  have s1 : w1.heap.size = w.heap.size + 1 := by rw [← hw1]; simp
  have s2 : w2.heap.size = w1.heap.size + 1 := by rw [← hw2]; simp
  have s3 : w3.heap.size = w2.heap.size + 1 := by rw [← hw3]; simp
  have b1 : Below w.heap.size w w1 := by rw [← hw1]; exact (Below.refl _ _).alloc (Nat.le_refl _) _
  have b2 : Below w.heap.size w w2 := by rw [← hw2]; exact b1.alloc (by omega) _
  have b3 : Below w.heap.size w w3 := by rw [← hw3]; exact b2.alloc (by omega) _
  have k2 : Sto w2 w1.heap.size (zeros 16384) := by rw [← hw2]; exact sto_new w1 _ rfl _ rfl
  have k3 : Sto w3 w1.heap.size (zeros 16384) := by rw [← hw3]; exact k2.alloc _
  have d0 : w1.cell? ⟨w.heap.size, 0, none⟩ = some (.int .i64 z1) := by rw [← hw1]; exact (Blk.new w 23 #[.int .i64 z1, .int .i64 z2]).cell 0
  have d1 : w1.cell? ⟨w.heap.size, 1, none⟩ = some (.int .i64 z2) := by rw [← hw1]; exact (Blk.new w 23 #[.int .i64 z1, .int .i64 z2]).cell 1
  have e0 : w2.cell? ⟨w.heap.size, 0, none⟩ = some (.int .i64 z1) := by
    have hb : Below w1.heap.size w1 w2 := by rw [← hw2]; exact (Below.refl _ _).alloc (Nat.le_refl _) _
    exact (hb.cell (show _ < w1.heap.size by show w.heap.size < _; omega)).trans d0
  have e1 : w2.cell? ⟨w.heap.size, 1, none⟩ = some (.int .i64 z2) := by
    have hb : Below w1.heap.size w1 w2 := by rw [← hw2]; exact (Below.refl _ _).alloc (Nat.le_refl _) _
    exact (hb.cell (show _ < w1.heap.size by show w.heap.size < _; omega)).trans d1
  have HP : Hid (OfTPost w0 p z1 z2 w (.returned (ptV w2.heap.size)) w3) := keepHid (by
    have hbe := h.bel.size
    refine ⟨w2.heap.size, fun i => if i = w2.heap.size then 1 else if i = w1.heap.size then 2 else 0, rfl, ⟨w1.heap.size, _, _, _, ⟨by rw [← hw3]; exact Blk.new w2 _ _, by simp, ?_, k3, LineAt.nil_ _ _ _, ⟨OwnR.nil _ _, fun i hi => by simp [Value.ownBlock] at hi, fun _ => rfl⟩, rfl, fun i hi => ?_, h.below b3⟩⟩, b3, fun i hi => ?_⟩
    · show (if w1.heap.size = w2.heap.size then 1 else if w1.heap.size = w1.heap.size then 2 else 0) = 2
      rw [if_neg (by omega), if_pos rfl]
    · have hi : (if i = w2.heap.size then 1 else if i = w1.heap.size then 2 else 0) ≠ 0 := hi
      split at hi
      · omega
      · split at hi
        · omega
        · exact absurd rfl hi
    · have hi : (if i = w2.heap.size then 1 else if i = w1.heap.size then 2 else 0) ≠ 0 := hi
      split at hi
      · omega
      · split at hi
        · omega
        · exact absurd rfl hi)
  have hz : ∀ w : World, (zeroValue 75).run Tryz.prog w = .ok (.agg (zrow 16384)) w := zero_run
  clear b1 b2 b3 k2 k3 d0 d1 h s2 s3
  have HW1 := keepHid hw1
  have HW2 := keepHid hw2
  have HW3 := keepHid hw3
  unfold tgtC ptV at hw3
  rw [s1] at hw3
  go_enter Tryz.func10, Tryz.ntmps10
  go_wp2
  go_ret
  have hq := HP.out
  rw [← HW3.out] at hq
  unfold tgtC ptV at hq
  rw [s1] at hq
  exact hq


def FinPost (w0 : World) (G : Nat) (κ : Nat → Nat) (p : BP Fl) (z1 z2 : Int) (s : Bd) (w : World) (e : Ending) (w' : World) : Prop :=
  e = .returned (.string (strB (fin20 s).1)) ∧ TOut w0 G κ p z1 z2 (fin20 s).2 w w'
theorem fin_no {s : Bd} (h : s.ld.ov = false) : fin20 s = ([], s) := by unfold fin20; rw [if_pos h]
theorem fin_yes {s : Bd} (h : s.ld.ov = true) (h1 : s.ld.er = 0) (h2 : s.ad + s.ld.da.length ≤ 16384) : fin20 s = (readyL, { s with ld := .non, st := splice s.st s.ad s.ld.da }) := by unfold fin20; rw [if_neg (by rw [h]; simp), if_pos ⟨h1, h2⟩]
theorem fin_bad {s : Bd} (h : s.ld.ov = true) (h1 : ¬ (s.ld.er = 0 ∧ s.ad + s.ld.da.length ≤ 16384)) : fin20 s = (33 :: readyL, { s with ld := .non }) := by unfold fin20; rw [if_neg (by rw [h]; simp), if_neg h1]
theorem errV_ne {e : Nat} (h : e ≠ 0) : ∃ v, errV e = .iface 107 v := ⟨_, by unfold errV; rw [if_neg h]⟩
theorem errV_zero : errV 0 = .nilIface := rfl
/-- A Target whose load is over, its cell struck out: what is left of the call. -/
theorem fin_struck {w0 w w2 w3 : World} {G GS : Nat} {κ : Nat → Nat} {p : BP Fl} {z1 z2 : Int} {lv iv rv : Value} {s : Bd} (h : TgtM w0 w G κ p z1 z2 GS lv iv rv s) (hb : Below w.heap.size w w2) (h3 : w2.setCell ⟨G, 5, none⟩ .nilIface = w3) :
    TgtM w0 w3 G κ p z1 z2 GS lv .nilIface rv { s with ld := .non } ∧ Turn (fun i => i = G) w w3 ∧ w3.heap.size = w2.heap.size := by
  have h2 := h.below hb
  have ht : Turn (fun i => i = G) w2 w3 := by rw [← h3]; exact turnAt _ _ (Turn.refl _ w2)
  have hs : w3.heap.size = w2.heap.size := by rw [← h3]; simp
  have hn : ∀ k, k ≠ 1 → ∀ i, κ i = k → ¬ i = G := fun k hk i hi e => by rw [e, h.g] at hi; exact hk hi.symm
  refine ⟨h2.anew ht (by rw [← h3]; exact h2.blk.put 5 _) (fun i hi => ⟨(h2.lt i hi).1, by rw [hs]; exact (h2.lt i hi).2⟩) (fun i _ => rfl) rfl (h2.line.turns ht (hn 3 (by omega))) (h2.reps.turns ht (hn 4 (by omega))) rfl, (Turn.of_below hb).trans ht, hs⟩
/-- The data are written, or nothing: the end. -/
theorem fin_out {w0 w w3 wx w4 : World} {G GS : Nat} {κ : Nat → Nat} {p : BP Fl} {z1 z2 : Int} {lv rv : Value} {s : Bd} {st' : List UInt8} (h : TgtM w0 w3 G κ p z1 z2 GS lv .nilIface rv { s with ld := .non }) (hT : Turn (fun i => i = G) w w3) (hg : κ G = 1) (hx : Below w3.heap.size w3 wx)
    (ht : Turn (fun i => i = GS) wx w4) (hs : Sto w4 GS st') : TOut w0 G κ p z1 z2 { s with ld := .non, st := st' } w w4 := by
  have h2 := h.below hx
  have hn : ∀ k, k ≠ 2 → ∀ i, κ i = k → ¬ i = GS := fun k hk i hi e => by rw [e, h.gs] at hi; exact hk hi.symm
  refine ⟨κ, ⟨GS, lv, .nilIface, rv, ⟨ht.blk h2.blk (hn 1 (by omega) G h.g), h.g, h.gs, hs, h2.line.turns ht (hn 3 (by omega)), h2.reps.turns ht (hn 4 (by omega)), rfl, fun i hi => ⟨(h2.lt i hi).1, Nat.lt_of_lt_of_le (h2.lt i hi).2 ht.size⟩, h2.base.turns ht fun i hi => ?_⟩⟩, ?_, fun i hi => .inl hi⟩
  · rw [hi]; exact (h.lt GS (by rw [h.gs]; omega)).1
  · refine ((hT.mono fun i hi => ?_).trans (Turn.of_below (hx.mono ?_))).trans (ht.mono fun i hi => ?_)
    · rw [hi, hg]; omega
    · exact Nat.le_refl _
    · rw [hi, h.gs]; omega
end Go.Proofs.YtonloefjhofeeaaGreatDoor
