/-
  Several tokens put behind a row of the call's own; two texts with a line feed between, plainly.
-/
import Derived.Test.YtgokejoieafgiaaDoorTokenMore
import Derived.Test.YtgokejoieafgiaaDoorTokenSame
import Derived.Maps.AppendAt
namespace Go.Proofs.YtgokejoieafgiaaDoor
open Go.RowKit
set_option linter.unusedVariables false

theorem tkL_at (ys : List Tk) (j : Nat) (u : Value) (h : (ys.flatMap tkL)[j]? = some u) : ∃ z, ys[j / 4]? = some z ∧ (tkL z)[j % 4]? = some u := by
  have hj : j < ys.length * 4 := by rw [← tkL_len]; exact (List.getElem?_eq_some_iff.1 h).1
  have hz : ys[j / 4]? = some ys[j / 4] := List.getElem?_eq_getElem (by omega)
  refine ⟨_, hz, ?_⟩
  rw [← tkL_get ys (j / 4) _ (j % 4) hz (by omega), show j / 4 * 4 + j % 4 = j by omega]
  exact h
theorem tks_cells {w : World} {g : Nat} {ys : List Tk} (h : TkS w g ys) (j : Nat) (u : Value) (hj : (ys.flatMap tkL)[j]? = some u) : w.cell? ((⟨g, 0, none⟩ : Addr).add j) = some u := by
  obtain ⟨z, hz, hu⟩ := tkL_at ys j u hj
  obtain ⟨h0, h1, h2, h3⟩ := h.at_ _ z hz
  have e : (⟨g, 0, none⟩ : Addr).add j = ⟨g, j / 4 * 4 + j % 4, none⟩ := by
    rw [show j / 4 * 4 + j % 4 = j by omega]
    unfold Addr.add; split <;> simp_all
  rw [e]
  have hlt : j % 4 < 4 := Nat.mod_lt _ (by decide)
  generalize j % 4 = r at *
  match r, hlt with
  | 0, _ => rw [show j / 4 * 4 + 0 = j / 4 * 4 from rfl, h0]; simpa [tkL] using hu
  | 1, _ => rw [h1]; simpa [tkL] using hu
  | 2, _ => rw [h2]; simpa [tkL] using hu
  | 3, _ => rw [h3]; simpa [tkL] using hu
theorem tkL_one (ys : List Tk) : ∀ y ∈ ys.flatMap tkL, y.oneCell' = true := by
  intro y hy
  obtain ⟨z, _, hz⟩ := List.mem_flatMap.1 hy
  simp [tkL] at hz
  rcases hz with rfl | rfl | rfl | rfl <;> rfl
theorem OwnT.slice {w : World} {base n : Nat} {v : Value} {zs : List Tk} (h : OwnT w base v n zs) : ∃ A c, v = .slice A n c := by
  obtain ⟨A, c, e, _⟩ := h.form
  exact ⟨A, c, e⟩
theorem wpList_append_toks {w : World} {ops : Array Oper} {rest : List Oper} {o : Oper} {a : Act} {Q : Exit → Act → World → Prop} (hw : Region.wanted o (yielded ops a.tmps) = true) (s x : Operand)
    (ho : o.op = .call { callee := .builtin .append, args := #[s, x], argTypes := #[23, 23] })
    (base : Nat) (v : Value) (n : Nat) (zs : List Tk) (hs : a.eval s = v) (hown : OwnT w base v n zs) (g m c : Nat) (ys : List Tk) (hx : a.eval x = .slice (some ⟨g, 0, none⟩) m c) (hr : TkR w (some ⟨g, 0, none⟩) ys) (hl : ys.length = m) (k : Nat) (hk : n + m = k) (hn : k * 40 ≤ 140737488355328) (hbase : base ≤ w.heap.size)
    (h : ∀ A cap w', OwnT w' base (.slice A k cap) k (zs ++ ys) → Below base w w' → wpList Tryd.prog ops Q rest (a.put o.dst (.slice A k cap)) w') : wpList Tryd.prog ops Q (o :: rest) a w := by
  subst hk
  obtain ⟨i, hi⟩ := Option.isSome_iff_exists.1 (show (Tryd.prog.info? 36).isSome = true by kernel_rfl)
  have h0 := infoT
  rw [hi] at h0
  simp only [Option.map_some, Option.some.injEq, Prod.mk.injEq] at h0
  obtain ⟨hz, hsz, hby⟩ := h0
  have hnews : ∀ j y, (ys.flatMap tkL)[j]? = some y → w.cell? ((⟨g, 0, none⟩ : Addr).add j) = some y := by
    rcases hr with rfl | ⟨g', e, h'⟩
    · intro j y hy; simp at hy
    · injection e with e; injection e with e _ _
      subst e
      exact tks_cells h'
  have hln : (ys.flatMap tkL).length = m * 4 := by rw [tkL_len, hl]
  obtain ⟨v', w', hrun, h2, h3, h4, h5⟩ := run_append_own_at (P := Tryd.prog) w base 23 o.type 36 i _ 4 40 Tryd.underlying23 hi hz hsz hby rfl (by omega) v n _ hown ⟨g, 0, none⟩ m c (ys.flatMap tkL) hln hnews (tkL_one ys) (by unfold maxLen; omega) hn hbase
  have hown' : OwnT w' base v' (n + m) (zs ++ ys) := by
    have e : (zs ++ ys).flatMap tkL = zs.flatMap tkL ++ ys.flatMap tkL := by simp
    unfold OwnT
    rw [e]
    exact h2
  obtain ⟨A, cap, rfl⟩ := hown'.slice
  have hb : Below base w w' := ⟨h3.os, h3.tape, h3.output, World.grownBy.size h3, fun b hb => h3.block b (Nat.lt_of_lt_of_le hb hbase) (fun e => by have := (World.ownsRow.lt hown b e.symm).1; omega)⟩
  have hK := h A cap w' hown' hb
  refine wpList_step fun K hK' => ?_
  rw [if_pos hw]
  unfold Oper.wp execOp
  simp only [ho, resolve, invoke, builtin, Sem.run_bind, Sem.run_pure, Result.andThen_ok, List.map_toArray, List.map_cons, List.map_nil, hs, hx, hrun]
  exact hK' _ _ hK

/-! ### plainly -/
theorem strip_sh (d : Nat) (l : List Tk) : (l.map fun t => { t with pos := t.pos + d }).map strip = l.map strip := by
  rw [List.map_map]
  rfl
theorem blank_err {a : List UInt8} (b : List UInt8) {p : Nat} (h : cutR a 0 = .error p) : cutR (a ++ 10 :: b) 0 = .error p := (cut_app b a 0).1 p h
theorem blank_err2 {a b : List UInt8} {ts : List Tk} {q : Nat} (h : cutR a 0 = .ok ts) (h2 : cutR b 0 = .error q) : cutR (a ++ 10 :: b) 0 = .error (q + (a.length + 1)) := by
  have hs := cut_shift (a.length + 1) b 0
  rw [h2, show 0 + (a.length + 1) = 0 + a.length + 1 by omega] at hs
  rw [(cut_app b a 0).2 ts h, hs]
  rfl
theorem blank_ok {a b : List UInt8} {ts us : List Tk} (h : cutR a 0 = .ok ts) (h2 : cutR b 0 = .ok us) : ∃ vs, cutR (a ++ 10 :: b) 0 = .ok vs ∧ vs.map strip = (ts.dropLast ++ us).map strip := by
  have hs := cut_shift (a.length + 1) b 0
  rw [h2, show 0 + (a.length + 1) = 0 + a.length + 1 by omega] at hs
  refine ⟨ts.dropLast ++ us.map fun t => { t with pos := t.pos + (a.length + 1) }, ?_, ?_⟩
  · rw [(cut_app b a 0).2 ts h, hs]
    rfl
  · rw [List.map_append, List.map_append, strip_sh]
theorem cut_few (l : List UInt8) (p : Nat) : ∀ ts, cutR l p = .ok ts → ts.length ≤ l.length + 1 := by
  refine cut_ind (fun l p x => ∀ ts, x = .ok ts → ts.length ≤ l.length + 1) ?_ ?_ ?_ ?_ ?_ l p
  · intro p ts h; cases h; simp
  · intro l p k h1 h2 h ts hts
    have := h ts hts
    rw [List.length_drop] at this
    omega
  · intro c r p ts h; cases h
  · intro l p t n q hf h ts hts; cases hts
  · intro l p t n ts hf h us hus
    cases hus
    have hx := firstT_le hf
    have := h ts rfl
    rw [List.length_drop] at this
    simp at hx ⊢
    omega
theorem cut_ne {l : List UInt8} {ts : List Tk} (h : cutR l 0 = .ok ts) : 1 ≤ ts.length := by
  obtain ⟨us, hus⟩ := (cut_placed l 0 ts h).last
  rw [hus]
  simp
end Go.Proofs.YtgokejoieafgiaaDoor
