/-
  nfa's group, Len, Empty, lead, by contracts.
-/
import Derived.Test.YtlmjijejgfhmmaaNfaKey
import Derived.WalkKit
import Derived.OwnWalk
import Derived.ProofKit
import Derived.WalkLawsBesides
import Derived.IntWalk
import Derived.RegionTactic
import Derived.BigRegion
import Derived.ChangeAlike
import Derived.Deep.QuietTactic
import Derived.BigQuiet
import Derived.Deep.RegionHeld3
import Derived.Deep.DrawnRows
import Derived.Outline
import Derived.Deep.DeepCutAuto
namespace Go.Proofs.Ytlmjijejgfhmmaa
open Go.RowKit
set_option linter.unusedVariables false

theorem infoI : (Try.prog.info? 57).map (fun i => (i.zero, i.size, i.bytes)) = some (some (.slice none 0 0), 1, 24) := by kernel_rfl
section
variable (w : World)
/-- 'append(t.groups, places)'. -/
theorem wpList_append_grp {ops : Array Oper} {rest : List Oper} {o : Oper} {a : Act} {Q : Exit → Act → World → Prop} (hgd : o.guard = none) (s x : Operand)
    (ho : o.op = .call { callee := .builtin .append, args := #[s, x], argTypes := #[56, 56] })
    (base : Nat) (v : Value) (n : Nat) (vals : List Value) (hs : a.eval s = v) (hown : w.ownsRow base 57 1 v n vals)
    (g : Nat) (hx : a.eval x = .slice (some ⟨g, 0, none⟩) 1 1) (A : Option Addr) (m c : Nat) (hcell : w.cell? ⟨g, 0, none⟩ = some (.slice A m c))
    (hn : n < 1000000) (hbase : base ≤ w.heap.size)
    (h : ∀ P cap w', w'.ownsRow base 57 1 (.slice P (n + 1) cap) (n + 1) (vals ++ [.slice A m c]) → w.grownBy w' v.ownBlock → ((Value.slice P (n + 1) cap).ownBlock = v.ownBlock ∨ (Value.slice P (n + 1) cap).ownBlock = some w.heap.size) →
      wpList Try.prog ops Q rest (a.put o.dst (.slice P (n + 1) cap)) w') : wpList Try.prog ops Q (o :: rest) a w := by
  obtain ⟨i, hi⟩ := Option.isSome_iff_exists.1 (show (Try.prog.info? 57).isSome = true by kernel_rfl)
  have h0 := infoI
  rw [hi] at h0
  simp only [Option.map_some, Option.some.injEq, Prod.mk.injEq] at h0
  obtain ⟨hz, hsz, hby⟩ := h0
  refine wpList_append_own_at w hgd s x 56 ho base 57 i (.slice none 0 0) 1 24 Try.underlying56 hi hz hsz hby rfl (by omega) v n vals hs hown ⟨g, 0, none⟩ 1 1 [.slice A m c] hx rfl ?_ ?_ (by unfold maxLen; omega) (by omega) hbase ?_
  · intro j u hj
    match j with
    | 0 => simp at hj; subst hj; exact hcell
    | j + 1 => simp at hj
  · intro u hu; simp at hu; subst hu; rfl
  · intro v' w' ho' hg' _ hv'
    obtain ⟨P, cap, rfl, _, _⟩ := own_val ho'
    exact h P cap w' ho' hg' hv'
end

theorem get_push {α : Type} {l : List α} {x y : α} {i : Nat} (h : (l ++ [x])[i]? = some y) : l[i]? = some y ∨ (i = l.length ∧ y = x) := by
  rcases Nat.lt_or_ge i l.length with h1 | h1
  · rw [List.getElem?_append_left h1] at h; exact .inl h
  · rw [List.getElem?_append_right h1] at h
    rcases Nat.eq_or_lt_of_le h1 with h2 | h2
    · subst h2
      simp at h
      exact .inr ⟨rfl, h.symm⟩
    · rw [show i - l.length = (i - l.length - 1) + 1 by omega] at h; simp at h
theorem push_tab {lo g : Nat} {v3 v4 v5 : Value} {T : TbD} {vs vg vg' : Value} {M : Nat} {vals : List Value} {w1 w2 : World} {v : Value} {q : List Nat} (h : TabIn w1 lo g v3 v4 v5 T vs vg M vals)
    (hv : w1.ownsRow lo 3 1 v q.length (q.map natV)) (ho : w2.ownsRow lo 57 1 vg' (T.groups.length + 1) (vals ++ [v])) (hg : w1.grownBy w2 vg.ownBlock) (hv2 : vg'.ownBlock = vg.ownBlock ∨ vg'.ownBlock = some w1.heap.size) :
    Tab (w2.setCell ⟨g, 1, none⟩ vg') lo g v3 v4 v5 (T.push q) ∧ Tn lo w1 (w2.setCell ⟨g, 1, none⟩ vg') ∧ ∀ i cs, Blk w1 i 27 cs → Blk (w2.setCell ⟨g, 1, none⟩ vg') i 27 cs := by
  have t1 : Tn lo w1 w2 := Tn.grown hg fun i hi => .inl (h.mvv hi)
  have t2 : Tn lo w1 (w2.setCell ⟨g, 1, none⟩ vg') := t1.setCell (.inl h.mvg) _
  have k2 : Blk w2 g _ _ := (hg.block g h.blk.lt (fun e => h.ne_gv e.symm)).trans h.blk
  have far : ∀ i, i ≠ g → (w2.setCell ⟨g, 1, none⟩ vg').heap[i]? = w2.heap[i]? := fun i hi => Below.heap_setCell w2 ⟨g, 1, none⟩ vg' i hi
  have hlen : vals.length = T.groups.length := by have := h.groups.1; omega
  have hset : ∀ i cs, Blk w1 i 27 cs → Blk (w2.setCell ⟨g, 1, none⟩ vg') i 27 cs := fun i cs hb => by
    refine ((far i (blk_ne hb h.blk (by decide))).trans (hg.block i hb.lt (fun e => ?_))).trans hb
    obtain ⟨cur, hc⟩ := own_obj h.groups e.symm
    exact blk_ne hb hc (by decide) rfl
  refine ⟨⟨vs, vg', M, vals ++ [v], ?_⟩, t2, hset⟩
  refine ⟨by simpa using k2.put 1 vg', h.log, h.lom, ?_, ?_, ?_, ?_⟩
  · refine own_keep h.sets fun i hi hl => (far i (fun e => h.ne_gs (e ▸ hi))).trans (hg.block i hl (fun e => h.ne_vs hi e.symm rfl))
  · rw [show (T.push q).groups.length = T.groups.length + 1 by simp [TbD.push]]
    refine own_keep ho fun i hi hl => far i (fun e => ?_)
    subst e
    rcases hv2 with e | e
    · exact h.ne_gv (e ▸ hi)
    · rw [hi] at e
      have := Option.some.inj e
      have := h.blk.lt
      omega
  · intro i p hp
    rcases get_push hp with hp | ⟨rfl, rfl⟩
    · obtain ⟨u, hu, hr⟩ := h.rows i p hp
      exact ⟨u, by rw [List.getElem?_append_left (lt_of_get hu)]; exact hu, t2.row hr⟩
    · exact ⟨v, by rw [← hlen]; simp, t2.row hv⟩
  · exact h.leads.keep ((far M (fun e => h.ne_gm e.symm)).trans (hg.block M h.leads.lt (fun e => h.ne_mv e.symm)))
set_option maxHeartbeats 1000000 in
theorem group_set {lo g : Nat} {v3 v4 v5 : Value} {T : TbD} (q : List Nat) (A : Option Addr) (c : Nat) {w : World} (ht : Tab w lo g v3 v4 v5 T) (hv : w.ownsRow lo 3 1 (.slice A q.length c) q.length (q.map natV)) (hlo : lo ≤ w.heap.size) (hn : T.groups.length < 1000000) :
    Calls Try.prog 46 #[.pointer (some ⟨g, 0, none⟩), .slice A q.length c] w fun e w' => e = .returned (natV T.groups.length) ∧ Tab w' lo g v3 v4 v5 (T.push q) ∧ Tn lo w w' ∧ ∀ i cs, Blk w i 27 cs → Blk w' i 27 cs := by
  obtain ⟨vs, vg, M, vals, h⟩ := ht
  obtain ⟨w1, hw1⟩ : ∃ w1, w.alloc (.cells #[.slice A q.length c] 57) = w1 := ⟨_, rfl⟩
  have hs1 : w1.heap.size = w.heap.size + 1 := by rw [← hw1]; simp
  have hbl1 : Below w.heap.size w w1 := by rw [← hw1]; exact (Below.refl _ _).alloc (Nat.le_refl _) _
  have H1 := keepHid (h.keep hbl1)
  have HV1 : Hid (w1.ownsRow lo 3 1 (.slice A q.length c) q.length (q.map natV)) := keepHid (own_keep hv fun i _ hl => hbl1.block i hl)
  have HC1 : Hid (w1.cell? ⟨w.heap.size, 0, none⟩ = some (.slice A q.length c)) := keepHid (by rw [← hw1]; simp)
  have HB1 := keepHid hbl1
  have HLO : Hid (lo ≤ w1.heap.size) := keepHid (by omega)
  have HN := keepHid hn
  have HL := keepHid hlo
  obtain ⟨c0, c1⟩ : w.cell? ⟨g, 0, none⟩ = some vs ∧ w.cell? ⟨g, 1, none⟩ = some vg := ⟨h.blk.cell 0, h.blk.cell 1⟩
  have H := keepHid h
  have HS1 := keepHid hs1
  clear h hv hbl1 hs1 hlo
  go_enter Try.func46, Try.ntmps46
  have HBK1 := keepHid H1.out.blk
  have hne : vg.ownBlock ≠ some g := H1.out.ne_gv
  have HNE := keepHid hne
  have hn' : (T.groups.length : Int) ≤ 9223372036854775806 := by omega
  clear hne hn
  generalize hgl : T.groups.length = N at *
  have HGL := keepHid hgl
  clear hgl
  go_wp2_with (first | (at_builtin; refine wpList_append_grp _ rfl _ _ rfl lo vg N vals rfl (by rw [← HGL.out]; exact H1.out.groups) w.heap.size rfl A q.length c HC1.out HN.out HLO.out ?_; intro P cap w2 ho2 hg2 hv2; have HK2 : Hid (Blk w2 g _ _) := keepHid ((hg2.block g HBK1.out.lt (fun e => HNE.out e.symm)).trans HBK1.out); have d1 : w2.cell? ⟨g, 1, none⟩ = some vg := HK2.out.cell 1; have df := HK2.out.frozen 1; have HO2 := keepHid ho2; have HG2 := keepHid hg2; have HV2 := keepHid hv2; clear ho2 hg2 hv2))
  go_ret
  have hgl := HGL.out
  subst hgl
  obtain ⟨r1, r2, r3⟩ := push_tab H1.out HV1.out HO2.out HG2.out HV2.out
  exact ⟨by rfl, r1, (Tn.of_below HB1.out).trans r2, fun i cs hb => r3 i cs (hb.below HB1.out hb.lt)⟩
theorem group_any {lo g : Nat} {v3 v4 v5 : Value} {T : TbD} (q : List Nat) (A : Option Addr) (c : Nat) {w : World} (ht : Tab w lo g v3 v4 v5 T) (hv : w.ownsRow lo 3 1 (.slice A q.length c) q.length (q.map natV)) (hlo : lo ≤ w.heap.size) (hn : T.groups.length < 1000000) :
    Calls Try.prog 46 #[.pointer (some ⟨g, 0, none⟩), .slice A q.length c] w fun e w' => e = .returned (natV T.groups.length) ∧ Tab w' lo g v3 v4 v5 (T.push q) ∧ Tn lo w w' :=
  (group_set q A c ht hv hlo hn).mono fun _ _ ⟨h1, h2, h3, _⟩ => ⟨h1, h2, h3⟩


theorem tlen_any {lo g : Nat} {v3 v4 v5 : Value} {T : TbD} {w : World} (ht : Tab w lo g v3 v4 v5 T) :
    Calls Try.prog 15 #[.pointer (some ⟨g, 0, none⟩)] w fun e w' => e = .returned (natV T.sets.length) ∧ w = w' := by
  obtain ⟨vs, vg, M, vals, h⟩ := ht
  obtain ⟨A, c, rfl, _, _⟩ := own_val h.sets
  have c0 : w.cell? ⟨g, 0, none⟩ = some (.slice A T.sets.length c) := h.blk.cell 0
  clear h
  go_enter Try.func15, Try.ntmps15
  go_wp2
  go_ret
  exact ⟨rfl, rfl⟩
theorem tempty_any {lo g : Nat} {v3 v4 : Value} {b : Bool} {T : TbD} {w : World} (ht : Tab w lo g v3 v4 (.bool b) T) :
    Calls Try.prog 14 #[.pointer (some ⟨g, 0, none⟩)] w fun e w' => e = .returned (.bool b) ∧ w = w' := by
  obtain ⟨vs, vg, M, vals, h⟩ := ht
  have c5 : w.cell? ⟨g, 5, none⟩ = some (.bool b) := h.blk.cell 5
  clear h
  go_enter Try.func14, Try.ntmps14
  go_wp2
  go_ret
  exact ⟨rfl, rfl⟩
theorem tends_any {lo g : Nat} {v3 v4 v5 : Value} {T : TbD} {w : World} {A G : Option Addr} {n c m k : Nat} {at_ : List Bool} {q : List Nat} (ht : Tab w lo g v3 (.slice G m k) v5 T) (ha : Sl Value.bool w A n at_) (hg : Sl natV w G m q) :
    Calls Try.prog 18 #[.pointer (some ⟨g, 0, none⟩), .slice A n c] w fun e w' => e = .returned (.bool (anyB at_ q)) ∧ w = w' := by
  obtain ⟨vs, vg, M, vals, h⟩ := ht
  have c4 : w.cell? ⟨g, 4, none⟩ = some (.slice G m k) := h.blk.cell 4
  have HA := keepHid (anyOf_any (c := c) (k := k) ha hg)
  clear h ha hg
  generalize anyB at_ q = B at *
  go_enter Try.func18, Try.ntmps18
  go_wp2_with (first | (go_at_call 25; (with_reducible refine HA.out.mono ?_); rintro e w' ⟨rfl, rfl⟩))
  go_ret
  exact ⟨rfl, rfl⟩
def partV (p : Prt) : Value := .agg #[.bool p.e, .int .i64 (p.f : Int), .int .i64 (p.l : Int)]
def partC (p : Prt) : Array Value := #[.bool p.e, .int .i64 (p.f : Int), .int .i64 (p.l : Int)]
theorem blk3 {w : World} {g : Nat} {t : TypeId} {a0 a1 a2 : Value} (h : Blk w g t #[a0, a1, a2]) : w.cell? ⟨g, 0, none⟩ = some a0 ∧ w.cell? ⟨g, 1, none⟩ = some a1 ∧ w.cell? ⟨g, 2, none⟩ = some a2 ∧ ∀ i, w.frozen? ⟨g, i, none⟩ = false :=
  ⟨h.cell 0, h.cell 1, h.cell 2, h.frozen⟩
theorem lead_tab {lo g : Nat} {v3 v4 v5 : Value} {T : TbD} {vs vg : Value} {M : Nat} {vals : List Value} {w w' : World} {a b : Prt} (h : TabIn w lo g v3 v4 v5 T vs vg M vals) (hm : MapS w' M (T.leads ++ [(a.l, b.f)])) (hg : w.grownBy w' (some M)) :
    Tab w' lo g v3 v4 v5 (leadF a b T) ∧ Tn lo w w' := by
  have t1 : Tn lo w w' := Tn.grown hg fun i hi => .inl (by injection hi with hi; subst hi; exact h.mvm)
  refine ⟨⟨vs, vg, M, vals, ?_⟩, t1⟩
  refine ⟨(hg.block g h.blk.lt (fun e => h.ne_gm (by injection e))).trans h.blk, h.log, h.lom, ?_, ?_, fun i q hq => ?_, hm⟩
  · exact own_keep h.sets fun i hi hl => hg.block i hl (fun e => h.ne_ms (e ▸ hi))
  · exact own_keep h.groups fun i hi hl => hg.block i hl (fun e => h.ne_mv (e ▸ hi))
  · obtain ⟨v, hv, hr⟩ := h.rows i q hq
    exact ⟨v, hv, t1.row hr⟩
set_option maxHeartbeats 1000000 in
theorem lead_any {lo g : Nat} {v3 v4 v5 : Value} {T : TbD} (a b : Prt) {w : World} (ht : Tab w lo g v3 v4 v5 T) (hn : T.leads.length < 1000000) (ha : a.l < 1000000) (hb : b.f < 1000000) :
    Calls Try.prog 47 #[.pointer (some ⟨g, 0, none⟩), partV a, partV b] w fun e w' => e = .returned (.tuple #[]) ∧ Tab w' lo g v3 v4 v5 (leadF a b T) ∧ Tn lo w w' := by
  obtain ⟨w2, hw2⟩ : ∃ w2, (w.alloc (.cells (partC a) 61)).alloc (.cells (partC b) 61) = w2 := ⟨_, rfl⟩
  have hbl : Below w.heap.size w w2 := by rw [← hw2]; exact ((Below.refl _ _).alloc (Nat.le_refl _) _).alloc (by simp) _
  have ka : Blk w2 w.heap.size 61 (partC a) := by rw [← hw2]; exact (Blk.new _ _ _).alloc _
  have kb : Blk w2 (w.heap.size + 1) 61 (partC b) := by rw [← hw2]; exact Blk.new_at _ _ _ _ (by simp)
  obtain ⟨vs, vg, M, vals, h0⟩ := Tab.keep ht hbl
  obtain ⟨w3, hrun, hm3, hg3⟩ := MapS.put (w := w2.drew) h0.leads (a.l, b.f) ⟨by simp; omega, by simp; omega⟩ (by unfold maxLen; omega)
  have HF : Hid (Tab w3 lo g v3 v4 v5 (leadF a b T) ∧ Tn lo w w3) := keepHid (by
    obtain ⟨r1, r2⟩ := lead_tab (a := a) (b := b) (w := w2.drew) (h0.keep (Below.drew (Below.refl _ _))) hm3 hg3
    exact ⟨r1, (Tn.of_below (w := w2.drew) hbl.drew).trans r2⟩)
  have c2 : w2.cell? ⟨g, 2, none⟩ = some (.map (some M)) := h0.blk.cell 2
  have c2' : w3.cell? ⟨g, 2, none⟩ = some (.map (some M)) := (World.cell?_of_block (hg3.block g h0.blk.lt (fun e => h0.ne_gm (by injection e)))).trans c2
  have hMa : ∀ {i : Nat} {cs : Array Value}, Blk w2 i 61 cs → Blk w3 i 61 cs := fun {i cs} hk => by
    refine (hg3.block i hk.lt (fun e => ?_)).trans hk
    injection e with e
    subst e
    obtain ⟨es, c, ho⟩ := h0.leads.obj
    unfold Blk at hk
    rw [hk] at ho
    cases ho
  have ka3 := hMa ka
  have kb3 := hMa kb
  unfold partC at ka kb ka3 kb3 hw2
  obtain ⟨a0, a1, a2, _⟩ := blk3 ka
  obtain ⟨b0, b1, b2, _⟩ := blk3 kb
  obtain ⟨a0', a1', a2', _⟩ := blk3 ka3
  obtain ⟨b0', b1', b2', _⟩ := blk3 kb3
  unfold partV pairV at *
  simp only at hrun
  clear ka kb ka3 kb3 h0 hm3 hg3 hMa hbl ht hn ha hb
  go_enter Try.func47, Try.ntmps47
  go_wp2
  first | (go_region_held3 (fun w' => w'.cell? ⟨g, 2, none⟩ = some (.map (some M)) ∧ w'.cell? ⟨w.heap.size, 2, none⟩ = some (.int .i64 (a.l : Int)) ∧ w'.cell? ⟨w.heap.size + 1, 1, none⟩ = some (.int .i64 (b.f : Int))) (first | exact ⟨c2, a2, b1⟩ | exact ⟨c2', a2', b1'⟩) (fail)) | fail
  all_goals
    go_wp2
    go_end0
    exact ⟨rfl, HF.out⟩
end Go.Proofs.Ytlmjijejgfhmmaa
