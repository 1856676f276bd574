/-
  slices.Grow of the nil slice, slices.Concat of two slices of numbers, by contracts.
-/
import Derived.Test.YtlmjijejgfhmmaaNfaGroup
import Derived.Lib.AppendZerosOnto
import Derived.WalkKit
import Derived.OwnWalk
import Derived.ProofKit
import Derived.WalkLawsBesides
import Derived.IntWalk
import Derived.Outline
import Derived.Deep.DeepCutAuto
namespace Go.Proofs.Ytlmjijejgfhmmaa
open Go.RowKit
set_option linter.unusedVariables false

def OwnI (w : World) (base : Nat) (v : Value) (n : Nat) (xs : List Nat) : Prop := w.ownsRow base 3 1 v n (xs.map natV)
theorem natV_one (xs : List Nat) : ∀ u ∈ xs.map natV, u.oneCell' = true := by
  intro u hu
  obtain ⟨c, _, rfl⟩ := List.mem_map.1 hu
  rfl
theorem infoInt : (Try.prog.info? 3).map (fun i => (i.zero, i.size, i.bytes)) = some (some (.int .i64 0), 1, 8) := by kernel_rfl
theorem run_append_ints (w : World) (base : Nat) (ty : TypeId) (v : Value) (n : Nat) (xs : List Nat) (hown : OwnI w base v n xs) (A : Option Addr) (m c : Nat) (ys : List Nat) (hb : Sl natV w A m ys)
    (hnm : n + m ≤ 4000000) (hbase : base ≤ w.heap.size) :
    ∃ v' w', (Builtin.append_ #[57, 57] ty #[v, .slice A m c]).run Try.prog w = .ok v' w' ∧ OwnI w' base v' (n + m) (xs ++ ys) ∧ w.grownBy w' v.ownBlock ∧ (v'.ownBlock = v.ownBlock ∨ v'.ownBlock = some w.heap.size) := by
  obtain ⟨i, hi⟩ := Option.isSome_iff_exists.1 (show (Try.prog.info? 3).isSome = true by kernel_rfl)
  have h0 := infoInt
  rw [hi] at h0
  simp only [Option.map_some, Option.some.injEq, Prod.mk.injEq] at h0
  obtain ⟨hz, hs, hby⟩ := h0
  have hT := Try.underlying57
  rcases A with _ | ad
  · have hm : m = 0 := by
      rcases Nat.eq_zero_or_pos m with h0 | h0
      · exact h0
      · obtain ⟨ad, e, _⟩ := hb.2.2 0 _ (List.getElem?_eq_getElem (by rw [hb.1]; exact h0))
        cases e
    subst hm
    have hn : ys = [] := List.eq_nil_of_length_eq_zero hb.1
    subst hn
    refine ⟨v, w, ?_, by simpa using hown, ⟨rfl, rfl, rfl, Nat.le_refl _, fun _ _ _ => rfl⟩, .inl rfl⟩
    rcases hown.2 with ⟨rfl, rfl⟩ | ⟨g, cap, cur, rfl, _, _, hnc, _⟩
    · simp [Builtin.append_, run_underlying hT, sizeOf, typeInfo, hi, Builtin.lenOf, Builtin.firstCells]
    · simp [Builtin.append_, run_underlying hT, sizeOf, typeInfo, hi, Builtin.lenOf, Builtin.firstCells, hnc, storeCells]
  · have hcells : ∀ j u, (ys.map natV)[j]? = some u → w.cell? (ad.add j) = some u := by
      intro j u hu
      rw [List.getElem?_map] at hu
      obtain ⟨z, hz, rfl⟩ := Option.map_eq_some_iff.1 hu
      obtain ⟨ad', e, _, hcell⟩ := hb.2.2 j z hz
      obtain rfl := Option.some.inj e
      exact hcell
    obtain ⟨v', w', hrun, h2, h3, _, h5⟩ := run_append_own_at (P := Try.prog) w base 57 ty 3 i (.int .i64 0) 1 8 hT hi hz hs hby rfl (by omega) v n (xs.map natV) hown ad m c (ys.map natV) (by rw [List.length_map, hb.1]; omega) hcells (natV_one _)
      (by unfold maxLen; omega) (by omega) hbase
    refine ⟨v', w', hrun, ?_, h3, h5⟩
    unfold OwnI
    rw [List.map_append]
    exact h2
section
variable (w : World)
theorem wpList_append_ints {ops : Array Oper} {rest : List Oper} {o : Oper} {a : Act} {Q : Exit → Act → World → Prop} (hgd : o.guard = none) (s x : Operand)
    (ho : o.op = .call { callee := .builtin .append, args := #[s, x], argTypes := #[57, 57] })
    (base : Nat) (v : Value) (n : Nat) (xs : List Nat) (hs : a.eval s = v) (hown : OwnI w base v n xs)
    (A : Option Addr) (m c : Nat) (ys : List Nat) (hx : a.eval x = .slice A m c) (hb : Sl natV w A m ys) (hnm : n + m ≤ 4000000) (hbase : base ≤ w.heap.size)
    (h : ∀ v' w', OwnI w' base v' (n + m) (xs ++ ys) → w.grownBy w' v.ownBlock → (v'.ownBlock = v.ownBlock ∨ v'.ownBlock = some w.heap.size) → wpList Try.prog ops Q rest (a.put o.dst v') w') : wpList Try.prog ops Q (o :: rest) a w := by
  refine wpList_plain hgd fun K hK => ?_
  obtain ⟨v', w', hr, h2, h3, h4⟩ := run_append_ints w base o.type v n xs hown A m c ys hb hnm hbase
  unfold Oper.wp execOp
  simp only [ho, resolve, invoke, builtin, Sem.run_bind, Sem.run_pure, Result.andThen_ok, List.map_toArray, List.map_cons, List.map_nil, hs, hx, hr]
  exact hK _ _ (h v' w' h2 h3 h4)
/-- 'append(nil, make([]int, n)...)', cut to nothing. -/
theorem wpList_append_room {ops : Array Oper} {rest : List Oper} {o : Oper} {a : Act} {Q : Exit → Act → World → Prop} (hgd : o.guard = none) (s x : Operand)
    (ho : o.op = .call { callee := .builtin .append, args := #[s, x], argTypes := #[57, 3] })
    (n : Nat) (hs : a.eval s = .slice none 0 0) (hx : a.eval x = .int .i64 (n : Int)) (h0 : 0 < n) (hn : n ≤ 4000000)
    (h : ∀ g cap w', n ≤ cap → cap ≤ 9223372036854775807 → OwnI w' w.heap.size (.slice (some ⟨g, 0, none⟩) 0 cap) 0 [] → w.heap.size ≤ g → Below w.heap.size w w' → wpList Try.prog ops Q rest (a.put o.dst (.slice (some ⟨g, 0, none⟩) n cap)) w') : wpList Try.prog ops Q (o :: rest) a w := by
  refine wpList_plain hgd fun K hK => ?_
  obtain ⟨i, hi⟩ := Option.isSome_iff_exists.1 (show (Try.prog.info? 3).isSome = true by kernel_rfl)
  have h1 := infoInt
  rw [hi] at h1
  simp only [Option.map_some, Option.some.injEq, Prod.mk.injEq] at h1
  obtain ⟨hz, hsz, hby⟩ := h1
  have hr := Lib.run_append_grow_zeros (P := Try.prog) w 57 3 o.type 3 i (.int .i64 0) .i64 .i64 Try.underlying57 Try.underlying3 hi hz none 0 0 [] (by simp [Builtin.firstCells]) n h0 (by omega) (by omega) (by omega) (by rw [hby]; omega) (growslice_fits (by omega) (by rw [hby]; omega))
  simp only [Nat.zero_add] at hr
  have hge := grownCap_ge w n 0 3
  have hle := grownCap_le_maxLen w n 0 3 (by unfold maxLen; omega)
  unfold Oper.wp execOp
  simp only [ho, resolve, invoke, builtin, Sem.run_bind, Sem.run_pure, Result.andThen_ok, List.map_toArray, List.map_cons, List.map_nil, hs, hx, hr]
  refine hK _ _ (h _ _ _ hge (by unfold maxLen at hle; exact hle) ?_ (Nat.le_refl _) ?_)
  · refine ⟨rfl, .inr ⟨_, _, _, rfl, Nat.le_refl _, heap_alloc_new w.drew _, Nat.zero_le _, hle, ?_, by simp⟩⟩
    simp only [Array.size_append, List.size_toArray, size_zeroCells, List.length_nil, show (Value.int IntKind.i64 0).cells.size = 1 from rfl]
    omega
  · exact (Below.drew (Below.refl _ _)).alloc (Nat.le_refl _) _
end

def GrowPost (w : World) (e : Ending) (w' : World) : Prop := ∃ P cap, e = .returned (.slice P 0 cap) ∧ cap ≤ 9223372036854775807 ∧ OwnI w' w.heap.size (.slice P 0 cap) 0 [] ∧ Below w.heap.size w w'
set_option maxHeartbeats 1000000 in
theorem grow_any (n : Nat) (hn : n ≤ 4000000) (w : World) : Calls Try.prog 58 #[.slice none 0 0, .int .i64 (n : Int)] w (GrowPost w) := by
  have HN := keepHid hn
  have hi : (n : Int) ≤ 9223372036854775806 := by omega
  clear hn
  rcases Nat.eq_zero_or_pos n with h0 | h0
  · subst h0
    go_enter Try.func58, Try.ntmps58
    go_wp2
    go_ret
    exact ⟨none, 0, rfl, by omega, World.ownsRow_nil _ _ _ _, Below.refl _ _⟩
  · have hpos : (0 : Int) < (n : Int) := by omega
    have HP := keepHid h0
    clear h0
    go_enter Try.func58, Try.ntmps58
    go_wp2_with (first | (at_builtin; refine wpList_append_room _ rfl _ _ rfl n rfl rfl HP.out HN.out ?_; intro g cap w1 hc1 hc2 ho1 hg1 hb1; have hc3 : (n : Int) ≤ (cap : Int) := by omega))
    go_ret
    exact ⟨some ⟨g, 0, none⟩, cap, rfl, hc2, ho1, hb1⟩

theorem below_grown {base : Nat} {a w : World} {row : Option Nat} (h : a.grownBy w row) (hr : ∀ i, row = some i → base ≤ i) (hs : base ≤ a.heap.size) : Below base a w :=
  ⟨h.os, h.tape, h.output, h.size, fun i hi => h.block i (by omega) (fun e => by have := hr i e.symm; omega)⟩
def CatPost (zs : List Nat) (w : World) (e : Ending) (w' : World) : Prop := ∃ A c, e = .returned (.slice A zs.length c) ∧ OwnI w' w.heap.size (.slice A zs.length c) zs.length zs ∧ Below w.heap.size w w'
set_option maxHeartbeats 2000000 in
theorem concat_any {b n1 c1 n2 c2 : Nat} {A1 A2 : Option Addr} {xs ys : List Nat} {w : World} (h1 : w.cell? ⟨b, 0, none⟩ = some (.slice A1 n1 c1)) (h2 : w.cell? ⟨b, 1, none⟩ = some (.slice A2 n2 c2))
    (hx : Sl natV w A1 n1 xs) (hy : Sl natV w A2 n2 ys) (hn1 : n1 ≤ 1000000) (hn2 : n2 ≤ 1000000) :
    Calls Try.prog 54 #[.slice (some ⟨b, 0, none⟩) 2 2] w (CatPost (xs ++ ys) w) := by
  have hbl : b < w.heap.size := World.block_lt_of_cell? _ _ h1
  have HX := keepHid hx
  have HY := keepHid hy
  have HG := keepHid (grow_any (n1 + n2) (by omega) w)
  have i1 : (n1 : Int) ≤ 1000000 := by omega
  have i2 : (n2 : Int) ≤ 1000000 := by omega
  have HN : Hid (n1 ≤ 1000000 ∧ n2 ≤ 1000000) := keepHid ⟨hn1, hn2⟩
  have HBL := keepHid hbl
  have HE : Hid ((n1 : Int) + (n2 : Int) = ((n1 + n2 : Nat) : Int)) := keepHid (by omega)
  clear hx hy hn1 hn2 hbl
  go_enter Try.func54, Try.ntmps54
  go_wp2_with fail
  refine wp_loop_rounds 3 ?_
  rw [rounds_succ]
  go_wp2_with fail
  rw [rounds_succ]
  go_wp2_with fail
  rw [rounds_succ]
  go_wp2_with fail
  rw [HE.out]
  with_reducible refine HG.out.mono ?_
  rintro e w1 ⟨P, cap, rfl, hcap, ho1, hb1⟩
  have g1 : w1.cell? ⟨b, 0, none⟩ = some (.slice A1 n1 c1) := (hb1.cell (p := ⟨b, 0, none⟩) HBL.out).trans h1
  have HC1 : Hid (w1.cell? ⟨b, 1, none⟩ = some (.slice A2 n2 c2)) := keepHid ((hb1.cell (p := ⟨b, 1, none⟩) HBL.out).trans h2)
  have HX1 := keepHid (HX.out.below hb1)
  have HY1 := keepHid (HY.out.below hb1)
  have HO1 := keepHid ho1
  have HB1 := keepHid hb1
  have HSZ : Hid (w.heap.size ≤ w1.heap.size) := keepHid hb1.size
  clear h1 h2 ho1 hb1
  go_wp2_with fail
  refine wp_loop_rounds 3 ?_
  rw [rounds_succ]
  go_wp2_with (first | (at_builtin; refine wpList_append_ints _ rfl _ _ rfl w.heap.size (.slice P 0 cap) 0 [] rfl HO1.out A1 n1 c1 xs rfl HX1.out (by have := HN.out; omega) HSZ.out ?_; intro v2 w2 ho2 hg2 hv2; have HB12 : Hid (Below w.heap.size w1 w2) := keepHid (below_grown hg2 (fun i hi => (HO1.out.lt i hi).1) HSZ.out); have g2 : w2.cell? ⟨b, 1, none⟩ = some (.slice A2 n2 c2) := (HB12.out.cell (p := ⟨b, 1, none⟩) HBL.out).trans HC1.out; have HO2 := keepHid ho2; clear ho2 hg2 hv2))
  have HB2 := keepHid (HB1.out.trans HB12.out)
  have HY2 := keepHid (HY.out.below HB2.out)
  rw [rounds_succ]
  go_wp2_with (first | (at_builtin; refine wpList_append_ints _ rfl _ _ rfl w.heap.size v2 (0 + n1) ([] ++ xs) rfl HO2.out A2 n2 c2 ys rfl HY2.out (by have := HN.out; omega) HB2.out.size ?_; intro v3 w3 ho3 hg3 hv3; have HB23 : Hid (Below w.heap.size w2 w3) := keepHid (below_grown hg3 (fun i hi => (HO2.out.lt i hi).1) HB2.out.size); have HO3 := keepHid ho3; clear ho3 hg3 hv3))
  rw [rounds_succ]
  go_wp2_with fail
  have ho3 := HO3.out
  obtain ⟨A, c, rfl, _, _⟩ := own_val ho3
  go_ret
  have e : (0 + n1) + n2 = (xs ++ ys).length := by rw [List.length_append, HX.out.len, HY.out.len]; omega
  rw [e, List.nil_append] at ho3 
  exact ⟨A, c, by rw [← e]; rfl, ho3, HB2.out.trans HB23.out⟩
end Go.Proofs.Ytlmjijejgfhmmaa
