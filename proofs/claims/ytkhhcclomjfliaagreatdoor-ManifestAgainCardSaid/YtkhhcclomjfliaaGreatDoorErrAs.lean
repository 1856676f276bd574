/-
  errors.As at a Fault: api.Number and api.Place by their contracts.
-/
import Derived.Test.YtkhhcclomjfliaaGreatDoorErrFacts
import Derived.Test.YtkhhcclomjfliaaGreatDoorTurn
import Derived.WalkKit
import Derived.Outline
namespace Go.Proofs.YtkhhcclomjfliaaGreatDoor
open Go.RowKit Go.Extern.Stop Go.Stop Go.Extern
set_option linter.unusedVariables false

theorem setP (g h : Nat) (n p : Int) (o1 o2 : Value) (W : World) (hb0 : W.cell? ⟨h, 0, none⟩ = some (.int .i64 n)) (hb1 : W.cell? ⟨h, 1, none⟩ = some (.int .i64 p)) (ht0 : W.cell? ⟨g, 0, none⟩ = some o1) (ht1 : W.cell? ⟨g, 1, none⟩ = some o2)
    (hf0 : W.frozen? ⟨g, 0, none⟩ = false) (hf1 : W.frozen? ⟨g, 1, none⟩ = false) :
    (ReflectliteValue.set #[rvl 59 ⟨g, 0, none⟩ 409, rvl 59 ⟨h, 0, none⟩ 153]).run Tryz.prog W = .ok (.tuple #[]) ((W.setCell ⟨g, 0, none⟩ (.int .i64 n)).setCell ⟨g, 1, none⟩ (.int .i64 p)) := by
  rw [rls]
  simp only [Sem.run_bind, partsPa, partsP, Result.andThen]
  simp [ReflectliteValue.flagAddr, loadVar, isAgg, underlying, Tryz.underlying59, Result.andThen, directP, storeVar, Value.cells, storeCells, loadCells, loadCellsFrom, Addr.add, hb0, hb1]
  rw [run_store Tryz.prog W ⟨g, 0, none⟩ _ _ (by rfl)]
  simp only [ht0, hf0]
  have e1 : (W.setCell ⟨g, 0, none⟩ (.int .i64 n)).cell? ⟨g, 1, none⟩ = some o2 := by rw [World.cell?_setCell_other _ _ _ _ (by simp)]; exact ht1
  have e2 : (W.setCell ⟨g, 0, none⟩ (.int .i64 n)).frozen? ⟨g, 1, none⟩ = false := by rw [World.frozen?_setCell]; exact hf1
  simp only [Bool.false_eq_true, if_false]
  rw [run_store Tryz.prog _ ⟨g, 1, none⟩ _ _ (by rfl)]
  simp [e1, e2]

set_option maxRecDepth 100000 in
set_option maxHeartbeats 4000000 in
theorem as_p (n p : Int) (tgt : Value) (a : Addr) (g : Nat) (o1 o2 : Value) (w : World) (ha : w.cell? a = some (.pointer (some ⟨g, 0, none⟩))) (ht0 : w.cell? ⟨g, 0, none⟩ = some o1) (ht1 : w.cell? ⟨g, 1, none⟩ = some o2)
    (hf0 : w.frozen? ⟨g, 0, none⟩ = false) (hf1 : w.frozen? ⟨g, 1, none⟩ = false) :
    Calls Tryz.prog 34 #[.iface 59 (.agg #[.int .i64 n, .int .i64 p]), tgt, rvl 60 a 150, rty 59] w fun e w' => e = .returned (.bool true) ∧
      w'.cell? ⟨g, 0, none⟩ = some (.int .i64 n) ∧ w'.cell? ⟨g, 1, none⟩ = some (.int .i64 p) ∧ Only g w w' := by
  have h31 := @run_callFunc_extern Tryz.prog 31 _ (fun args => ReflectliteValue.unpack (args.getD 0 (.tuple #[]))) Tryz.func31 (by kernel_rfl) (by kernel_rfl) (by kernel_rfl) (by kernel_rfl)
  have h40 := @run_callFunc_extern Tryz.prog 53 _ ReflectliteType.typeOf Tryz.func53 (by kernel_rfl) (by kernel_rfl) (by kernel_rfl) (by kernel_rfl)
  have h82 := @run_callFunc_extern Tryz.prog 129 _ (ReflectliteType.relation "AssignableTo" ReflectliteType.assignableTo) Tryz.func129 (by kernel_rfl) (by kernel_rfl) (by kernel_rfl) (by kernel_rfl)
  have h41 := @run_callFunc_extern Tryz.prog 54 _ (ReflectliteValue.method (ReflectliteValue.valueError "reflectlite.Value.Elem" 0) ReflectliteValue.elem) Tryz.func54 (by kernel_rfl) (by kernel_rfl) (by kernel_rfl) (by kernel_rfl)
  have h42 := @run_callFunc_extern Tryz.prog 55 _ ReflectliteValue.set Tryz.func55 (by kernel_rfl) (by kernel_rfl) (by kernel_rfl) (by kernel_rfl)
  have f1 := typeOfP
  have f2 := methodAssignable
  have f3 := assPP
  have f4 := valueOfEP
  have hal : a.block < w.heap.size := World.block_lt_of_cell? _ _ ha
  have hgl : g < w.heap.size := World.block_lt_of_cell? _ _ ht0
  have f5 := elemVP a ⟨g, 0, none⟩ (w.alloc (.cells #[hndl 60, .pointer (some a), .int .u64 150] 84)) (by rw [World.cell?_alloc_lt _ _ _ hal]; exact ha)
  have f6 := setP g (w.heap.size + 1) n p o1 o2 ((w.alloc (.cells #[hndl 60, .pointer (some a), .int .u64 150] 84)).alloc (.cells #[.int .i64 n, .int .i64 p] 59))
    (by rw [World.cell?_alloc_at _ _ _ _ (by simp)]; rfl) (by rw [World.cell?_alloc_at _ _ _ _ (by simp)]; rfl)
    (by rw [World.cell?_alloc_lt _ _ _ (by simp; omega), World.cell?_alloc_lt _ _ _ hgl]; exact ht0) (by rw [World.cell?_alloc_lt _ _ _ (by simp; omega), World.cell?_alloc_lt _ _ _ hgl]; exact ht1)
    (by rw [World.frozen?_alloc_old _ _ _ (by simp; omega), World.frozen?_alloc_old _ _ _ (Nat.ne_of_lt hgl)]; exact hf0) (by rw [World.frozen?_alloc_old _ _ _ (by simp; omega), World.frozen?_alloc_old _ _ _ (Nat.ne_of_lt hgl)]; exact hf1)
  go_enter Tryz.func34, Tryz.ntmps34
  go_wp2
  refine wp_loop_rounds 1 ?_
  rw [rounds_succ]
  go_wp2
  go_ret
  refine ⟨rfl, ?_, ?_, (((Only.refl w g).setCell (.inl rfl) _).setCell (.inl rfl) _).alloc _ |>.alloc _⟩
  · rw [World.cell?_alloc_lt _ _ _ (by simp; omega), World.cell?_alloc_lt _ _ _ (by simp; omega), World.cell?_setCell_other _ _ _ _ (by simp)]
    exact World.cell?_setCell_same _ _ _ ht0
  · rw [World.cell?_alloc_lt _ _ _ (by simp; omega), World.cell?_alloc_lt _ _ _ (by simp; omega)]
    exact World.cell?_setCell_same _ _ _ (u := o2) (by rw [World.cell?_setCell_other _ _ _ _ (by simp)]; exact ht1)

set_option maxRecDepth 100000 in
set_option maxHeartbeats 4000000 in
theorem as_n (n p : Int) (tgt : Value) (a : Addr) (g : Nat) (o1 : Value) (w : World) (ha : w.cell? a = some (.pointer (some ⟨g, 0, none⟩))) (ht0 : w.cell? ⟨g, 0, none⟩ = some o1) (hf0 : w.frozen? ⟨g, 0, none⟩ = false) :
    Calls Tryz.prog 34 #[.iface 59 (.agg #[.int .i64 n, .int .i64 p]), tgt, rvl 57 a 150, rty 28] w fun e w' => e = .returned (.bool true) ∧
      w'.cell? ⟨g, 0, none⟩ = some (.int .i64 n) ∧ Only g w w' := by
  have h31 := @run_callFunc_extern Tryz.prog 31 _ (fun args => ReflectliteValue.unpack (args.getD 0 (.tuple #[]))) Tryz.func31 (by kernel_rfl) (by kernel_rfl) (by kernel_rfl) (by kernel_rfl)
  have h40 := @run_callFunc_extern Tryz.prog 53 _ ReflectliteType.typeOf Tryz.func53 (by kernel_rfl) (by kernel_rfl) (by kernel_rfl) (by kernel_rfl)
  have h82 := @run_callFunc_extern Tryz.prog 129 _ (ReflectliteType.relation "AssignableTo" ReflectliteType.assignableTo) Tryz.func129 (by kernel_rfl) (by kernel_rfl) (by kernel_rfl) (by kernel_rfl)
  have h41 := @run_callFunc_extern Tryz.prog 54 _ (ReflectliteValue.method (ReflectliteValue.valueError "reflectlite.Value.Elem" 0) ReflectliteValue.elem) Tryz.func54 (by kernel_rfl) (by kernel_rfl) (by kernel_rfl) (by kernel_rfl)
  have h42 := @run_callFunc_extern Tryz.prog 55 _ ReflectliteValue.set Tryz.func55 (by kernel_rfl) (by kernel_rfl) (by kernel_rfl) (by kernel_rfl)
  have f1 := typeOfP
  have f1' := typeOfN
  have f2 := methodAssignable
  have f3 := assPN
  have f3' := assNN
  have f4 := valueOfEN
  have f9 := methodUnwrap
  have f7 : ∀ v w, (Instr.typeAssert (.iface 59 v) 25 116 true).run Tryz.prog w = .ok (.tuple #[.nilIface, .bool false]) w := fun v w => run_typeAssert_lacksB Tryz.underlying116 (by kernel_rfl) (by kernel_rfl) v _ w
  have f8 : ∀ v w, (Instr.typeAssert (.iface 59 v) 25 119 true).run Tryz.prog w = .ok (.tuple #[.iface 59 v, .bool true]) w := fun v w => run_typeAssert_hasB Tryz.underlying119 (by kernel_rfl) v _ w
  have hal : a.block < w.heap.size := World.block_lt_of_cell? _ _ ha
  have hgl : g < w.heap.size := World.block_lt_of_cell? _ _ ht0
  go_enter Tryz.func34, Tryz.ntmps34
  go_wp2
  refine wp_loop_rounds 2 ?_
  rw [rounds_succ]
  go_wp2
  rw [rounds_succ]
  obtain ⟨w2, hw2⟩ : ∃ w2, (w.alloc (.cells #[hndl 57, .pointer (some a), .int .u64 150] 84)).alloc (.cells #[.int .i64 n, .int .i64 p] 59) = w2 := ⟨_, rfl⟩
  have hc0 : w2.cell? ⟨w.heap.size, 0, none⟩ = some (hndl 57) := by rw [← hw2, World.cell?_alloc_lt _ _ _ (by simp)]; simp
  have hc1 : w2.cell? ⟨w.heap.size, 1, none⟩ = some (.pointer (some a)) := by rw [← hw2, World.cell?_alloc_lt _ _ _ (by simp)]; simp
  have hc2 : w2.cell? ⟨w.heap.size, 2, none⟩ = some (.int .u64 150) := by rw [← hw2, World.cell?_alloc_lt _ _ _ (by simp)]; simp
  have f5 := elemVN a ⟨g, 0, none⟩ w2 (by rw [← hw2, World.cell?_alloc_lt _ _ _ (by simp; omega), World.cell?_alloc_lt _ _ _ hal]; exact ha)
  have hg2 : w2.cell? ⟨g, 0, none⟩ = some o1 := by rw [← hw2, World.cell?_alloc_lt _ _ _ (by simp; omega), World.cell?_alloc_lt _ _ _ hgl]; exact ht0
  have hgf : w2.frozen? ⟨g, 0, none⟩ = false := by rw [← hw2, World.frozen?_alloc_old _ _ _ (by simp; omega), World.frozen?_alloc_old _ _ _ (Nat.ne_of_lt hgl)]; exact hf0
  have hgl2 : g < w2.heap.size := World.block_lt_of_cell? _ _ hg2
  have f6 := setN ⟨g, 0, none⟩ ⟨w2.heap.size, 0, none⟩ n o1 (w2.alloc (.cells #[.int .i64 n] 28)) (by simp) (by rw [World.cell?_alloc_lt _ _ _ hgl2]; exact hg2) (by rw [World.frozen?_alloc_old _ _ _ (Nat.ne_of_lt hgl2)]; exact hgf)
  have ho : Only g w w2 := by rw [← hw2]; exact ((Only.refl w g).alloc _).alloc _
  rw [hw2]
  clear hw2
  go_wp2
  go_ret
  refine ⟨rfl, ?_, ?_⟩
  · first | exact World.cell?_setCell_same _ _ _ (u := o1) (by rw [World.cell?_alloc_lt _ _ _ hgl2]; exact hg2) | (rw [World.cell?_alloc_lt _ _ _ (by simp; omega)]; exact World.cell?_setCell_same _ _ _ hg2)
  · first | exact (ho.alloc _).setCell (.inl rfl) _ | exact (ho.setCell (.inl rfl) _).alloc _
end Go.Proofs.YtkhhcclomjfliaaGreatDoor
