/-
  errors.As at a Fault: closed facts on what reflectlite answers at this program's types. After the guide's worked example Toyas.
-/
import Derived.Test.YtdjmfapbaoddoaaGreatDoorErrOne
import Derived.Test.YtdjmfapbaoddoaaGreatDoorTurn
import Derived.WalkKit
import Derived.Outline
import Derived.Test.YtdjmfapbaoddoaaGreatDoorErrWrap
namespace Go.Proofs.YtdjmfapbaoddoaaGreatDoor
open Go.RowKit Go.Extern.Stop Go.Stop Go.Extern
set_option linter.unusedVariables false

theorem valueOfP (t : Addr) (w : World) : (ReflectliteValue.unpack (.iface 87 (.pointer (some t)))).run Tryz.prog w
    = .ok (rvl 87 ⟨w.heap.size, 0, none⟩ 150) (w.alloc (.cells #[.pointer (some t)] 87)) := by kernel_rfl
theorem typeP (a : Addr) (w : World) : (ReflectliteValue.methodAny (ReflectliteValue.valueError "reflectlite.Value.Type" 0) (fun t _ _ _ => ReflectliteType.toType t) #[rvl 87 a 150]).run Tryz.prog w = .ok (rty 87) w := by kernel_rfl
theorem methodUnwrap (v : Value) (w : World) : (Go.method 371 86 v "Unwrap").run Tryz.prog w = .ok (171, v) w := by kernel_rfl
theorem kindPP (w : World) : ((ReflectliteType.abiMethod fun t => (fun a : Nat => Value.int IntKind.u8 (a : Int)) <$> Rtype.kind t) #[hndl 87]).run Tryz.prog w = .ok (.int .u8 22) w := by kernel_rfl
theorem kindP (w : World) : ((ReflectliteType.abiMethod fun t => (fun a : Nat => Value.int IntKind.u8 (a : Int)) <$> Rtype.kind t) #[hndl 86]).run Tryz.prog w = .ok (.int .u8 25) w := by kernel_rfl
theorem partsPP (a : Addr) (w : World) : (ReflectliteValue.parts (rvl 87 a 150)).run Tryz.prog w = .ok (some (87, a, 150)) w := by kernel_rfl
theorem isNilP (a p : Addr) (W : World) (ha : W.cell? a = some (.pointer (some p))) :
    (ReflectliteValue.method (ReflectliteValue.valueError "reflectlite.Value.IsNil" 0) ReflectliteValue.isNil #[rvl 87 a 150]).run Tryz.prog W = .ok (.bool false) W := by
  rw [rlm]
  simp only [Sem.run_bind, partsPP, Result.andThen]
  simp [ReflectliteValue.isNil, loadVar, isAgg, underlying, Tryz.underlying87, ha, Result.andThen]
theorem elemTP (w : World) : (ReflectliteType.method ReflectliteType.elem #[.agg #[hndl 87]]).run Tryz.prog w = .ok (rty 86) w := by kernel_rfl
theorem implP (w : World) : (ReflectliteType.relation "Implements" ReflectliteType.implements_ #[.agg #[hndl 86], rty 28]).run Tryz.prog w = .ok (.bool true) w := by kernel_rfl
theorem typeOfP (v : Value) (w : World) : (ReflectliteType.typeOf #[.iface 86 v]).run Tryz.prog w = .ok (rty 86) w := by kernel_rfl
theorem assPN (w : World) : (ReflectliteType.relation "AssignableTo" ReflectliteType.assignableTo #[.agg #[hndl 86], rty 38]).run Tryz.prog w = .ok (.bool false) w := by kernel_rfl
theorem assPP (w : World) : (ReflectliteType.relation "AssignableTo" ReflectliteType.assignableTo #[.agg #[hndl 86], rty 86]).run Tryz.prog w = .ok (.bool true) w := by kernel_rfl
theorem valueOfEP (n p : Int) (w : World) : (ReflectliteValue.unpack (.iface 86 (.agg #[.int .i64 n, .int .i64 p]))).run Tryz.prog w
    = .ok (rvl 86 ⟨w.heap.size, 0, none⟩ 153) (w.alloc (.cells #[.int .i64 n, .int .i64 p] 86)) := by kernel_rfl
theorem elemOfP (w : World) : (Rtype.elem? 87).run Tryz.prog w = .ok (some 86) w := by kernel_rfl
theorem mkP (p : Addr) (w : World) : (ReflectliteValue.mk 86 p ReflectliteValue.flagAddr).run Tryz.prog w = .ok (rvl 86 p 409) w := by kernel_rfl
theorem elemVP (a p : Addr) (W : World) (ha : W.cell? a = some (.pointer (some p))) :
    (ReflectliteValue.method (ReflectliteValue.valueError "reflectlite.Value.Elem" 0) ReflectliteValue.elem #[rvl 87 a 150]).run Tryz.prog W = .ok (rvl 86 p 409) W := by
  rw [rlm]
  simp only [Sem.run_bind, partsPP, Result.andThen]
  simp [ReflectliteValue.elem, loadVar, isAgg, underlying, Tryz.underlying87, ha, Result.andThen, elemOfP, mkP]
theorem partsPa (a : Addr) (w : World) : (ReflectliteValue.parts (rvl 86 a 409)).run Tryz.prog w = .ok (some (86, a, 409)) w := by kernel_rfl
theorem partsP (a : Addr) (w : World) : (ReflectliteValue.parts (rvl 86 a 153)).run Tryz.prog w = .ok (some (86, a, 153)) w := by kernel_rfl
theorem directP (w : World) : (Rtype.directlyAssignable 86 86).run Tryz.prog w = .ok true w := by kernel_rfl


theorem setP (g h : Nat) (n p : Int) (o1 o2 : Value) (W : World) (hb0 : W.cell? ⟨h, 0, none⟩ = some (.int .i64 n)) (hb1 : W.cell? ⟨h, 1, none⟩ = some (.int .i64 p)) (ht0 : W.cell? ⟨g, 0, none⟩ = some o1) (ht1 : W.cell? ⟨g, 1, none⟩ = some o2)
    (hf0 : W.frozen? ⟨g, 0, none⟩ = false) (hf1 : W.frozen? ⟨g, 1, none⟩ = false) :
    (ReflectliteValue.set #[rvl 86 ⟨g, 0, none⟩ 409, rvl 86 ⟨h, 0, none⟩ 153]).run Tryz.prog W = .ok (.tuple #[]) ((W.setCell ⟨g, 0, none⟩ (.int .i64 n)).setCell ⟨g, 1, none⟩ (.int .i64 p)) := by
  rw [rls]
  simp only [Sem.run_bind, partsPa, partsP, Result.andThen]
  simp [ReflectliteValue.flagAddr, loadVar, isAgg, underlying, Tryz.underlying86, Result.andThen, directP, storeVar, Value.cells, storeCells, loadCells, loadCellsFrom, Addr.add, hb0, hb1]
  rw [run_store Tryz.prog W ⟨g, 0, none⟩ _ _ (by rfl)]
  simp only [ht0, hf0]
  have e1 : (W.setCell ⟨g, 0, none⟩ (.int .i64 n)).cell? ⟨g, 1, none⟩ = some o2 := by rw [World.cell?_setCell_other _ _ _ _ (by simp)]; exact ht1
  have e2 : (W.setCell ⟨g, 0, none⟩ (.int .i64 n)).frozen? ⟨g, 1, none⟩ = false := by rw [World.frozen?_setCell]; exact hf1
  simp only [Bool.false_eq_true, if_false]
  rw [run_store Tryz.prog _ ⟨g, 1, none⟩ _ _ (by rfl)]
  simp [e1, e2]

set_option maxRecDepth 100000 in
set_option maxHeartbeats 4000000 in
theorem as_p (n p : Int) (tgt : Value) (a : Addr) (g : Nat) (o1 o2 : Value) (w : World) (ha : w.cell? a = some (.pointer (some ⟨g, 0, none⟩))) (ht0 : w.cell? ⟨g, 0, none⟩ = some o1) (ht1 : w.cell? ⟨g, 1, none⟩ = some o2)
    (hf0 : w.frozen? ⟨g, 0, none⟩ = false) (hf1 : w.frozen? ⟨g, 1, none⟩ = false) :
    Calls Tryz.prog 51 #[.iface 86 (.agg #[.int .i64 n, .int .i64 p]), tgt, rvl 87 a 150, rty 86] w fun e w' => e = .returned (.bool true) ∧
      w'.cell? ⟨g, 0, none⟩ = some (.int .i64 n) ∧ w'.cell? ⟨g, 1, none⟩ = some (.int .i64 p) ∧ Only g w w' := by
  have h31 := @run_callFunc_extern Tryz.prog 48 _ (fun args => ReflectliteValue.unpack (args.getD 0 (.tuple #[]))) Tryz.func48 (by kernel_rfl) (by kernel_rfl) (by kernel_rfl) (by kernel_rfl)
  have h40 := @run_callFunc_extern Tryz.prog 70 _ ReflectliteType.typeOf Tryz.func70 (by kernel_rfl) (by kernel_rfl) (by kernel_rfl) (by kernel_rfl)
  have h82 := @run_callFunc_extern Tryz.prog 177 _ (ReflectliteType.relation "AssignableTo" ReflectliteType.assignableTo) Tryz.func177 (by kernel_rfl) (by kernel_rfl) (by kernel_rfl) (by kernel_rfl)
  have h41 := @run_callFunc_extern Tryz.prog 71 _ (ReflectliteValue.method (ReflectliteValue.valueError "reflectlite.Value.Elem" 0) ReflectliteValue.elem) Tryz.func71 (by kernel_rfl) (by kernel_rfl) (by kernel_rfl) (by kernel_rfl)
  have h42 := @run_callFunc_extern Tryz.prog 72 _ ReflectliteValue.set Tryz.func72 (by kernel_rfl) (by kernel_rfl) (by kernel_rfl) (by kernel_rfl)
  have f1 := typeOfP
  have f2 := methodAssignable
  have f3 := assPP
  have f4 := valueOfEP
  have hal : a.block < w.heap.size := World.block_lt_of_cell? _ _ ha
  have hgl : g < w.heap.size := World.block_lt_of_cell? _ _ ht0
  have f5 := elemVP a ⟨g, 0, none⟩ (w.alloc (.cells #[hndl 87, .pointer (some a), .int .u64 150] 108)) (by rw [World.cell?_alloc_lt _ _ _ hal]; exact ha)
  have f6 := setP g (w.heap.size + 1) n p o1 o2 ((w.alloc (.cells #[hndl 87, .pointer (some a), .int .u64 150] 108)).alloc (.cells #[.int .i64 n, .int .i64 p] 86))
    (by rw [World.cell?_alloc_at _ _ _ _ (by simp)]; rfl) (by rw [World.cell?_alloc_at _ _ _ _ (by simp)]; rfl)
    (by rw [World.cell?_alloc_lt _ _ _ (by simp; omega), World.cell?_alloc_lt _ _ _ hgl]; exact ht0) (by rw [World.cell?_alloc_lt _ _ _ (by simp; omega), World.cell?_alloc_lt _ _ _ hgl]; exact ht1)
    (by rw [World.frozen?_alloc_old _ _ _ (by simp; omega), World.frozen?_alloc_old _ _ _ (Nat.ne_of_lt hgl)]; exact hf0) (by rw [World.frozen?_alloc_old _ _ _ (by simp; omega), World.frozen?_alloc_old _ _ _ (Nat.ne_of_lt hgl)]; exact hf1)
  go_enter Tryz.func51, Tryz.ntmps51
  go_wp2
  refine wp_loop_rounds 1 ?_
  rw [rounds_succ]
  go_wp2
  go_ret
  refine ⟨rfl, ?_, ?_, (((Only.refl w g).setCell (.inl rfl) _).setCell (.inl rfl) _).alloc _ |>.alloc _⟩
  · rw [World.cell?_alloc_lt _ _ _ (by simp; omega), World.cell?_alloc_lt _ _ _ (by simp; omega), World.cell?_setCell_other _ _ _ _ (by simp)]
    exact World.cell?_setCell_same _ _ _ ht0
  · rw [World.cell?_alloc_lt _ _ _ (by simp; omega), World.cell?_alloc_lt _ _ _ (by simp; omega)]
    exact World.cell?_setCell_same _ _ _ (u := o2) (by rw [World.cell?_setCell_other _ _ _ _ (by simp)]; exact ht1)

set_option maxRecDepth 100000 in
set_option maxHeartbeats 4000000 in
theorem as_n (n p : Int) (tgt : Value) (a : Addr) (g : Nat) (o1 : Value) (w : World) (ha : w.cell? a = some (.pointer (some ⟨g, 0, none⟩))) (ht0 : w.cell? ⟨g, 0, none⟩ = some o1) (hf0 : w.frozen? ⟨g, 0, none⟩ = false) :
    Calls Tryz.prog 51 #[.iface 86 (.agg #[.int .i64 n, .int .i64 p]), tgt, rvl 84 a 150, rty 38] w fun e w' => e = .returned (.bool true) ∧
      w'.cell? ⟨g, 0, none⟩ = some (.int .i64 n) ∧ Only g w w' := by
  have h31 := @run_callFunc_extern Tryz.prog 48 _ (fun args => ReflectliteValue.unpack (args.getD 0 (.tuple #[]))) Tryz.func48 (by kernel_rfl) (by kernel_rfl) (by kernel_rfl) (by kernel_rfl)
  have h40 := @run_callFunc_extern Tryz.prog 70 _ ReflectliteType.typeOf Tryz.func70 (by kernel_rfl) (by kernel_rfl) (by kernel_rfl) (by kernel_rfl)
  have h82 := @run_callFunc_extern Tryz.prog 177 _ (ReflectliteType.relation "AssignableTo" ReflectliteType.assignableTo) Tryz.func177 (by kernel_rfl) (by kernel_rfl) (by kernel_rfl) (by kernel_rfl)
  have h41 := @run_callFunc_extern Tryz.prog 71 _ (ReflectliteValue.method (ReflectliteValue.valueError "reflectlite.Value.Elem" 0) ReflectliteValue.elem) Tryz.func71 (by kernel_rfl) (by kernel_rfl) (by kernel_rfl) (by kernel_rfl)
  have h42 := @run_callFunc_extern Tryz.prog 72 _ ReflectliteValue.set Tryz.func72 (by kernel_rfl) (by kernel_rfl) (by kernel_rfl) (by kernel_rfl)
  have f1 := typeOfP
  have f1' := typeOfN
  have f2 := methodAssignable
  have f3 := assPN
  have f3' := assNN
  have f4 := valueOfEN
  have f9 := methodUnwrap
  have f7 : ∀ v w, (Instr.typeAssert (.iface 86 v) 28 139 true).run Tryz.prog w = .ok (.tuple #[.nilIface, .bool false]) w := fun v w => run_typeAssert_lacksB Tryz.underlying139 (by kernel_rfl) (by kernel_rfl) v _ w
  have f8 : ∀ v w, (Instr.typeAssert (.iface 86 v) 28 142 true).run Tryz.prog w = .ok (.tuple #[.iface 86 v, .bool true]) w := fun v w => run_typeAssert_hasB Tryz.underlying142 (by kernel_rfl) v _ w
  have hal : a.block < w.heap.size := World.block_lt_of_cell? _ _ ha
  have hgl : g < w.heap.size := World.block_lt_of_cell? _ _ ht0
  go_enter Tryz.func51, Tryz.ntmps51
  go_wp2
  refine wp_loop_rounds 2 ?_
  rw [rounds_succ]
  go_wp2
  rw [rounds_succ]
  obtain ⟨w2, hw2⟩ : ∃ w2, (w.alloc (.cells #[hndl 84, .pointer (some a), .int .u64 150] 108)).alloc (.cells #[.int .i64 n, .int .i64 p] 86) = w2 := ⟨_, rfl⟩
  have hc0 : w2.cell? ⟨w.heap.size, 0, none⟩ = some (hndl 84) := by rw [← hw2, World.cell?_alloc_lt _ _ _ (by simp)]; simp
  have hc1 : w2.cell? ⟨w.heap.size, 1, none⟩ = some (.pointer (some a)) := by rw [← hw2, World.cell?_alloc_lt _ _ _ (by simp)]; simp
  have hc2 : w2.cell? ⟨w.heap.size, 2, none⟩ = some (.int .u64 150) := by rw [← hw2, World.cell?_alloc_lt _ _ _ (by simp)]; simp
  have f5 := elemVN a ⟨g, 0, none⟩ w2 (by rw [← hw2, World.cell?_alloc_lt _ _ _ (by simp; omega), World.cell?_alloc_lt _ _ _ hal]; exact ha)
  have hg2 : w2.cell? ⟨g, 0, none⟩ = some o1 := by rw [← hw2, World.cell?_alloc_lt _ _ _ (by simp; omega), World.cell?_alloc_lt _ _ _ hgl]; exact ht0
  have hgf : w2.frozen? ⟨g, 0, none⟩ = false := by rw [← hw2, World.frozen?_alloc_old _ _ _ (by simp; omega), World.frozen?_alloc_old _ _ _ (Nat.ne_of_lt hgl)]; exact hf0
  have hgl2 : g < w2.heap.size := World.block_lt_of_cell? _ _ hg2
  have f6 := setN ⟨g, 0, none⟩ ⟨w2.heap.size, 0, none⟩ n o1 (w2.alloc (.cells #[.int .i64 n] 38)) (by simp) (by rw [World.cell?_alloc_lt _ _ _ hgl2]; exact hg2) (by rw [World.frozen?_alloc_old _ _ _ (Nat.ne_of_lt hgl2)]; exact hgf)
  have ho : Only g w w2 := by rw [← hw2]; exact ((Only.refl w g).alloc _).alloc _
  rw [hw2]
  clear hw2
  go_wp2
  go_ret
  refine ⟨rfl, ?_, ?_⟩
  · first | exact World.cell?_setCell_same _ _ _ (u := o1) (by rw [World.cell?_alloc_lt _ _ _ hgl2]; exact hg2) | (rw [World.cell?_alloc_lt _ _ _ (by simp; omega)]; exact World.cell?_setCell_same _ _ _ hg2)
  · first | exact (ho.alloc _).setCell (.inl rfl) _ | exact (ho.setCell (.inl rfl) _).alloc _


set_option maxHeartbeats 4000000 in
theorem As_n (n p : Int) (g : Nat) (o1 : Value) (w : World) (hT : ErrT w) (ht0 : w.cell? ⟨g, 0, none⟩ = some o1) (hf0 : w.frozen? ⟨g, 0, none⟩ = false) :
    Calls Tryz.prog 29 #[.iface 86 (.agg #[.int .i64 n, .int .i64 p]), .iface 84 (.pointer (some ⟨g, 0, none⟩))] w fun e w' => e = .returned (.bool true) ∧
      w'.cell? ⟨g, 0, none⟩ = some (.int .i64 n) ∧ Only g w w' := by
  have h31 := @run_callFunc_extern Tryz.prog 48 _ (fun args => ReflectliteValue.unpack (args.getD 0 (.tuple #[]))) Tryz.func48 (by kernel_rfl) (by kernel_rfl) (by kernel_rfl) (by kernel_rfl)
  have h32 := @run_callFunc_extern Tryz.prog 49 _ (ReflectliteValue.methodAny (ReflectliteValue.valueError "reflectlite.Value.Type" 0) (fun t _ _ _ => ReflectliteType.toType t)) Tryz.func49 (by kernel_rfl) (by kernel_rfl) (by kernel_rfl) (by kernel_rfl)
  have h33 := @run_callFunc_extern Tryz.prog 50 _ (ReflectliteValue.method (ReflectliteValue.valueError "reflectlite.Value.IsNil" 0) ReflectliteValue.isNil) Tryz.func50 (by kernel_rfl) (by kernel_rfl) (by kernel_rfl) (by kernel_rfl)
  have h71 := @run_callFunc_extern Tryz.prog 164 _ (ReflectliteType.abiMethod fun t => do pure (.int .u8 (← Rtype.kind t))) Tryz.func164 (by kernel_rfl) (by kernel_rfl) (by kernel_rfl) (by kernel_rfl)
  have h84 := @run_callFunc_extern Tryz.prog 179 _ (ReflectliteType.method ReflectliteType.elem) Tryz.func179 (by kernel_rfl) (by kernel_rfl) (by kernel_rfl) (by kernel_rfl)
  have h85 := @run_callFunc_extern Tryz.prog 180 _ (ReflectliteType.relation "Implements" ReflectliteType.implements_) Tryz.func180 (by kernel_rfl) (by kernel_rfl) (by kernel_rfl) (by kernel_rfl)
  have f1 := valueOfN
  have f2 := typeN
  have f3 := methodKind
  have f4 := methodElem
  have f5 := methodImplements
  have f6 := kindPN
  have f7 := kindN
  have f8 := elemTN
  have f9 := implN
  have hgl : g < w.heap.size := World.block_lt_of_cell? _ _ ht0
  obtain ⟨w2, hw2⟩ : ∃ w2, (w.alloc (.cells #[.pointer (some ⟨g, 0, none⟩)] 84)).alloc (.cells #[hndl 84, .pointer (some ⟨w.heap.size, 0, none⟩), .int .u64 150] 108) = w2 := ⟨_, rfl⟩
  have ha2 : w2.cell? ⟨w.heap.size, 0, none⟩ = some (.pointer (some ⟨g, 0, none⟩)) := by rw [← hw2, World.cell?_alloc_lt _ _ _ (by simp)]; simp
  have hc0 : w2.cell? ⟨w.heap.size + 1, 0, none⟩ = some (hndl 84) := by rw [← hw2, World.cell?_alloc_at _ _ _ _ (by simp)]; rfl
  have hc1 : w2.cell? ⟨w.heap.size + 1, 1, none⟩ = some (.pointer (some ⟨w.heap.size, 0, none⟩)) := by rw [← hw2, World.cell?_alloc_at _ _ _ _ (by simp)]; rfl
  have hc2 : w2.cell? ⟨w.heap.size + 1, 2, none⟩ = some (.int .u64 150) := by rw [← hw2, World.cell?_alloc_at _ _ _ _ (by simp)]; rfl
  have hT2 : w2.cell? ⟨0, 0, none⟩ = some (rty 28) := by rw [← hw2]; exact (hT.alloc _).alloc _
  have n8 := isNilN ⟨w.heap.size, 0, none⟩ ⟨g, 0, none⟩ w2 ha2
  have q0 : w2.cell? ⟨g, 0, none⟩ = some o1 := by rw [← hw2, World.cell?_alloc_lt _ _ _ (by simp; omega), World.cell?_alloc_lt _ _ _ hgl]; exact ht0
  have r0 : w2.frozen? ⟨g, 0, none⟩ = false := by rw [← hw2, World.frozen?_alloc_old _ _ _ (by simp; omega), World.frozen?_alloc_old _ _ _ (Nat.ne_of_lt hgl)]; exact hf0
  skip
  have ho : Only g w w2 := by rw [← hw2]; exact ((Only.refl w g).alloc _).alloc _
  go_enter Tryz.func29, Tryz.ntmps29
  go_wp2_with (go_at_call 51; fail)
  refine (as_n n p _ _ g o1 w2 ha2 q0 r0).mono ?_
  rintro e w' ⟨rfl, h0, ho'⟩
  clear hw2
  go_wp2
  go_ret
  exact ⟨rfl, h0, ho.trans ho'⟩

set_option maxHeartbeats 4000000 in
theorem As_p (n p : Int) (g : Nat) (o1 o2 : Value) (w : World) (hT : ErrT w) (ht0 : w.cell? ⟨g, 0, none⟩ = some o1) (ht1 : w.cell? ⟨g, 1, none⟩ = some o2) (hf0 : w.frozen? ⟨g, 0, none⟩ = false) (hf1 : w.frozen? ⟨g, 1, none⟩ = false) :
    Calls Tryz.prog 29 #[.iface 86 (.agg #[.int .i64 n, .int .i64 p]), .iface 87 (.pointer (some ⟨g, 0, none⟩))] w fun e w' => e = .returned (.bool true) ∧
      w'.cell? ⟨g, 0, none⟩ = some (.int .i64 n) ∧ w'.cell? ⟨g, 1, none⟩ = some (.int .i64 p) ∧ Only g w w' := by
  have h31 := @run_callFunc_extern Tryz.prog 48 _ (fun args => ReflectliteValue.unpack (args.getD 0 (.tuple #[]))) Tryz.func48 (by kernel_rfl) (by kernel_rfl) (by kernel_rfl) (by kernel_rfl)
  have h32 := @run_callFunc_extern Tryz.prog 49 _ (ReflectliteValue.methodAny (ReflectliteValue.valueError "reflectlite.Value.Type" 0) (fun t _ _ _ => ReflectliteType.toType t)) Tryz.func49 (by kernel_rfl) (by kernel_rfl) (by kernel_rfl) (by kernel_rfl)
  have h33 := @run_callFunc_extern Tryz.prog 50 _ (ReflectliteValue.method (ReflectliteValue.valueError "reflectlite.Value.IsNil" 0) ReflectliteValue.isNil) Tryz.func50 (by kernel_rfl) (by kernel_rfl) (by kernel_rfl) (by kernel_rfl)
  have h71 := @run_callFunc_extern Tryz.prog 164 _ (ReflectliteType.abiMethod fun t => do pure (.int .u8 (← Rtype.kind t))) Tryz.func164 (by kernel_rfl) (by kernel_rfl) (by kernel_rfl) (by kernel_rfl)
  have h84 := @run_callFunc_extern Tryz.prog 179 _ (ReflectliteType.method ReflectliteType.elem) Tryz.func179 (by kernel_rfl) (by kernel_rfl) (by kernel_rfl) (by kernel_rfl)
  have h85 := @run_callFunc_extern Tryz.prog 180 _ (ReflectliteType.relation "Implements" ReflectliteType.implements_) Tryz.func180 (by kernel_rfl) (by kernel_rfl) (by kernel_rfl) (by kernel_rfl)
  have f1 := valueOfP
  have f2 := typeP
  have f3 := methodKind
  have f4 := methodElem
  have f5 := methodImplements
  have f6 := kindPP
  have f7 := kindP
  have f8 := elemTP
  have f9 := implP
  have hgl : g < w.heap.size := World.block_lt_of_cell? _ _ ht0
  obtain ⟨w2, hw2⟩ : ∃ w2, (w.alloc (.cells #[.pointer (some ⟨g, 0, none⟩)] 87)).alloc (.cells #[hndl 87, .pointer (some ⟨w.heap.size, 0, none⟩), .int .u64 150] 108) = w2 := ⟨_, rfl⟩
  have ha2 : w2.cell? ⟨w.heap.size, 0, none⟩ = some (.pointer (some ⟨g, 0, none⟩)) := by rw [← hw2, World.cell?_alloc_lt _ _ _ (by simp)]; simp
  have hc0 : w2.cell? ⟨w.heap.size + 1, 0, none⟩ = some (hndl 87) := by rw [← hw2, World.cell?_alloc_at _ _ _ _ (by simp)]; rfl
  have hc1 : w2.cell? ⟨w.heap.size + 1, 1, none⟩ = some (.pointer (some ⟨w.heap.size, 0, none⟩)) := by rw [← hw2, World.cell?_alloc_at _ _ _ _ (by simp)]; rfl
  have hc2 : w2.cell? ⟨w.heap.size + 1, 2, none⟩ = some (.int .u64 150) := by rw [← hw2, World.cell?_alloc_at _ _ _ _ (by simp)]; rfl
  have hT2 : w2.cell? ⟨0, 0, none⟩ = some (rty 28) := by rw [← hw2]; exact (hT.alloc _).alloc _
  have n8 := isNilP ⟨w.heap.size, 0, none⟩ ⟨g, 0, none⟩ w2 ha2
  have q0 : w2.cell? ⟨g, 0, none⟩ = some o1 := by rw [← hw2, World.cell?_alloc_lt _ _ _ (by simp; omega), World.cell?_alloc_lt _ _ _ hgl]; exact ht0
  have r0 : w2.frozen? ⟨g, 0, none⟩ = false := by rw [← hw2, World.frozen?_alloc_old _ _ _ (by simp; omega), World.frozen?_alloc_old _ _ _ (Nat.ne_of_lt hgl)]; exact hf0
  have q1 : w2.cell? ⟨g, 1, none⟩ = some o2 := by rw [← hw2, World.cell?_alloc_lt _ _ _ (by simp; omega), World.cell?_alloc_lt _ _ _ hgl]; exact ht1
  have r1 : w2.frozen? ⟨g, 1, none⟩ = false := by rw [← hw2, World.frozen?_alloc_old _ _ _ (by simp; omega), World.frozen?_alloc_old _ _ _ (Nat.ne_of_lt hgl)]; exact hf1
  have ho : Only g w w2 := by rw [← hw2]; exact ((Only.refl w g).alloc _).alloc _
  go_enter Tryz.func29, Tryz.ntmps29
  go_wp2_with (go_at_call 51; fail)
  refine (as_p n p _ _ g o1 o2 w2 ha2 q0 q1 r0 r1).mono ?_
  rintro e w' ⟨rfl, h0, h1, ho'⟩
  clear hw2
  go_wp2
  go_ret
  exact ⟨rfl, h0, h1, ho.trans ho'⟩

set_option maxHeartbeats 4000000 in
theorem number_any (n p : Int) (w : World) (hT : ErrT w) : Calls Tryz.prog 14 #[faultV n p] w fun e w' => e = .returned (.int .i64 n) ∧ Below w.heap.size w w' := by
  unfold faultV
  have H := keepHid (As_n n p w.heap.size (.int .i64 0) (w.alloc (.cells #[.int .i64 0] 38)) (hT.alloc _) (by simp) (by simp))
  go_enter Tryz.func14, Tryz.ntmps14
  go_wp2_with (go_at_call 29; fail)
  refine H.out.mono ?_
  rintro e w' ⟨rfl, h0, ho⟩
  have hb : Below w.heap.size w w' := ((Below.refl _ _).alloc (Nat.le_refl _) _).trans (ho.below (Nat.le_refl _) (by simp))
  go_wp2
  go_ret
  exact ⟨rfl, hb⟩
set_option maxHeartbeats 4000000 in
theorem place_any (n p : Int) (w : World) (hT : ErrT w) : Calls Tryz.prog 15 #[faultV n p] w fun e w' => e = .returned (.int .i64 p) ∧ Below w.heap.size w w' := by
  unfold faultV
  have H := keepHid (As_p n p w.heap.size (.int .i64 0) (.int .i64 0) (w.alloc (.cells #[.int .i64 0, .int .i64 0] 86)) (hT.alloc _) (by simp) (by simp) (by simp) (by simp))
  go_enter Tryz.func15, Tryz.ntmps15
  go_wp2_with (go_at_call 29; fail)
  refine H.out.mono ?_
  rintro e w' ⟨rfl, h0, h1, ho⟩
  have hb : Below w.heap.size w w' := ((Below.refl _ _).alloc (Nat.le_refl _) _).trans (ho.below (Nat.le_refl _) (by simp))
  go_wp2
  go_ret
  exact ⟨rfl, hb⟩
end Go.Proofs.YtdjmfapbaoddoaaGreatDoor
