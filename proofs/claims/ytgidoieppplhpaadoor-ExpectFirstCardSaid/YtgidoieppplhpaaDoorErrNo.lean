/-
  api.Number, api.Place at an Errno alone, by their contracts.
-/
import Derived.Test.YtgidoieppplhpaaDoorErrUse
import Derived.WalkKit
import Derived.Outline
namespace Go.Proofs.YtgidoieppplhpaaDoor
open Go.RowKit Go.Extern.Stop Go.Stop Go.Extern
set_option linter.unusedVariables false

theorem assNP (w : World) : (ReflectliteType.relation "AssignableTo" ReflectliteType.assignableTo #[.agg #[hndl 40], rty 87]).run Tryd.prog w = .ok (.bool false) w := by kernel_rfl
set_option maxRecDepth 100000 in
set_option maxHeartbeats 4000000 in
theorem as_e (n : Int) (tgt : Value) (a : Addr) (g : Nat) (o1 : Value) (w : World) (ha : w.cell? a = some (.pointer (some ⟨g, 0, none⟩))) (ht0 : w.cell? ⟨g, 0, none⟩ = some o1) (hf0 : w.frozen? ⟨g, 0, none⟩ = false) :
    Calls Tryd.prog 35 #[.iface 40 (.int .i64 n), tgt, rvl 64 a 150, rty 40] w fun e w' => e = .returned (.bool true) ∧
      w'.cell? ⟨g, 0, none⟩ = some (.int .i64 n) ∧ Only g w w' := by
  have h31 := @run_callFunc_extern Tryd.prog 32 _ (fun args => ReflectliteValue.unpack (args.getD 0 (.tuple #[]))) Tryd.func32 (by kernel_rfl) (by kernel_rfl) (by kernel_rfl) (by kernel_rfl)
  have h40 := @run_callFunc_extern Tryd.prog 52 _ ReflectliteType.typeOf Tryd.func52 (by kernel_rfl) (by kernel_rfl) (by kernel_rfl) (by kernel_rfl)
  have h82 := @run_callFunc_extern Tryd.prog 99 _ (ReflectliteType.relation "AssignableTo" ReflectliteType.assignableTo) Tryd.func99 (by kernel_rfl) (by kernel_rfl) (by kernel_rfl) (by kernel_rfl)
  have h41 := @run_callFunc_extern Tryd.prog 53 _ (ReflectliteValue.method (ReflectliteValue.valueError "reflectlite.Value.Elem" 0) ReflectliteValue.elem) Tryd.func53 (by kernel_rfl) (by kernel_rfl) (by kernel_rfl) (by kernel_rfl)
  have h42 := @run_callFunc_extern Tryd.prog 54 _ ReflectliteValue.set Tryd.func54 (by kernel_rfl) (by kernel_rfl) (by kernel_rfl) (by kernel_rfl)
  have f1 := typeOfN
  have f2 := methodAssignable
  have f3 := assNN
  have f4 := valueOfEN
  have hal : a.block < w.heap.size := World.block_lt_of_cell? _ _ ha
  have hgl : g < w.heap.size := World.block_lt_of_cell? _ _ ht0
  obtain ⟨w2, hw2⟩ : ∃ w2, w.alloc (.cells #[hndl 64, .pointer (some a), .int .u64 150] 95) = w2 := ⟨_, rfl⟩
  have hc0 : w2.cell? ⟨w.heap.size, 0, none⟩ = some (hndl 64) := by rw [← hw2]; simp
  have hc1 : w2.cell? ⟨w.heap.size, 1, none⟩ = some (.pointer (some a)) := by rw [← hw2]; simp
  have hc2 : w2.cell? ⟨w.heap.size, 2, none⟩ = some (.int .u64 150) := by rw [← hw2]; simp
  have f5 := elemVN a ⟨g, 0, none⟩ w2 (by rw [← hw2, World.cell?_alloc_lt _ _ _ hal]; exact ha)
  have hg2 : w2.cell? ⟨g, 0, none⟩ = some o1 := by rw [← hw2, World.cell?_alloc_lt _ _ _ hgl]; exact ht0
  have hgf : w2.frozen? ⟨g, 0, none⟩ = false := by rw [← hw2, World.frozen?_alloc_old _ _ _ (Nat.ne_of_lt hgl)]; exact hf0
  have hgl2 : g < w2.heap.size := World.block_lt_of_cell? _ _ hg2
  have f6 := setN ⟨g, 0, none⟩ ⟨w2.heap.size, 0, none⟩ n o1 (w2.alloc (.cells #[.int .i64 n] 40)) (by simp) (by rw [World.cell?_alloc_lt _ _ _ hgl2]; exact hg2) (by rw [World.frozen?_alloc_old _ _ _ (Nat.ne_of_lt hgl2)]; exact hgf)
  have ho : Only g w w2 := by rw [← hw2]; exact (Only.refl w g).alloc _
  go_enter Tryd.func35, Tryd.ntmps35
  go_wp2
  refine wp_loop_rounds 1 ?_
  rw [rounds_succ]
  clear hw2
  go_wp2
  go_ret
  refine ⟨rfl, ?_, ?_⟩
  · first | exact World.cell?_setCell_same _ _ _ (u := o1) (by rw [World.cell?_alloc_lt _ _ _ hgl2]; exact hg2) | (rw [World.cell?_alloc_lt _ _ _ (by simp; omega)]; exact World.cell?_setCell_same _ _ _ hg2)
  · first | exact (ho.alloc _).setCell (.inl rfl) _ | exact (ho.setCell (.inl rfl) _).alloc _
set_option maxRecDepth 100000 in
set_option maxHeartbeats 4000000 in
theorem as_ep (n : Int) (tgt : Value) (a : Addr) (w : World) :
    Calls Tryd.prog 35 #[.iface 40 (.int .i64 n), tgt, rvl 88 a 150, rty 87] w fun e w' => e = .returned (.bool false) ∧ Below w.heap.size w w' := by
  have h40 := @run_callFunc_extern Tryd.prog 52 _ ReflectliteType.typeOf Tryd.func52 (by kernel_rfl) (by kernel_rfl) (by kernel_rfl) (by kernel_rfl)
  have h82 := @run_callFunc_extern Tryd.prog 99 _ (ReflectliteType.relation "AssignableTo" ReflectliteType.assignableTo) Tryd.func99 (by kernel_rfl) (by kernel_rfl) (by kernel_rfl) (by kernel_rfl)
  have f1 := typeOfN
  have f2 := methodAssignable
  have f3 := assNP
  have f7 : ∀ v w, (Instr.typeAssert (.iface 40 v) 37 123 true).run Tryd.prog w = .ok (.tuple #[.nilIface, .bool false]) w := fun v w => run_typeAssert_lacksB Tryd.underlying123 (by kernel_rfl) (by kernel_rfl) v _ w
  have f8 : ∀ v w, (Instr.typeAssert (.iface 40 v) 37 126 true).run Tryd.prog w = .ok (.tuple #[.nilIface, .bool false]) w := fun v w => run_typeAssert_lacksB Tryd.underlying126 (by kernel_rfl) (by kernel_rfl) v _ w
  have f9 : ∀ v w, (Instr.typeAssert (.iface 40 v) 37 128 true).run Tryd.prog w = .ok (.tuple #[.nilIface, .bool false]) w := fun v w => run_typeAssert_lacksB Tryd.underlying128 (by kernel_rfl) (by kernel_rfl) v _ w
  go_enter Tryd.func35, Tryd.ntmps35
  go_wp2
  refine wp_loop_rounds 1 ?_
  rw [rounds_succ]
  go_wp2
  go_ret
  exact ⟨rfl, (Below.refl _ _).alloc (Nat.le_refl _) _⟩
set_option maxHeartbeats 4000000 in
theorem As_e (n : Int) (g : Nat) (o1 : Value) (w : World) (hT : ErrT w) (ht0 : w.cell? ⟨g, 0, none⟩ = some o1) (hf0 : w.frozen? ⟨g, 0, none⟩ = false) :
    Calls Tryd.prog 20 #[.iface 40 (.int .i64 n), .iface 64 (.pointer (some ⟨g, 0, none⟩))] w fun e w' => e = .returned (.bool true) ∧
      w'.cell? ⟨g, 0, none⟩ = some (.int .i64 n) ∧ Only g w w' := by
  have h31 := @run_callFunc_extern Tryd.prog 32 _ (fun args => ReflectliteValue.unpack (args.getD 0 (.tuple #[]))) Tryd.func32 (by kernel_rfl) (by kernel_rfl) (by kernel_rfl) (by kernel_rfl)
  have h32 := @run_callFunc_extern Tryd.prog 33 _ (ReflectliteValue.methodAny (ReflectliteValue.valueError "reflectlite.Value.Type" 0) (fun t _ _ _ => ReflectliteType.toType t)) Tryd.func33 (by kernel_rfl) (by kernel_rfl) (by kernel_rfl) (by kernel_rfl)
  have h33 := @run_callFunc_extern Tryd.prog 34 _ (ReflectliteValue.method (ReflectliteValue.valueError "reflectlite.Value.IsNil" 0) ReflectliteValue.isNil) Tryd.func34 (by kernel_rfl) (by kernel_rfl) (by kernel_rfl) (by kernel_rfl)
  have h71 := @run_callFunc_extern Tryd.prog 89 _ (ReflectliteType.abiMethod fun t => do pure (.int .u8 (← Rtype.kind t))) Tryd.func89 (by kernel_rfl) (by kernel_rfl) (by kernel_rfl) (by kernel_rfl)
  have h84 := @run_callFunc_extern Tryd.prog 101 _ (ReflectliteType.method ReflectliteType.elem) Tryd.func101 (by kernel_rfl) (by kernel_rfl) (by kernel_rfl) (by kernel_rfl)
  have h85 := @run_callFunc_extern Tryd.prog 102 _ (ReflectliteType.relation "Implements" ReflectliteType.implements_) Tryd.func102 (by kernel_rfl) (by kernel_rfl) (by kernel_rfl) (by kernel_rfl)
  have f1 := valueOfN
  have f2 := typeN
  have f3 := methodKind
  have f4 := methodElem
  have f5 := methodImplements
  have f6 := kindPN
  have f7 := kindN
  have f8 := elemTN
  have f9 := implN
  have hgl : g < w.heap.size := World.block_lt_of_cell? _ _ ht0
  obtain ⟨w2, hw2⟩ : ∃ w2, (w.alloc (.cells #[.pointer (some ⟨g, 0, none⟩)] 64)).alloc (.cells #[hndl 64, .pointer (some ⟨w.heap.size, 0, none⟩), .int .u64 150] 95) = w2 := ⟨_, rfl⟩
  have ha2 : w2.cell? ⟨w.heap.size, 0, none⟩ = some (.pointer (some ⟨g, 0, none⟩)) := by rw [← hw2, World.cell?_alloc_lt _ _ _ (by simp)]; simp
  have hc0 : w2.cell? ⟨w.heap.size + 1, 0, none⟩ = some (hndl 64) := by rw [← hw2, World.cell?_alloc_at _ _ _ _ (by simp)]; rfl
  have hc1 : w2.cell? ⟨w.heap.size + 1, 1, none⟩ = some (.pointer (some ⟨w.heap.size, 0, none⟩)) := by rw [← hw2, World.cell?_alloc_at _ _ _ _ (by simp)]; rfl
  have hc2 : w2.cell? ⟨w.heap.size + 1, 2, none⟩ = some (.int .u64 150) := by rw [← hw2, World.cell?_alloc_at _ _ _ _ (by simp)]; rfl
  have hT2 : w2.cell? ⟨0, 0, none⟩ = some (rty 37) := by rw [← hw2]; exact (hT.alloc _).alloc _
  have n8 := isNilN ⟨w.heap.size, 0, none⟩ ⟨g, 0, none⟩ w2 ha2
  have q0 : w2.cell? ⟨g, 0, none⟩ = some o1 := by rw [← hw2, World.cell?_alloc_lt _ _ _ (by simp; omega), World.cell?_alloc_lt _ _ _ hgl]; exact ht0
  have r0 : w2.frozen? ⟨g, 0, none⟩ = false := by rw [← hw2, World.frozen?_alloc_old _ _ _ (by simp; omega), World.frozen?_alloc_old _ _ _ (Nat.ne_of_lt hgl)]; exact hf0
  skip
  have ho : Only g w w2 := by rw [← hw2]; exact ((Only.refl w g).alloc _).alloc _
  go_enter Tryd.func20, Tryd.ntmps20
  go_wp2_with (go_at_call 35; fail)
  refine (as_e n _ _ g o1 w2 ha2 q0 r0).mono ?_
  rintro e w' ⟨rfl, h0, ho'⟩
  clear hw2
  go_wp2
  go_ret
  exact ⟨rfl, h0, ho.trans ho'⟩

set_option maxHeartbeats 4000000 in
theorem As_ep (n : Int) (g : Nat) (o1 : Value) (w : World) (hT : ErrT w) (ht0 : w.cell? ⟨g, 0, none⟩ = some o1) :
    Calls Tryd.prog 20 #[.iface 40 (.int .i64 n), .iface 88 (.pointer (some ⟨g, 0, none⟩))] w fun e w' => e = .returned (.bool false) ∧ Below w.heap.size w w' := by
  have h31 := @run_callFunc_extern Tryd.prog 32 _ (fun args => ReflectliteValue.unpack (args.getD 0 (.tuple #[]))) Tryd.func32 (by kernel_rfl) (by kernel_rfl) (by kernel_rfl) (by kernel_rfl)
  have h32 := @run_callFunc_extern Tryd.prog 33 _ (ReflectliteValue.methodAny (ReflectliteValue.valueError "reflectlite.Value.Type" 0) (fun t _ _ _ => ReflectliteType.toType t)) Tryd.func33 (by kernel_rfl) (by kernel_rfl) (by kernel_rfl) (by kernel_rfl)
  have h33 := @run_callFunc_extern Tryd.prog 34 _ (ReflectliteValue.method (ReflectliteValue.valueError "reflectlite.Value.IsNil" 0) ReflectliteValue.isNil) Tryd.func34 (by kernel_rfl) (by kernel_rfl) (by kernel_rfl) (by kernel_rfl)
  have h71 := @run_callFunc_extern Tryd.prog 89 _ (ReflectliteType.abiMethod fun t => do pure (.int .u8 (← Rtype.kind t))) Tryd.func89 (by kernel_rfl) (by kernel_rfl) (by kernel_rfl) (by kernel_rfl)
  have h84 := @run_callFunc_extern Tryd.prog 101 _ (ReflectliteType.method ReflectliteType.elem) Tryd.func101 (by kernel_rfl) (by kernel_rfl) (by kernel_rfl) (by kernel_rfl)
  have h85 := @run_callFunc_extern Tryd.prog 102 _ (ReflectliteType.relation "Implements" ReflectliteType.implements_) Tryd.func102 (by kernel_rfl) (by kernel_rfl) (by kernel_rfl) (by kernel_rfl)
  have f1 := valueOfP
  have f2 := typeP
  have f3 := methodKind
  have f4 := methodElem
  have f5 := methodImplements
  have f6 := kindPP
  have f7 := kindP
  have f8 := elemTP
  have f9 := implP
  have hgl : g < w.heap.size := World.block_lt_of_cell? _ _ ht0
  obtain ⟨w2, hw2⟩ : ∃ w2, (w.alloc (.cells #[.pointer (some ⟨g, 0, none⟩)] 88)).alloc (.cells #[hndl 88, .pointer (some ⟨w.heap.size, 0, none⟩), .int .u64 150] 95) = w2 := ⟨_, rfl⟩
  have ha2 : w2.cell? ⟨w.heap.size, 0, none⟩ = some (.pointer (some ⟨g, 0, none⟩)) := by rw [← hw2, World.cell?_alloc_lt _ _ _ (by simp)]; simp
  have hc0 : w2.cell? ⟨w.heap.size + 1, 0, none⟩ = some (hndl 88) := by rw [← hw2, World.cell?_alloc_at _ _ _ _ (by simp)]; rfl
  have hc1 : w2.cell? ⟨w.heap.size + 1, 1, none⟩ = some (.pointer (some ⟨w.heap.size, 0, none⟩)) := by rw [← hw2, World.cell?_alloc_at _ _ _ _ (by simp)]; rfl
  have hc2 : w2.cell? ⟨w.heap.size + 1, 2, none⟩ = some (.int .u64 150) := by rw [← hw2, World.cell?_alloc_at _ _ _ _ (by simp)]; rfl
  have hT2 : w2.cell? ⟨0, 0, none⟩ = some (rty 37) := by rw [← hw2]; exact (hT.alloc _).alloc _
  have n8 := isNilP ⟨w.heap.size, 0, none⟩ ⟨g, 0, none⟩ w2 ha2
  have ho : Below w.heap.size w w2 := by rw [← hw2]; exact ((Below.refl _ _).alloc (Nat.le_refl _) _).alloc (by simp) _
  go_enter Tryd.func20, Tryd.ntmps20
  go_wp2_with (go_at_call 35; fail)
  refine (as_ep n _ _ w2).mono ?_
  rintro e w' ⟨rfl, ho'⟩
  clear hw2
  go_wp2
  go_ret
  exact ⟨rfl, ho.trans (ho'.mono ho.size)⟩

set_option maxHeartbeats 4000000 in
theorem number_e (n : Int) (w : World) (hT : ErrT w) : Calls Tryd.prog 8 #[.iface 40 (.int .i64 n)] w fun e w' => e = .returned (.int .i64 n) ∧ Below w.heap.size w w' := by
  have H := keepHid (As_e n w.heap.size (.int .i64 0) (w.alloc (.cells #[.int .i64 0] 40)) (hT.alloc _) (by simp) (by simp))
  go_enter Tryd.func8, Tryd.ntmps8
  go_wp2_with (go_at_call 20; fail)
  refine H.out.mono ?_
  rintro e w' ⟨rfl, h0, ho⟩
  have hb : Below w.heap.size w w' := ((Below.refl _ _).alloc (Nat.le_refl _) _).trans (ho.below (Nat.le_refl _) (by simp))
  go_wp2
  go_ret
  exact ⟨rfl, hb⟩
set_option maxHeartbeats 4000000 in
theorem place_e (n : Int) (w : World) (hT : ErrT w) : Calls Tryd.prog 17 #[.iface 40 (.int .i64 n)] w fun e w' => e = .returned (.int .i64 (-1)) ∧ Below w.heap.size w w' := by
  have H := keepHid (As_ep n w.heap.size (.int .i64 0) (w.alloc (.cells #[.int .i64 0, .int .i64 0] 87)) (hT.alloc _) (by simp))
  go_enter Tryd.func17, Tryd.ntmps17
  go_wp2_with (go_at_call 20; fail)
  refine H.out.mono ?_
  rintro e w' ⟨rfl, ho⟩
  have hb : Below w.heap.size w w' := ((Below.refl _ _).alloc (Nat.le_refl _) _).trans (ho.mono (by simp))
  go_wp2
  go_ret
  exact ⟨rfl, hb⟩
end Go.Proofs.YtgidoieppplhpaaDoor
