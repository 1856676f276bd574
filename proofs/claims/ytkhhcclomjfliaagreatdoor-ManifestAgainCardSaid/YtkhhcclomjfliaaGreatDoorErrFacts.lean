/-
  errors.As at a Fault: closed facts on what reflectlite answers at this program's types. After the guide's worked example Toyas.
-/
import Derived.Test.YtkhhcclomjfliaaGreatDoorErrOne
namespace Go.Proofs.YtkhhcclomjfliaaGreatDoor
open Go.RowKit Go.Extern.Stop Go.Stop Go.Extern
set_option linter.unusedVariables false

theorem valueOfP (t : Addr) (w : World) : (ReflectliteValue.unpack (.iface 60 (.pointer (some t)))).run Tryz.prog w
    = .ok (rvl 60 ⟨w.heap.size, 0, none⟩ 150) (w.alloc (.cells #[.pointer (some t)] 60)) := by kernel_rfl
theorem typeP (a : Addr) (w : World) : (ReflectliteValue.methodAny (ReflectliteValue.valueError "reflectlite.Value.Type" 0) (fun t _ _ _ => ReflectliteType.toType t) #[rvl 60 a 150]).run Tryz.prog w = .ok (rty 60) w := by kernel_rfl
theorem methodUnwrap (v : Value) (w : World) : (Go.method 302 59 v "Unwrap").run Tryz.prog w = .ok (123, v) w := by kernel_rfl
theorem kindPP (w : World) : ((ReflectliteType.abiMethod fun t => (fun a : Nat => Value.int IntKind.u8 (a : Int)) <$> Rtype.kind t) #[hndl 60]).run Tryz.prog w = .ok (.int .u8 22) w := by kernel_rfl
theorem kindP (w : World) : ((ReflectliteType.abiMethod fun t => (fun a : Nat => Value.int IntKind.u8 (a : Int)) <$> Rtype.kind t) #[hndl 59]).run Tryz.prog w = .ok (.int .u8 25) w := by kernel_rfl
theorem partsPP (a : Addr) (w : World) : (ReflectliteValue.parts (rvl 60 a 150)).run Tryz.prog w = .ok (some (60, a, 150)) w := by kernel_rfl
theorem isNilP (a p : Addr) (W : World) (ha : W.cell? a = some (.pointer (some p))) :
    (ReflectliteValue.method (ReflectliteValue.valueError "reflectlite.Value.IsNil" 0) ReflectliteValue.isNil #[rvl 60 a 150]).run Tryz.prog W = .ok (.bool false) W := by
  rw [rlm]
  simp only [Sem.run_bind, partsPP, Result.andThen]
  simp [ReflectliteValue.isNil, loadVar, isAgg, underlying, Tryz.underlying60, ha, Result.andThen]
theorem elemTP (w : World) : (ReflectliteType.method ReflectliteType.elem #[.agg #[hndl 60]]).run Tryz.prog w = .ok (rty 59) w := by kernel_rfl
theorem implP (w : World) : (ReflectliteType.relation "Implements" ReflectliteType.implements_ #[.agg #[hndl 59], rty 25]).run Tryz.prog w = .ok (.bool true) w := by kernel_rfl
theorem typeOfP (v : Value) (w : World) : (ReflectliteType.typeOf #[.iface 59 v]).run Tryz.prog w = .ok (rty 59) w := by kernel_rfl
theorem assPN (w : World) : (ReflectliteType.relation "AssignableTo" ReflectliteType.assignableTo #[.agg #[hndl 59], rty 28]).run Tryz.prog w = .ok (.bool false) w := by kernel_rfl
theorem assPP (w : World) : (ReflectliteType.relation "AssignableTo" ReflectliteType.assignableTo #[.agg #[hndl 59], rty 59]).run Tryz.prog w = .ok (.bool true) w := by kernel_rfl
theorem valueOfEP (n p : Int) (w : World) : (ReflectliteValue.unpack (.iface 59 (.agg #[.int .i64 n, .int .i64 p]))).run Tryz.prog w
    = .ok (rvl 59 ⟨w.heap.size, 0, none⟩ 153) (w.alloc (.cells #[.int .i64 n, .int .i64 p] 59)) := by kernel_rfl
theorem elemOfP (w : World) : (Rtype.elem? 60).run Tryz.prog w = .ok (some 59) w := by kernel_rfl
theorem mkP (p : Addr) (w : World) : (ReflectliteValue.mk 59 p ReflectliteValue.flagAddr).run Tryz.prog w = .ok (rvl 59 p 409) w := by kernel_rfl
theorem elemVP (a p : Addr) (W : World) (ha : W.cell? a = some (.pointer (some p))) :
    (ReflectliteValue.method (ReflectliteValue.valueError "reflectlite.Value.Elem" 0) ReflectliteValue.elem #[rvl 60 a 150]).run Tryz.prog W = .ok (rvl 59 p 409) W := by
  rw [rlm]
  simp only [Sem.run_bind, partsPP, Result.andThen]
  simp [ReflectliteValue.elem, loadVar, isAgg, underlying, Tryz.underlying60, ha, Result.andThen, elemOfP, mkP]
theorem partsPa (a : Addr) (w : World) : (ReflectliteValue.parts (rvl 59 a 409)).run Tryz.prog w = .ok (some (59, a, 409)) w := by kernel_rfl
theorem partsP (a : Addr) (w : World) : (ReflectliteValue.parts (rvl 59 a 153)).run Tryz.prog w = .ok (some (59, a, 153)) w := by kernel_rfl
theorem directP (w : World) : (Rtype.directlyAssignable 59 59).run Tryz.prog w = .ok true w := by kernel_rfl
end Go.Proofs.YtkhhcclomjfliaaGreatDoor
