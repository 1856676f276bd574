/-
  errors.As at a Fault: closed facts on what reflectlite answers at this program's types. After the guide's worked example Toyas.
-/
import Derived.Test.YtgokejoieafgiaaDoorErrOne
namespace Go.Proofs.YtgokejoieafgiaaDoor
open Go.RowKit Go.Extern.Stop Go.Stop Go.Extern
set_option linter.unusedVariables false

theorem valueOfP (t : Addr) (w : World) : (ReflectliteValue.unpack (.iface 54 (.pointer (some t)))).run Tryd.prog w
    = .ok (rvl 54 ⟨w.heap.size, 0, none⟩ 150) (w.alloc (.cells #[.pointer (some t)] 54)) := by kernel_rfl
theorem typeP (a : Addr) (w : World) : (ReflectliteValue.methodAny (ReflectliteValue.valueError "reflectlite.Value.Type" 0) (fun t _ _ _ => ReflectliteType.toType t) #[rvl 54 a 150]).run Tryd.prog w = .ok (rty 54) w := by kernel_rfl
theorem methodUnwrap (v : Value) (w : World) : (Go.method 269 53 v "Unwrap").run Tryd.prog w = .ok (101, v) w := by kernel_rfl
theorem kindPP (w : World) : ((ReflectliteType.abiMethod fun t => (fun a : Nat => Value.int IntKind.u8 (a : Int)) <$> Rtype.kind t) #[hndl 54]).run Tryd.prog w = .ok (.int .u8 22) w := by kernel_rfl
theorem kindP (w : World) : ((ReflectliteType.abiMethod fun t => (fun a : Nat => Value.int IntKind.u8 (a : Int)) <$> Rtype.kind t) #[hndl 53]).run Tryd.prog w = .ok (.int .u8 25) w := by kernel_rfl
theorem partsPP (a : Addr) (w : World) : (ReflectliteValue.parts (rvl 54 a 150)).run Tryd.prog w = .ok (some (54, a, 150)) w := by kernel_rfl
theorem isNilP (a p : Addr) (W : World) (ha : W.cell? a = some (.pointer (some p))) :
    (ReflectliteValue.method (ReflectliteValue.valueError "reflectlite.Value.IsNil" 0) ReflectliteValue.isNil #[rvl 54 a 150]).run Tryd.prog W = .ok (.bool false) W := by
  rw [rlm]
  simp only [Sem.run_bind, partsPP, Result.andThen]
  simp [ReflectliteValue.isNil, loadVar, isAgg, underlying, Tryd.underlying54, ha, Result.andThen]
theorem elemTP (w : World) : (ReflectliteType.method ReflectliteType.elem #[.agg #[hndl 54]]).run Tryd.prog w = .ok (rty 53) w := by kernel_rfl
theorem implP (w : World) : (ReflectliteType.relation "Implements" ReflectliteType.implements_ #[.agg #[hndl 53], rty 25]).run Tryd.prog w = .ok (.bool true) w := by kernel_rfl
theorem typeOfP (v : Value) (w : World) : (ReflectliteType.typeOf #[.iface 53 v]).run Tryd.prog w = .ok (rty 53) w := by kernel_rfl
theorem assPN (w : World) : (ReflectliteType.relation "AssignableTo" ReflectliteType.assignableTo #[.agg #[hndl 53], rty 28]).run Tryd.prog w = .ok (.bool false) w := by kernel_rfl
theorem assPP (w : World) : (ReflectliteType.relation "AssignableTo" ReflectliteType.assignableTo #[.agg #[hndl 53], rty 53]).run Tryd.prog w = .ok (.bool true) w := by kernel_rfl
theorem valueOfEP (n p : Int) (w : World) : (ReflectliteValue.unpack (.iface 53 (.agg #[.int .i64 n, .int .i64 p]))).run Tryd.prog w
    = .ok (rvl 53 ⟨w.heap.size, 0, none⟩ 153) (w.alloc (.cells #[.int .i64 n, .int .i64 p] 53)) := by kernel_rfl
theorem elemOfP (w : World) : (Rtype.elem? 54).run Tryd.prog w = .ok (some 53) w := by kernel_rfl
theorem mkP (p : Addr) (w : World) : (ReflectliteValue.mk 53 p ReflectliteValue.flagAddr).run Tryd.prog w = .ok (rvl 53 p 409) w := by kernel_rfl
theorem elemVP (a p : Addr) (W : World) (ha : W.cell? a = some (.pointer (some p))) :
    (ReflectliteValue.method (ReflectliteValue.valueError "reflectlite.Value.Elem" 0) ReflectliteValue.elem #[rvl 54 a 150]).run Tryd.prog W = .ok (rvl 53 p 409) W := by
  rw [rlm]
  simp only [Sem.run_bind, partsPP, Result.andThen]
  simp [ReflectliteValue.elem, loadVar, isAgg, underlying, Tryd.underlying54, ha, Result.andThen, elemOfP, mkP]
theorem partsPa (a : Addr) (w : World) : (ReflectliteValue.parts (rvl 53 a 409)).run Tryd.prog w = .ok (some (53, a, 409)) w := by kernel_rfl
theorem partsP (a : Addr) (w : World) : (ReflectliteValue.parts (rvl 53 a 153)).run Tryd.prog w = .ok (some (53, a, 153)) w := by kernel_rfl
theorem directP (w : World) : (Rtype.directlyAssignable 53 53).run Tryd.prog w = .ok true w := by kernel_rfl
end Go.Proofs.YtgokejoieafgiaaDoor
