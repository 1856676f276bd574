/-
  errors.As at an Errno: closed facts on what reflectlite answers at this program's types, and api.Number at an Errno alone by its contract. After the guide's worked example Toyas.
-/
import Derived.Test.YtgndcgknedmalaaGreatDoorProg
import Derived.Test.YtgndcgknedmalaaGreatDoorMem
import Derived.Test.YtgndcgknedmalaaGreatDoorTurn
import Derived.WalkKit
import Derived.LaidEql
import Derived.Stop.Asserts
import Derived.RowKitTokens
import Derived.Outline
namespace Go.Proofs.YtgndcgknedmalaaGreatDoor
open Go.RowKit Go.Extern.Stop Go.Stop Go.Extern
set_option linter.unusedVariables false


abbrev hndl (t : Nat) : Value := .pointer (some ⟨9, t, none⟩)
abbrev rty (t : Nat) : Value := .iface 186 (.agg #[hndl t])
abbrev rvl (t : Nat) (a : Addr) (f : Int) : Value := .agg #[hndl t, .pointer (some a), .int .u64 f]

/-! the two pointers that are targets -/
theorem valueOfN (t : Addr) (w : World) : (ReflectliteValue.unpack (.iface 147 (.pointer (some t)))).run Tryz.prog w
    = .ok (rvl 147 ⟨w.heap.size, 0, none⟩ 150) (w.alloc (.cells #[.pointer (some t)] 147)) := by kernel_rfl
theorem typeN (a : Addr) (w : World) : (ReflectliteValue.methodAny (ReflectliteValue.valueError "reflectlite.Value.Type" 0) (fun t _ _ _ => ReflectliteType.toType t) #[rvl 147 a 150]).run Tryz.prog w = .ok (rty 147) w := by kernel_rfl
theorem methodKind (h : Value) (w : World) : (Go.method 383 186 (.agg #[h]) "Kind").run Tryz.prog w = .ok (166, h) w := by kernel_rfl
theorem methodElem (h : Value) (w : World) : (Go.method 383 186 (.agg #[h]) "Elem").run Tryz.prog w = .ok (179, .agg #[h]) w := by kernel_rfl
theorem methodImplements (h : Value) (w : World) : (Go.method 383 186 (.agg #[h]) "Implements").run Tryz.prog w = .ok (180, .agg #[h]) w := by kernel_rfl
theorem methodAssignable (h : Value) (w : World) : (Go.method 383 186 (.agg #[h]) "AssignableTo").run Tryz.prog w = .ok (177, .agg #[h]) w := by kernel_rfl
theorem kindPN (w : World) : ((ReflectliteType.abiMethod fun t => (fun a : Nat => Value.int IntKind.u8 (a : Int)) <$> Rtype.kind t) #[hndl 147]).run Tryz.prog w = .ok (.int .u8 22) w := by kernel_rfl
theorem kindN (w : World) : ((ReflectliteType.abiMethod fun t => (fun a : Nat => Value.int IntKind.u8 (a : Int)) <$> Rtype.kind t) #[hndl 89]).run Tryz.prog w = .ok (.int .u8 2) w := by kernel_rfl
theorem rlm (z : Sem Value) (f : TypeId → Addr → Nat → Nat → Sem Value) (v : Value) :
    ReflectliteValue.method z f #[v] = (do match ← ReflectliteValue.parts v with | none => z | some (t, a, fl) => f t a fl (fl % 32)) := rfl
theorem partsPN (a : Addr) (w : World) : (ReflectliteValue.parts (rvl 147 a 150)).run Tryz.prog w = .ok (some (147, a, 150)) w := by kernel_rfl
theorem isNilN (a p : Addr) (W : World) (ha : W.cell? a = some (.pointer (some p))) :
    (ReflectliteValue.method (ReflectliteValue.valueError "reflectlite.Value.IsNil" 0) ReflectliteValue.isNil #[rvl 147 a 150]).run Tryz.prog W = .ok (.bool false) W := by
  rw [rlm]
  simp only [Sem.run_bind, partsPN, Result.andThen]
  simp [ReflectliteValue.isNil, loadVar, isAgg, underlying, Tryz.underlying147, ha, Result.andThen]
theorem elemTN (w : World) : (ReflectliteType.method ReflectliteType.elem #[.agg #[hndl 147]]).run Tryz.prog w = .ok (rty 89) w := by kernel_rfl
theorem implN (w : World) : (ReflectliteType.relation "Implements" ReflectliteType.implements_ #[.agg #[hndl 89], rty 49]).run Tryz.prog w = .ok (.bool true) w := by kernel_rfl
theorem typeOfN (v : Value) (w : World) : (ReflectliteType.typeOf #[.iface 89 v]).run Tryz.prog w = .ok (rty 89) w := by kernel_rfl
theorem assNN (w : World) : (ReflectliteType.relation "AssignableTo" ReflectliteType.assignableTo #[.agg #[hndl 89], rty 89]).run Tryz.prog w = .ok (.bool true) w := by kernel_rfl
theorem valueOfEN (n : Int) (w : World) : (ReflectliteValue.unpack (.iface 89 (.int .i64 n))).run Tryz.prog w
    = .ok (rvl 89 ⟨w.heap.size, 0, none⟩ 130) (w.alloc (.cells #[.int .i64 n] 89)) := by kernel_rfl
theorem elemOfN (w : World) : (Rtype.elem? 147).run Tryz.prog w = .ok (some 89) w := by kernel_rfl
theorem mkN (p : Addr) (w : World) : (ReflectliteValue.mk 89 p ReflectliteValue.flagAddr).run Tryz.prog w = .ok (rvl 89 p 386) w := by kernel_rfl
theorem elemVN (a p : Addr) (W : World) (ha : W.cell? a = some (.pointer (some p))) :
    (ReflectliteValue.method (ReflectliteValue.valueError "reflectlite.Value.Elem" 0) ReflectliteValue.elem #[rvl 147 a 150]).run Tryz.prog W = .ok (rvl 89 p 386) W := by
  rw [rlm]
  simp only [Sem.run_bind, partsPN, Result.andThen]
  simp [ReflectliteValue.elem, loadVar, isAgg, underlying, Tryz.underlying147, ha, Result.andThen, elemOfN, mkN]
theorem rls (v x : Value) : ReflectliteValue.set #[v, x] = (do
    let (some (dst, a, fl), some (src, b, _)) := (← ReflectliteValue.parts v, ← ReflectliteValue.parts x)
      | unsupported (.noEntry "extern/(internal/reflectlite.Value).Set.zeroValue")
    if fl / ReflectliteValue.flagAddr % 2 == 0 then unsupported (.noEntry "extern/(internal/reflectlite.Value).Set.unaddressable")
    let val ← loadVar src b
    if ← Rtype.directlyAssignable dst src then storeVar dst a val
    else if ← Rtype.implements dst src then
      if (← Rtype.kind src) == 20 then
        match val with
        | .nilIface => unsupported (.noEntry "extern/reflectlite: a nil value of one interface type handed on as a value of another")
        | _ => storeVar dst a val
      else storeVar dst a (.iface src val)
    else panicString ("reflectlite.Set: value of type " ++ (← Rtype.spelt src) ++ " is not assignable to type " ++ (← Rtype.spelt dst))
    pure (.tuple #[])) := rfl
theorem partsNa (a : Addr) (w : World) : (ReflectliteValue.parts (rvl 89 a 386)).run Tryz.prog w = .ok (some (89, a, 386)) w := by kernel_rfl
theorem partsN (a : Addr) (w : World) : (ReflectliteValue.parts (rvl 89 a 130)).run Tryz.prog w = .ok (some (89, a, 130)) w := by kernel_rfl
theorem directN (w : World) : (Rtype.directlyAssignable 89 89).run Tryz.prog w = .ok true w := by kernel_rfl
theorem setN (ta b : Addr) (n : Int) (old : Value) (W : World) (hb : W.cell? b = some (.int .i64 n)) (ht : W.cell? ta = some old) (hf : W.frozen? ta = false) :
    (ReflectliteValue.set #[rvl 89 ta 386, rvl 89 b 130]).run Tryz.prog W = .ok (.tuple #[]) (W.setCell ta (.int .i64 n)) := by
  rw [rls]
  simp only [Sem.run_bind, partsNa, partsN, Result.andThen]
  simp [ReflectliteValue.flagAddr, loadVar, isAgg, underlying, Tryz.underlying89, hb, Result.andThen, directN, storeVar, Value.cells, storeCells, Addr.add]
  rw [run_store Tryz.prog W ta _ _ (by rfl)]
  simp [ht, hf]


/-- What lies in errors.errorType. -/
def ErrT (w : World) : Prop := w.cell? ⟨0, 0, none⟩ = some (rty 49)
theorem ErrT.pos {w : World} (h : ErrT w) : 0 < w.heap.size := World.block_lt_of_cell? _ _ h
theorem ErrT.below {B : Nat} {w w' : World} (h : ErrT w) (hb : Below B w w') (hB : 0 < B) : ErrT w' := (hb.cell hB).trans h
theorem ErrT.alloc {w : World} (h : ErrT w) (o : Obj) : ErrT (w.alloc o) := (World.cell?_alloc_lt _ _ _ h.pos).trans h

set_option maxRecDepth 100000 in
set_option maxHeartbeats 4000000 in
theorem as_e (n : Int) (tgt : Value) (a : Addr) (g : Nat) (o1 : Value) (w : World) (ha : w.cell? a = some (.pointer (some ⟨g, 0, none⟩))) (ht0 : w.cell? ⟨g, 0, none⟩ = some o1) (hf0 : w.frozen? ⟨g, 0, none⟩ = false) :
    Calls Tryz.prog 81 #[.iface 89 (.int .i64 n), tgt, rvl 147 a 150, rty 89] w fun e w' => e = .returned (.bool true) ∧
      w'.cell? ⟨g, 0, none⟩ = some (.int .i64 n) ∧ Only g w w' := by
  have h31 := @run_callFunc_extern Tryz.prog 78 _ (fun args => ReflectliteValue.unpack (args.getD 0 (.tuple #[]))) Tryz.func78 (by kernel_rfl) (by kernel_rfl) (by kernel_rfl) (by kernel_rfl)
  have h40 := @run_callFunc_extern Tryz.prog 93 _ ReflectliteType.typeOf Tryz.func93 (by kernel_rfl) (by kernel_rfl) (by kernel_rfl) (by kernel_rfl)
  have h82 := @run_callFunc_extern Tryz.prog 177 _ (ReflectliteType.relation "AssignableTo" ReflectliteType.assignableTo) Tryz.func177 (by kernel_rfl) (by kernel_rfl) (by kernel_rfl) (by kernel_rfl)
  have h41 := @run_callFunc_extern Tryz.prog 94 _ (ReflectliteValue.method (ReflectliteValue.valueError "reflectlite.Value.Elem" 0) ReflectliteValue.elem) Tryz.func94 (by kernel_rfl) (by kernel_rfl) (by kernel_rfl) (by kernel_rfl)
  have h42 := @run_callFunc_extern Tryz.prog 95 _ ReflectliteValue.set Tryz.func95 (by kernel_rfl) (by kernel_rfl) (by kernel_rfl) (by kernel_rfl)
  have f1 := typeOfN
  have f2 := methodAssignable
  have f3 := assNN
  have f4 := valueOfEN
  have hal : a.block < w.heap.size := World.block_lt_of_cell? _ _ ha
  have hgl : g < w.heap.size := World.block_lt_of_cell? _ _ ht0
  obtain ⟨w2, hw2⟩ : ∃ w2, w.alloc (.cells #[hndl 147, .pointer (some a), .int .u64 150] 161) = w2 := ⟨_, rfl⟩
  have hc0 : w2.cell? ⟨w.heap.size, 0, none⟩ = some (hndl 147) := by rw [← hw2]; simp
  have hc1 : w2.cell? ⟨w.heap.size, 1, none⟩ = some (.pointer (some a)) := by rw [← hw2]; simp
  have hc2 : w2.cell? ⟨w.heap.size, 2, none⟩ = some (.int .u64 150) := by rw [← hw2]; simp
  have f5 := elemVN a ⟨g, 0, none⟩ w2 (by rw [← hw2, World.cell?_alloc_lt _ _ _ hal]; exact ha)
  have hg2 : w2.cell? ⟨g, 0, none⟩ = some o1 := by rw [← hw2, World.cell?_alloc_lt _ _ _ hgl]; exact ht0
  have hgf : w2.frozen? ⟨g, 0, none⟩ = false := by rw [← hw2, World.frozen?_alloc_old _ _ _ (Nat.ne_of_lt hgl)]; exact hf0
  have hgl2 : g < w2.heap.size := World.block_lt_of_cell? _ _ hg2
  have f6 := setN ⟨g, 0, none⟩ ⟨w2.heap.size, 0, none⟩ n o1 (w2.alloc (.cells #[.int .i64 n] 89)) (by simp) (by rw [World.cell?_alloc_lt _ _ _ hgl2]; exact hg2) (by rw [World.frozen?_alloc_old _ _ _ (Nat.ne_of_lt hgl2)]; exact hgf)
  have ho : Only g w w2 := by rw [← hw2]; exact (Only.refl w g).alloc _
  go_enter Tryz.func81, Tryz.ntmps81
  go_wp2
  refine wp_loop_rounds 1 ?_
  rw [rounds_succ]
  clear hw2
  go_wp2
  go_ret
  refine ⟨rfl, ?_, ?_⟩
  · first | exact World.cell?_setCell_same _ _ _ (u := o1) (by rw [World.cell?_alloc_lt _ _ _ hgl2]; exact hg2) | (rw [World.cell?_alloc_lt _ _ _ (by simp; omega)]; exact World.cell?_setCell_same _ _ _ hg2)
  · first | exact (ho.alloc _).setCell (.inl rfl) _ | exact (ho.setCell (.inl rfl) _).alloc _
set_option maxHeartbeats 4000000 in
theorem As_e (n : Int) (g : Nat) (o1 : Value) (w : World) (hT : ErrT w) (ht0 : w.cell? ⟨g, 0, none⟩ = some o1) (hf0 : w.frozen? ⟨g, 0, none⟩ = false) :
    Calls Tryz.prog 68 #[.iface 89 (.int .i64 n), .iface 147 (.pointer (some ⟨g, 0, none⟩))] w fun e w' => e = .returned (.bool true) ∧
      w'.cell? ⟨g, 0, none⟩ = some (.int .i64 n) ∧ Only g w w' := by
  have h31 := @run_callFunc_extern Tryz.prog 78 _ (fun args => ReflectliteValue.unpack (args.getD 0 (.tuple #[]))) Tryz.func78 (by kernel_rfl) (by kernel_rfl) (by kernel_rfl) (by kernel_rfl)
  have h32 := @run_callFunc_extern Tryz.prog 79 _ (ReflectliteValue.methodAny (ReflectliteValue.valueError "reflectlite.Value.Type" 0) (fun t _ _ _ => ReflectliteType.toType t)) Tryz.func79 (by kernel_rfl) (by kernel_rfl) (by kernel_rfl) (by kernel_rfl)
  have h33 := @run_callFunc_extern Tryz.prog 80 _ (ReflectliteValue.method (ReflectliteValue.valueError "reflectlite.Value.IsNil" 0) ReflectliteValue.isNil) Tryz.func80 (by kernel_rfl) (by kernel_rfl) (by kernel_rfl) (by kernel_rfl)
  have h71 := @run_callFunc_extern Tryz.prog 166 _ (ReflectliteType.abiMethod fun t => do pure (.int .u8 (← Rtype.kind t))) Tryz.func166 (by kernel_rfl) (by kernel_rfl) (by kernel_rfl) (by kernel_rfl)
  have h84 := @run_callFunc_extern Tryz.prog 179 _ (ReflectliteType.method ReflectliteType.elem) Tryz.func179 (by kernel_rfl) (by kernel_rfl) (by kernel_rfl) (by kernel_rfl)
  have h85 := @run_callFunc_extern Tryz.prog 180 _ (ReflectliteType.relation "Implements" ReflectliteType.implements_) Tryz.func180 (by kernel_rfl) (by kernel_rfl) (by kernel_rfl) (by kernel_rfl)
  have f1 := valueOfN
  have f2 := typeN
  have f3 := methodKind
  have f4 := methodElem
  have f5 := methodImplements
  have f6 := kindPN
  have f7 := kindN
  have f8 := elemTN
  have f9 := implN
  have hgl : g < w.heap.size := World.block_lt_of_cell? _ _ ht0
  obtain ⟨w2, hw2⟩ : ∃ w2, (w.alloc (.cells #[.pointer (some ⟨g, 0, none⟩)] 147)).alloc (.cells #[hndl 147, .pointer (some ⟨w.heap.size, 0, none⟩), .int .u64 150] 161) = w2 := ⟨_, rfl⟩
  have ha2 : w2.cell? ⟨w.heap.size, 0, none⟩ = some (.pointer (some ⟨g, 0, none⟩)) := by rw [← hw2, World.cell?_alloc_lt _ _ _ (by simp)]; simp
  have hc0 : w2.cell? ⟨w.heap.size + 1, 0, none⟩ = some (hndl 147) := by rw [← hw2, World.cell?_alloc_at _ _ _ _ (by simp)]; rfl
  have hc1 : w2.cell? ⟨w.heap.size + 1, 1, none⟩ = some (.pointer (some ⟨w.heap.size, 0, none⟩)) := by rw [← hw2, World.cell?_alloc_at _ _ _ _ (by simp)]; rfl
  have hc2 : w2.cell? ⟨w.heap.size + 1, 2, none⟩ = some (.int .u64 150) := by rw [← hw2, World.cell?_alloc_at _ _ _ _ (by simp)]; rfl
  have hT2 : w2.cell? ⟨0, 0, none⟩ = some (rty 49) := by rw [← hw2]; exact (hT.alloc _).alloc _
  have n8 := isNilN ⟨w.heap.size, 0, none⟩ ⟨g, 0, none⟩ w2 ha2
  have q0 : w2.cell? ⟨g, 0, none⟩ = some o1 := by rw [← hw2, World.cell?_alloc_lt _ _ _ (by simp; omega), World.cell?_alloc_lt _ _ _ hgl]; exact ht0
  have r0 : w2.frozen? ⟨g, 0, none⟩ = false := by rw [← hw2, World.frozen?_alloc_old _ _ _ (by simp; omega), World.frozen?_alloc_old _ _ _ (Nat.ne_of_lt hgl)]; exact hf0
  skip
  have ho : Only g w w2 := by rw [← hw2]; exact ((Only.refl w g).alloc _).alloc _
  go_enter Tryz.func68, Tryz.ntmps68
  go_wp2_with (go_at_call 81; fail)
  refine (as_e n _ _ g o1 w2 ha2 q0 r0).mono ?_
  rintro e w' ⟨rfl, h0, ho'⟩
  clear hw2
  go_wp2
  go_ret
  exact ⟨rfl, h0, ho.trans ho'⟩

set_option maxHeartbeats 4000000 in
theorem number_e (n : Int) (w : World) (hT : ErrT w) : Calls Tryz.prog 48 #[.iface 89 (.int .i64 n)] w fun e w' => e = .returned (.int .i64 n) ∧ Below w.heap.size w w' := by
  have H := keepHid (As_e n w.heap.size (.int .i64 0) (w.alloc (.cells #[.int .i64 0] 89)) (hT.alloc _) (by simp) (by simp))
  go_enter Tryz.func48, Tryz.ntmps48
  go_wp2_with (go_at_call 68; fail)
  refine H.out.mono ?_
  rintro e w' ⟨rfl, h0, ho⟩
  have hb : Below w.heap.size w w' := ((Below.refl _ _).alloc (Nat.le_refl _) _).trans (ho.below (Nat.le_refl _) (by simp))
  go_wp2
  go_ret
  exact ⟨rfl, hb⟩
end Go.Proofs.YtgndcgknedmalaaGreatDoor
