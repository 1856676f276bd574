/-
  api.Number, api.Place at a Fault, by their contracts.
-/
import Derived.Test.YtgokejoieafgiaaDoorErrAs
import Derived.Test.YtgokejoieafgiaaDoorErrWrap
import Derived.WalkKit
import Derived.Outline
namespace Go.Proofs.YtgokejoieafgiaaDoor
open Go.RowKit Go.Extern.Stop Go.Stop Go.Extern
set_option linter.unusedVariables false

set_option maxHeartbeats 4000000 in
theorem As_n (n p : Int) (g : Nat) (o1 : Value) (w : World) (hT : ErrT w) (ht0 : w.cell? ⟨g, 0, none⟩ = some o1) (hf0 : w.frozen? ⟨g, 0, none⟩ = false) :
    Calls Tryd.prog 21 #[.iface 53 (.agg #[.int .i64 n, .int .i64 p]), .iface 51 (.pointer (some ⟨g, 0, none⟩))] w fun e w' => e = .returned (.bool true) ∧
      w'.cell? ⟨g, 0, none⟩ = some (.int .i64 n) ∧ Only g w w' := by
  have h31 := @run_callFunc_extern Tryd.prog 30 _ (fun args => ReflectliteValue.unpack (args.getD 0 (.tuple #[]))) Tryd.func30 (by kernel_rfl) (by kernel_rfl) (by kernel_rfl) (by kernel_rfl)
  have h32 := @run_callFunc_extern Tryd.prog 31 _ (ReflectliteValue.methodAny (ReflectliteValue.valueError "reflectlite.Value.Type" 0) (fun t _ _ _ => ReflectliteType.toType t)) Tryd.func31 (by kernel_rfl) (by kernel_rfl) (by kernel_rfl) (by kernel_rfl)
  have h33 := @run_callFunc_extern Tryd.prog 32 _ (ReflectliteValue.method (ReflectliteValue.valueError "reflectlite.Value.IsNil" 0) ReflectliteValue.isNil) Tryd.func32 (by kernel_rfl) (by kernel_rfl) (by kernel_rfl) (by kernel_rfl)
  have h71 := @run_callFunc_extern Tryd.prog 96 _ (ReflectliteType.abiMethod fun t => do pure (.int .u8 (← Rtype.kind t))) Tryd.func96 (by kernel_rfl) (by kernel_rfl) (by kernel_rfl) (by kernel_rfl)
  have h84 := @run_callFunc_extern Tryd.prog 108 _ (ReflectliteType.method ReflectliteType.elem) Tryd.func108 (by kernel_rfl) (by kernel_rfl) (by kernel_rfl) (by kernel_rfl)
  have h85 := @run_callFunc_extern Tryd.prog 109 _ (ReflectliteType.relation "Implements" ReflectliteType.implements_) Tryd.func109 (by kernel_rfl) (by kernel_rfl) (by kernel_rfl) (by kernel_rfl)
  have f1 := valueOfN
  have f2 := typeN
  have f3 := methodKind
  have f4 := methodElem
  have f5 := methodImplements
  have f6 := kindPN
  have f7 := kindN
  have f8 := elemTN
  have f9 := implN
  have hgl : g < w.heap.size := World.block_lt_of_cell? _ _ ht0
  obtain ⟨w2, hw2⟩ : ∃ w2, (w.alloc (.cells #[.pointer (some ⟨g, 0, none⟩)] 51)).alloc (.cells #[hndl 51, .pointer (some ⟨w.heap.size, 0, none⟩), .int .u64 150] 64) = w2 := ⟨_, rfl⟩
  have ha2 : w2.cell? ⟨w.heap.size, 0, none⟩ = some (.pointer (some ⟨g, 0, none⟩)) := by rw [← hw2, World.cell?_alloc_lt _ _ _ (by simp)]; simp
  have hc0 : w2.cell? ⟨w.heap.size + 1, 0, none⟩ = some (hndl 51) := by rw [← hw2, World.cell?_alloc_at _ _ _ _ (by simp)]; rfl
  have hc1 : w2.cell? ⟨w.heap.size + 1, 1, none⟩ = some (.pointer (some ⟨w.heap.size, 0, none⟩)) := by rw [← hw2, World.cell?_alloc_at _ _ _ _ (by simp)]; rfl
  have hc2 : w2.cell? ⟨w.heap.size + 1, 2, none⟩ = some (.int .u64 150) := by rw [← hw2, World.cell?_alloc_at _ _ _ _ (by simp)]; rfl
  have hT2 : w2.cell? ⟨0, 0, none⟩ = some (rty 25) := by rw [← hw2]; exact (hT.alloc _).alloc _
  have n8 := isNilN ⟨w.heap.size, 0, none⟩ ⟨g, 0, none⟩ w2 ha2
  have q0 : w2.cell? ⟨g, 0, none⟩ = some o1 := by rw [← hw2, World.cell?_alloc_lt _ _ _ (by simp; omega), World.cell?_alloc_lt _ _ _ hgl]; exact ht0
  have r0 : w2.frozen? ⟨g, 0, none⟩ = false := by rw [← hw2, World.frozen?_alloc_old _ _ _ (by simp; omega), World.frozen?_alloc_old _ _ _ (Nat.ne_of_lt hgl)]; exact hf0
  skip
  have ho : Only g w w2 := by rw [← hw2]; exact ((Only.refl w g).alloc _).alloc _
  go_enter Tryd.func21, Tryd.ntmps21
  go_wp2_with (go_at_call 33; fail)
  refine (as_n n p _ _ g o1 w2 ha2 q0 r0).mono ?_
  rintro e w' ⟨rfl, h0, ho'⟩
  clear hw2
  go_wp2
  go_ret
  exact ⟨rfl, h0, ho.trans ho'⟩

set_option maxHeartbeats 4000000 in
theorem As_p (n p : Int) (g : Nat) (o1 o2 : Value) (w : World) (hT : ErrT w) (ht0 : w.cell? ⟨g, 0, none⟩ = some o1) (ht1 : w.cell? ⟨g, 1, none⟩ = some o2) (hf0 : w.frozen? ⟨g, 0, none⟩ = false) (hf1 : w.frozen? ⟨g, 1, none⟩ = false) :
    Calls Tryd.prog 21 #[.iface 53 (.agg #[.int .i64 n, .int .i64 p]), .iface 54 (.pointer (some ⟨g, 0, none⟩))] w fun e w' => e = .returned (.bool true) ∧
      w'.cell? ⟨g, 0, none⟩ = some (.int .i64 n) ∧ w'.cell? ⟨g, 1, none⟩ = some (.int .i64 p) ∧ Only g w w' := by
  have h31 := @run_callFunc_extern Tryd.prog 30 _ (fun args => ReflectliteValue.unpack (args.getD 0 (.tuple #[]))) Tryd.func30 (by kernel_rfl) (by kernel_rfl) (by kernel_rfl) (by kernel_rfl)
  have h32 := @run_callFunc_extern Tryd.prog 31 _ (ReflectliteValue.methodAny (ReflectliteValue.valueError "reflectlite.Value.Type" 0) (fun t _ _ _ => ReflectliteType.toType t)) Tryd.func31 (by kernel_rfl) (by kernel_rfl) (by kernel_rfl) (by kernel_rfl)
  have h33 := @run_callFunc_extern Tryd.prog 32 _ (ReflectliteValue.method (ReflectliteValue.valueError "reflectlite.Value.IsNil" 0) ReflectliteValue.isNil) Tryd.func32 (by kernel_rfl) (by kernel_rfl) (by kernel_rfl) (by kernel_rfl)
  have h71 := @run_callFunc_extern Tryd.prog 96 _ (ReflectliteType.abiMethod fun t => do pure (.int .u8 (← Rtype.kind t))) Tryd.func96 (by kernel_rfl) (by kernel_rfl) (by kernel_rfl) (by kernel_rfl)
  have h84 := @run_callFunc_extern Tryd.prog 108 _ (ReflectliteType.method ReflectliteType.elem) Tryd.func108 (by kernel_rfl) (by kernel_rfl) (by kernel_rfl) (by kernel_rfl)
  have h85 := @run_callFunc_extern Tryd.prog 109 _ (ReflectliteType.relation "Implements" ReflectliteType.implements_) Tryd.func109 (by kernel_rfl) (by kernel_rfl) (by kernel_rfl) (by kernel_rfl)
  have f1 := valueOfP
  have f2 := typeP
  have f3 := methodKind
  have f4 := methodElem
  have f5 := methodImplements
  have f6 := kindPP
  have f7 := kindP
  have f8 := elemTP
  have f9 := implP
  have hgl : g < w.heap.size := World.block_lt_of_cell? _ _ ht0
  obtain ⟨w2, hw2⟩ : ∃ w2, (w.alloc (.cells #[.pointer (some ⟨g, 0, none⟩)] 54)).alloc (.cells #[hndl 54, .pointer (some ⟨w.heap.size, 0, none⟩), .int .u64 150] 64) = w2 := ⟨_, rfl⟩
  have ha2 : w2.cell? ⟨w.heap.size, 0, none⟩ = some (.pointer (some ⟨g, 0, none⟩)) := by rw [← hw2, World.cell?_alloc_lt _ _ _ (by simp)]; simp
  have hc0 : w2.cell? ⟨w.heap.size + 1, 0, none⟩ = some (hndl 54) := by rw [← hw2, World.cell?_alloc_at _ _ _ _ (by simp)]; rfl
  have hc1 : w2.cell? ⟨w.heap.size + 1, 1, none⟩ = some (.pointer (some ⟨w.heap.size, 0, none⟩)) := by rw [← hw2, World.cell?_alloc_at _ _ _ _ (by simp)]; rfl
  have hc2 : w2.cell? ⟨w.heap.size + 1, 2, none⟩ = some (.int .u64 150) := by rw [← hw2, World.cell?_alloc_at _ _ _ _ (by simp)]; rfl
  have hT2 : w2.cell? ⟨0, 0, none⟩ = some (rty 25) := by rw [← hw2]; exact (hT.alloc _).alloc _
  have n8 := isNilP ⟨w.heap.size, 0, none⟩ ⟨g, 0, none⟩ w2 ha2
  have q0 : w2.cell? ⟨g, 0, none⟩ = some o1 := by rw [← hw2, World.cell?_alloc_lt _ _ _ (by simp; omega), World.cell?_alloc_lt _ _ _ hgl]; exact ht0
  have r0 : w2.frozen? ⟨g, 0, none⟩ = false := by rw [← hw2, World.frozen?_alloc_old _ _ _ (by simp; omega), World.frozen?_alloc_old _ _ _ (Nat.ne_of_lt hgl)]; exact hf0
  have q1 : w2.cell? ⟨g, 1, none⟩ = some o2 := by rw [← hw2, World.cell?_alloc_lt _ _ _ (by simp; omega), World.cell?_alloc_lt _ _ _ hgl]; exact ht1
  have r1 : w2.frozen? ⟨g, 1, none⟩ = false := by rw [← hw2, World.frozen?_alloc_old _ _ _ (by simp; omega), World.frozen?_alloc_old _ _ _ (Nat.ne_of_lt hgl)]; exact hf1
  have ho : Only g w w2 := by rw [← hw2]; exact ((Only.refl w g).alloc _).alloc _
  go_enter Tryd.func21, Tryd.ntmps21
  go_wp2_with (go_at_call 33; fail)
  refine (as_p n p _ _ g o1 o2 w2 ha2 q0 q1 r0 r1).mono ?_
  rintro e w' ⟨rfl, h0, h1, ho'⟩
  clear hw2
  go_wp2
  go_ret
  exact ⟨rfl, h0, h1, ho.trans ho'⟩

set_option maxHeartbeats 4000000 in
theorem number_any (n p : Int) (w : World) (hT : ErrT w) : Calls Tryd.prog 10 #[faultV n p] w fun e w' => e = .returned (.int .i64 n) ∧ Below w.heap.size w w' := by
  unfold faultV
  have H := keepHid (As_n n p w.heap.size (.int .i64 0) (w.alloc (.cells #[.int .i64 0] 28)) (hT.alloc _) (by simp) (by simp))
  go_enter Tryd.func10, Tryd.ntmps10
  go_wp2_with (go_at_call 21; fail)
  refine H.out.mono ?_
  rintro e w' ⟨rfl, h0, ho⟩
  have hb : Below w.heap.size w w' := ((Below.refl _ _).alloc (Nat.le_refl _) _).trans (ho.below (Nat.le_refl _) (by simp))
  go_wp2
  go_ret
  exact ⟨rfl, hb⟩
set_option maxHeartbeats 4000000 in
theorem place_any (n p : Int) (w : World) (hT : ErrT w) : Calls Tryd.prog 11 #[faultV n p] w fun e w' => e = .returned (.int .i64 p) ∧ Below w.heap.size w w' := by
  unfold faultV
  have H := keepHid (As_p n p w.heap.size (.int .i64 0) (.int .i64 0) (w.alloc (.cells #[.int .i64 0, .int .i64 0] 53)) (hT.alloc _) (by simp) (by simp) (by simp) (by simp))
  go_enter Tryd.func11, Tryd.ntmps11
  go_wp2_with (go_at_call 21; fail)
  refine H.out.mono ?_
  rintro e w' ⟨rfl, h0, h1, ho⟩
  have hb : Below w.heap.size w w' := ((Below.refl _ _).alloc (Nat.le_refl _) _).trans (ho.below (Nat.le_refl _) (by simp))
  go_wp2
  go_ret
  exact ⟨rfl, hb⟩

end Go.Proofs.YtgokejoieafgiaaDoor
