/-
  api.Number, api.Place at a Fault, by their contracts.
-/
import Derived.Test.YtkhhcclomjfliaaGreatDoorErrAs
import Derived.Test.YtkhhcclomjfliaaGreatDoorErrWrap
import Derived.WalkKit
import Derived.Outline
namespace Go.Proofs.YtkhhcclomjfliaaGreatDoor
open Go.RowKit Go.Extern.Stop Go.Stop Go.Extern
set_option linter.unusedVariables false

set_option maxHeartbeats 4000000 in
theorem As_n (n p : Int) (g : Nat) (o1 : Value) (w : World) (hT : ErrT w) (ht0 : w.cell? ⟨g, 0, none⟩ = some o1) (hf0 : w.frozen? ⟨g, 0, none⟩ = false) :
    Calls Tryz.prog 18 #[.iface 59 (.agg #[.int .i64 n, .int .i64 p]), .iface 57 (.pointer (some ⟨g, 0, none⟩))] w fun e w' => e = .returned (.bool true) ∧
      w'.cell? ⟨g, 0, none⟩ = some (.int .i64 n) ∧ Only g w w' := by
  have h31 := @run_callFunc_extern Tryz.prog 31 _ (fun args => ReflectliteValue.unpack (args.getD 0 (.tuple #[]))) Tryz.func31 (by kernel_rfl) (by kernel_rfl) (by kernel_rfl) (by kernel_rfl)
  have h32 := @run_callFunc_extern Tryz.prog 32 _ (ReflectliteValue.methodAny (ReflectliteValue.valueError "reflectlite.Value.Type" 0) (fun t _ _ _ => ReflectliteType.toType t)) Tryz.func32 (by kernel_rfl) (by kernel_rfl) (by kernel_rfl) (by kernel_rfl)
  have h33 := @run_callFunc_extern Tryz.prog 33 _ (ReflectliteValue.method (ReflectliteValue.valueError "reflectlite.Value.IsNil" 0) ReflectliteValue.isNil) Tryz.func33 (by kernel_rfl) (by kernel_rfl) (by kernel_rfl) (by kernel_rfl)
  have h71 := @run_callFunc_extern Tryz.prog 118 _ (ReflectliteType.abiMethod fun t => do pure (.int .u8 (← Rtype.kind t))) Tryz.func118 (by kernel_rfl) (by kernel_rfl) (by kernel_rfl) (by kernel_rfl)
  have h84 := @run_callFunc_extern Tryz.prog 131 _ (ReflectliteType.method ReflectliteType.elem) Tryz.func131 (by kernel_rfl) (by kernel_rfl) (by kernel_rfl) (by kernel_rfl)
  have h85 := @run_callFunc_extern Tryz.prog 132 _ (ReflectliteType.relation "Implements" ReflectliteType.implements_) Tryz.func132 (by kernel_rfl) (by kernel_rfl) (by kernel_rfl) (by kernel_rfl)
  have f1 := valueOfN
  have f2 := typeN
  have f3 := methodKind
  have f4 := methodElem
  have f5 := methodImplements
  have f6 := kindPN
  have f7 := kindN
  have f8 := elemTN
  have f9 := implN
  have hgl : g < w.heap.size := World.block_lt_of_cell? _ _ ht0
  obtain ⟨w2, hw2⟩ : ∃ w2, (w.alloc (.cells #[.pointer (some ⟨g, 0, none⟩)] 57)).alloc (.cells #[hndl 57, .pointer (some ⟨w.heap.size, 0, none⟩), .int .u64 150] 84) = w2 := ⟨_, rfl⟩
  have ha2 : w2.cell? ⟨w.heap.size, 0, none⟩ = some (.pointer (some ⟨g, 0, none⟩)) := by rw [← hw2, World.cell?_alloc_lt _ _ _ (by simp)]; simp
  have hc0 : w2.cell? ⟨w.heap.size + 1, 0, none⟩ = some (hndl 57) := by rw [← hw2, World.cell?_alloc_at _ _ _ _ (by simp)]; rfl
  have hc1 : w2.cell? ⟨w.heap.size + 1, 1, none⟩ = some (.pointer (some ⟨w.heap.size, 0, none⟩)) := by rw [← hw2, World.cell?_alloc_at _ _ _ _ (by simp)]; rfl
  have hc2 : w2.cell? ⟨w.heap.size + 1, 2, none⟩ = some (.int .u64 150) := by rw [← hw2, World.cell?_alloc_at _ _ _ _ (by simp)]; rfl
  have hT2 : w2.cell? ⟨0, 0, none⟩ = some (rty 25) := by rw [← hw2]; exact (hT.alloc _).alloc _
  have n8 := isNilN ⟨w.heap.size, 0, none⟩ ⟨g, 0, none⟩ w2 ha2
  have q0 : w2.cell? ⟨g, 0, none⟩ = some o1 := by rw [← hw2, World.cell?_alloc_lt _ _ _ (by simp; omega), World.cell?_alloc_lt _ _ _ hgl]; exact ht0
  have r0 : w2.frozen? ⟨g, 0, none⟩ = false := by rw [← hw2, World.frozen?_alloc_old _ _ _ (by simp; omega), World.frozen?_alloc_old _ _ _ (Nat.ne_of_lt hgl)]; exact hf0
  skip
  have ho : Only g w w2 := by rw [← hw2]; exact ((Only.refl w g).alloc _).alloc _
  go_enter Tryz.func18, Tryz.ntmps18
  go_wp2_with (go_at_call 34; fail)
  refine (as_n n p _ _ g o1 w2 ha2 q0 r0).mono ?_
  rintro e w' ⟨rfl, h0, ho'⟩
  clear hw2
  go_wp2
  go_ret
  exact ⟨rfl, h0, ho.trans ho'⟩

set_option maxHeartbeats 4000000 in
theorem As_p (n p : Int) (g : Nat) (o1 o2 : Value) (w : World) (hT : ErrT w) (ht0 : w.cell? ⟨g, 0, none⟩ = some o1) (ht1 : w.cell? ⟨g, 1, none⟩ = some o2) (hf0 : w.frozen? ⟨g, 0, none⟩ = false) (hf1 : w.frozen? ⟨g, 1, none⟩ = false) :
    Calls Tryz.prog 18 #[.iface 59 (.agg #[.int .i64 n, .int .i64 p]), .iface 60 (.pointer (some ⟨g, 0, none⟩))] w fun e w' => e = .returned (.bool true) ∧
      w'.cell? ⟨g, 0, none⟩ = some (.int .i64 n) ∧ w'.cell? ⟨g, 1, none⟩ = some (.int .i64 p) ∧ Only g w w' := by
  have h31 := @run_callFunc_extern Tryz.prog 31 _ (fun args => ReflectliteValue.unpack (args.getD 0 (.tuple #[]))) Tryz.func31 (by kernel_rfl) (by kernel_rfl) (by kernel_rfl) (by kernel_rfl)
  have h32 := @run_callFunc_extern Tryz.prog 32 _ (ReflectliteValue.methodAny (ReflectliteValue.valueError "reflectlite.Value.Type" 0) (fun t _ _ _ => ReflectliteType.toType t)) Tryz.func32 (by kernel_rfl) (by kernel_rfl) (by kernel_rfl) (by kernel_rfl)
  have h33 := @run_callFunc_extern Tryz.prog 33 _ (ReflectliteValue.method (ReflectliteValue.valueError "reflectlite.Value.IsNil" 0) ReflectliteValue.isNil) Tryz.func33 (by kernel_rfl) (by kernel_rfl) (by kernel_rfl) (by kernel_rfl)
  have h71 := @run_callFunc_extern Tryz.prog 118 _ (ReflectliteType.abiMethod fun t => do pure (.int .u8 (← Rtype.kind t))) Tryz.func118 (by kernel_rfl) (by kernel_rfl) (by kernel_rfl) (by kernel_rfl)
  have h84 := @run_callFunc_extern Tryz.prog 131 _ (ReflectliteType.method ReflectliteType.elem) Tryz.func131 (by kernel_rfl) (by kernel_rfl) (by kernel_rfl) (by kernel_rfl)
  have h85 := @run_callFunc_extern Tryz.prog 132 _ (ReflectliteType.relation "Implements" ReflectliteType.implements_) Tryz.func132 (by kernel_rfl) (by kernel_rfl) (by kernel_rfl) (by kernel_rfl)
  have f1 := valueOfP
  have f2 := typeP
  have f3 := methodKind
  have f4 := methodElem
  have f5 := methodImplements
  have f6 := kindPP
  have f7 := kindP
  have f8 := elemTP
  have f9 := implP
  have hgl : g < w.heap.size := World.block_lt_of_cell? _ _ ht0
  obtain ⟨w2, hw2⟩ : ∃ w2, (w.alloc (.cells #[.pointer (some ⟨g, 0, none⟩)] 60)).alloc (.cells #[hndl 60, .pointer (some ⟨w.heap.size, 0, none⟩), .int .u64 150] 84) = w2 := ⟨_, rfl⟩
  have ha2 : w2.cell? ⟨w.heap.size, 0, none⟩ = some (.pointer (some ⟨g, 0, none⟩)) := by rw [← hw2, World.cell?_alloc_lt _ _ _ (by simp)]; simp
  have hc0 : w2.cell? ⟨w.heap.size + 1, 0, none⟩ = some (hndl 60) := by rw [← hw2, World.cell?_alloc_at _ _ _ _ (by simp)]; rfl
  have hc1 : w2.cell? ⟨w.heap.size + 1, 1, none⟩ = some (.pointer (some ⟨w.heap.size, 0, none⟩)) := by rw [← hw2, World.cell?_alloc_at _ _ _ _ (by simp)]; rfl
  have hc2 : w2.cell? ⟨w.heap.size + 1, 2, none⟩ = some (.int .u64 150) := by rw [← hw2, World.cell?_alloc_at _ _ _ _ (by simp)]; rfl
  have hT2 : w2.cell? ⟨0, 0, none⟩ = some (rty 25) := by rw [← hw2]; exact (hT.alloc _).alloc _
  have n8 := isNilP ⟨w.heap.size, 0, none⟩ ⟨g, 0, none⟩ w2 ha2
  have q0 : w2.cell? ⟨g, 0, none⟩ = some o1 := by rw [← hw2, World.cell?_alloc_lt _ _ _ (by simp; omega), World.cell?_alloc_lt _ _ _ hgl]; exact ht0
  have r0 : w2.frozen? ⟨g, 0, none⟩ = false := by rw [← hw2, World.frozen?_alloc_old _ _ _ (by simp; omega), World.frozen?_alloc_old _ _ _ (Nat.ne_of_lt hgl)]; exact hf0
  have q1 : w2.cell? ⟨g, 1, none⟩ = some o2 := by rw [← hw2, World.cell?_alloc_lt _ _ _ (by simp; omega), World.cell?_alloc_lt _ _ _ hgl]; exact ht1
  have r1 : w2.frozen? ⟨g, 1, none⟩ = false := by rw [← hw2, World.frozen?_alloc_old _ _ _ (by simp; omega), World.frozen?_alloc_old _ _ _ (Nat.ne_of_lt hgl)]; exact hf1
  have ho : Only g w w2 := by rw [← hw2]; exact ((Only.refl w g).alloc _).alloc _
  go_enter Tryz.func18, Tryz.ntmps18
  go_wp2_with (go_at_call 34; fail)
  refine (as_p n p _ _ g o1 o2 w2 ha2 q0 q1 r0 r1).mono ?_
  rintro e w' ⟨rfl, h0, h1, ho'⟩
  clear hw2
  go_wp2
  go_ret
  exact ⟨rfl, h0, h1, ho.trans ho'⟩

set_option maxHeartbeats 4000000 in
theorem number_any (n p : Int) (w : World) (hT : ErrT w) : Calls Tryz.prog 7 #[faultV n p] w fun e w' => e = .returned (.int .i64 n) ∧ Below w.heap.size w w' := by
  unfold faultV
  have H := keepHid (As_n n p w.heap.size (.int .i64 0) (w.alloc (.cells #[.int .i64 0] 28)) (hT.alloc _) (by simp) (by simp))
  go_enter Tryz.func7, Tryz.ntmps7
  go_wp2_with (go_at_call 18; fail)
  refine H.out.mono ?_
  rintro e w' ⟨rfl, h0, ho⟩
  have hb : Below w.heap.size w w' := ((Below.refl _ _).alloc (Nat.le_refl _) _).trans (ho.below (Nat.le_refl _) (by simp))
  go_wp2
  go_ret
  exact ⟨rfl, hb⟩
set_option maxHeartbeats 4000000 in
theorem place_any (n p : Int) (w : World) (hT : ErrT w) : Calls Tryz.prog 8 #[faultV n p] w fun e w' => e = .returned (.int .i64 p) ∧ Below w.heap.size w w' := by
  unfold faultV
  have H := keepHid (As_p n p w.heap.size (.int .i64 0) (.int .i64 0) (w.alloc (.cells #[.int .i64 0, .int .i64 0] 59)) (hT.alloc _) (by simp) (by simp) (by simp) (by simp))
  go_enter Tryz.func8, Tryz.ntmps8
  go_wp2_with (go_at_call 18; fail)
  refine H.out.mono ?_
  rintro e w' ⟨rfl, h0, h1, ho⟩
  have hb : Below w.heap.size w w' := ((Below.refl _ _).alloc (Nat.le_refl _) _).trans (ho.below (Nat.le_refl _) (by simp))
  go_wp2
  go_ret
  exact ⟨rfl, hb⟩

end Go.Proofs.YtkhhcclomjfliaaGreatDoor
