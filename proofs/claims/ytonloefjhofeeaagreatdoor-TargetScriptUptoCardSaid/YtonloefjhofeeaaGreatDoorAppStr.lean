/-
  'append' of a string's bytes onto bytes of the call's own.
-/
import Derived.Test.YtonloefjhofeeaaGreatDoorProg
import Derived.Test.YtonloefjhofeeaaGreatDoorApp
import Derived.WalkKit
import Derived.ProofKit
import Derived.Lib.AppendStr
namespace Go.Proofs.YtonloefjhofeeaaGreatDoor
open Go.RowKit
set_option linter.unusedVariables false

theorem strCells_map (l : List UInt8) : Lib.strCells (strB l) = l.map byteV := by
  unfold Lib.strCells strB byteV
  simp
theorem infoU8 : (Tryz.prog.info? 5).map (fun i => (i.zero, i.size, i.bytes)) = some (some (.int .u8 0), 1, 1) := by kernel_rfl
/-- A text is sent: its bytes behind those that were. -/
theorem wpList_append_text18 {w : World} {ops : Array Oper} {rest : List Oper} {o : Oper} {a : Act} {Q : Exit → Act → World → Prop} (hgd : o.guard = none) (sl x : Operand)
    (ho : o.op = .call { callee := .builtin .append, args := #[sl, x], argTypes := #[31, 9] })
    (base : Nat) (v : Value) (n : Nat) (xs ys : List UInt8) (hs : a.eval sl = v) (hown : OwnB w base 5 v n xs) (hx : a.eval x = .string (strB ys)) (hn : n + ys.length ≤ 140737488355328) (hbase : base ≤ w.heap.size)
    (h : ∀ A cap w', OwnB w' base 5 (.slice A (n + ys.length) cap) (n + ys.length) (xs ++ ys) → Turn (fun b => v.ownBlock = some b) w w' → wpList Tryz.prog ops Q rest (a.put o.dst (.slice A (n + ys.length) cap)) w') : wpList Tryz.prog ops Q (o :: rest) a w := by
  obtain ⟨i, hi⟩ := Option.isSome_iff_exists.1 (show (Tryz.prog.info? 5).isSome = true by kernel_rfl)
  have h0 := infoU8
  rw [hi] at h0
  simp only [Option.map_some, Option.some.injEq, Prod.mk.injEq] at h0
  obtain ⟨hz, hsz, hby⟩ := h0
  have hsb : (strB ys).size = ys.length := strB_size ys
  refine Lib.wpList_append_own_string w hgd sl x 31 9 ho base 5 i Tryz.underlying31 Tryz.underlying9 hi hz hsz hby v n (xs.map byteV) hs hown (strB ys) hx (by rw [hsb]; unfold maxLen; omega) (by rw [hsb]; exact hn) hbase ?_
  intro v' w' h2 h3 _
  rw [hsb, strCells_map, ← List.map_append] at h2
  have h2' : OwnB w' base 5 v' (n + ys.length) (xs ++ ys) := h2
  obtain ⟨A, cap, rfl, _⟩ := h2'.form
  exact h A cap w' h2' (turn_grown h3)


/-- Where the bytes lie behind the append: where they lay, or in a new row. -/
theorem append_where {w w' : World} {base n : Nat} {v v' : Value} {xs : List UInt8} (hown : OwnB w base 5 v n xs) (ys : List UInt8) (ty : TypeId) (hn : n + ys.length ≤ 140737488355328) (hbase : base ≤ w.heap.size)
    (hr : (Builtin.append_ #[31, 9] ty #[v, .string (strB ys)]).run Tryz.prog w = .ok v' w') : v'.ownBlock = v.ownBlock ∨ v'.ownBlock = some w.heap.size := by
  obtain ⟨i, hi⟩ := Option.isSome_iff_exists.1 (show (Tryz.prog.info? 5).isSome = true by kernel_rfl)
  have h0 := infoU8
  rw [hi] at h0
  simp only [Option.map_some, Option.some.injEq, Prod.mk.injEq] at h0
  obtain ⟨hz, hsz, hby⟩ := h0
  have hsb : (strB ys).size = ys.length := strB_size ys
  rcases hown.2 with ⟨rfl, rfl⟩ | ⟨g, cap, cur, rfl, hbg, hg, hnc, hcm, hcs, htake⟩
  · by_cases hm : ys.length = 0
    · obtain ⟨v2, w2, h1, _, _, h2⟩ := Lib.run_append_own_string (P := Tryz.prog) w base 31 9 ty 5 i Tryz.underlying31 Tryz.underlying9 hi hz hsz hby _ _ (xs.map byteV) hown (strB ys) (by rw [hsb]; unfold maxLen; omega) (by rw [hsb]; exact hn) hbase
      rw [hr] at h1
      injection h1 with e1 e2
      exact .inl (by rw [e1, h2.2 ⟨rfl, by rw [hsb]; exact hm⟩])
    · have h1 := run_append_nil_string (P := Tryz.prog) w 31 9 ty 5 i (.int .u8 0) Tryz.underlying31 Tryz.underlying9 hi hz (strB ys) (by omega) (by omega) (by rw [hby]; omega)
      rw [hr] at h1
      injection h1 with e1 e2
      exact .inr (by rw [e1]; rfl)
  · by_cases hroom : n + (strB ys).size ≤ cap
    · have hcs' : cur.size = cap := by simpa using hcs
      have h1 := Lib.run_append_room_string (P := Tryz.prog) w 31 9 ty 5 i Tryz.underlying31 Tryz.underlying9 hi hsz g n cap cur hg (strB ys) hroom (by omega)
      rw [hr] at h1
      injection h1 with e1 e2
      exact .inl (by rw [e1]; rfl)
    · have hxl : (xs.map byteV).length = n := by have := hown.1; simpa using this
      have h1 := Lib.run_append_grow_string (P := Tryz.prog) w 31 9 ty 5 i (.int .u8 0) Tryz.underlying31 Tryz.underlying9 hi hz ⟨g, 0, none⟩ n cap (xs.map byteV) (by rw [hsz]; omega) (World.ownsRow.cells hown rfl) (strB ys) (by omega) (by omega) (by rw [hby]; exact growslice_fits (by omega) (by omega))
      rw [hr] at h1
      injection h1 with e1 e2
      exact .inr (by rw [e1]; rfl)
/-- The same, telling where the bytes lie. -/
theorem wpList_append_textO {w : World} {ops : Array Oper} {rest : List Oper} {o : Oper} {a : Act} {Q : Exit → Act → World → Prop} (hgd : o.guard = none) (sl x : Operand)
    (ho : o.op = .call { callee := .builtin .append, args := #[sl, x], argTypes := #[31, 9] })
    (base : Nat) (v : Value) (n : Nat) (xs ys : List UInt8) (hs : a.eval sl = v) (hown : OwnB w base 5 v n xs) (hx : a.eval x = .string (strB ys)) (k : Nat) (hk : n + ys.length = k) (hn : k ≤ 140737488355328) (hbase : base ≤ w.heap.size)
    (h : ∀ A cap w', OwnB w' base 5 (.slice A k cap) k (xs ++ ys) → Turn (fun b => v.ownBlock = some b) w w' → ((Value.slice A k cap).ownBlock = v.ownBlock ∨ (Value.slice A k cap).ownBlock = some w.heap.size) → k ≤ cap → cap ≤ 9223372036854775807 → wpList Tryz.prog ops Q rest (a.put o.dst (.slice A k cap)) w') : wpList Tryz.prog ops Q (o :: rest) a w := by
  subst hk
  obtain ⟨i, hi⟩ := Option.isSome_iff_exists.1 (show (Tryz.prog.info? 5).isSome = true by kernel_rfl)
  have h0 := infoU8
  rw [hi] at h0
  simp only [Option.map_some, Option.some.injEq, Prod.mk.injEq] at h0
  obtain ⟨hz, hsz, hby⟩ := h0
  have hsb : (strB ys).size = ys.length := strB_size ys
  refine wpList_plain hgd fun K hK => ?_
  obtain ⟨v', w', hr, h2, h3, _⟩ := Lib.run_append_own_string (P := Tryz.prog) w base 31 9 o.type 5 i Tryz.underlying31 Tryz.underlying9 hi hz hsz hby v n (xs.map byteV) hown (strB ys) (by rw [hsb]; unfold maxLen; omega) (by rw [hsb]; exact hn) hbase
  have hwh := append_where hown ys o.type hn hbase hr
  rw [hsb, strCells_map, ← List.map_append] at h2
  have h2' : OwnB w' base 5 v' (n + ys.length) (xs ++ ys) := h2
  obtain ⟨A, cap, rfl, h5, h6, _⟩ := h2'.form
  unfold Oper.wp execOp
  simp only [ho, resolve, invoke, builtin, Sem.run_bind, Sem.run_pure, Result.andThen_ok, List.map_toArray, List.map_cons, List.map_nil, hs, hx, hr]
  exact hK _ _ (h A cap w' h2' (turn_grown h3) hwh h5 h6)
end Go.Proofs.YtonloefjhofeeaaGreatDoor
