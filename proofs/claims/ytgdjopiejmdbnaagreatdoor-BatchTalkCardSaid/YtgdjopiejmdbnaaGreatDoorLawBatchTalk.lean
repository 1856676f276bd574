/-
  'lifelinelaw13.BatchTalk' answers true for every input of the row, and leaves its arguments as they were.
  Conditions: the package-level variables that the row lists lie as the program's own text lays them (the card ties them to it; what is pinned is a constant of the library's).
-/
import Derived.Test.YtgdjopiejmdbnaaGreatDoorRows
import Derived.Test.YtgdjopiejmdbnaaGreatDoorBatchAwake
import Derived.Test.YtgdjopiejmdbnaaGreatDoorFrameTwo
import Derived.Test.YtgdjopiejmdbnaaGreatDoorFrame
import Derived.Test.YtgdjopiejmdbnaaGreatDoorFrameDoor
import Derived.Test.YtgdjopiejmdbnaaGreatDoorFrameErrs
import Derived.Test.YtgdjopiejmdbnaaGreatDoorCards
import Derived.WalkKit
import Derived.ProofKit
import Derived.OpenShut
import Derived.ShutString
import Derived.ChangeOld
import Derived.Below
namespace Go.Proofs.YtgdjopiejmdbnaaGreatDoor.batchTalk
open Go.ChangeShapes Go.WideShapes Go.ChangeAt Go.RowKit
open Go.ChangeMaps (open_string shut_string)
set_option linter.unusedVariables false

theorem own : ownKnob Tryz.prog.godebug = none := by kernel_rfl
theorem laidOut : laidOutB Tryz.prog = true := by kernel_rfl

set_option maxRecDepth 100000 in
set_option maxHeartbeats 8000000 in
theorem walk (y0 z0 : Int) (a1 : Option Addr) (n1 c1 : Nat) (b1 : List UInt8) (a2 : Option Addr) (n2 c2 : Nat) (b2 : List UInt8) (x3 : Int) (x4 : Int) (x5 : Int) (w : World) (hT : Tabs w) (hE : Errs w) (h0 : -9223372036854775808 ≤ y0 ∧ y0 ≤ 9223372036854775807) (g0 : -9223372036854775808 ≤ z0 ∧ z0 ≤ 9223372036854775807) (h1 : Bys w w.heap.size a1 n1 b1) (l1 : n1 ≤ c1) (s1 : c1 ≤ 140737488351232) (h2 : Bys w w.heap.size a2 n2 b2) (l2 : n2 ≤ c2) (s2 : c2 ≤ 140737488351232) (h3 : 0 ≤ x3 ∧ x3 ≤ 65535) (h4 : 0 ≤ x4 ∧ x4 ≤ 4294967295) (h5 : 0 ≤ x5 ∧ x5 ≤ 65535) :
    Calls Tryz.prog 3 #[.agg #[.int .i64 y0, .int .i64 z0], .slice a1 n1 c1, .slice a2 n2 c2, .int .u16 x3, .int .u32 x4, .int .u16 x5] w fun e w' => e = .returned (.bool true) ∧ Below w.heap.size w w' := by
  obtain ⟨t, v, u, z1, ht, hv, hu, hz, hz1, hz6, t1, t2, v1', v2', u1, u2⟩ := wait_is z0 2
  obtain ⟨m3, rfl⟩ : ∃ m3 : Nat, x3 = (m3 : Int) := ⟨x3.toNat, by omega⟩
  obtain ⟨wa, hwa⟩ : ∃ wa, w.alloc (.cells #[.int .i64 y0, .int .i64 z0] 23) = wa := ⟨_, rfl⟩
  have hba : Below w.heap.size w wa := by rw [← hwa]; exact (Below.refl _ _).alloc (Nat.le_refl _) _
  have hka : Blk wa w.heap.size 23 #[.int .i64 y0, .int .i64 z0] := by rw [← hwa]; exact Blk.new w _ _
  have hSa : Std w wa := (Std.new hT hE).below hba
  have HSA := keepHid hSa
  have HAW := keepHid (awake13_any wa hSa.t hSa.e)
  have HBA := keepHid hba
  have HKA := keepHid hka
  have HNM := keepHid (nm_later a1 n1 c1 b1 h1)
  have HMAY : Hid (∀ L : Nat, L < 2500 → May (sizedF ⟨nmL b1, 0, x4, x5⟩ L)) := keepHid (fun L hL => ⟨nm_name b1, by show (0 : Int) ≤ (L : Int); omega, by show (L : Int) ≤ 8192; omega, h4.1, h4.2, h5.1, h5.2⟩)
  have HY2 := keepHid h2
  have hx4 := h4.2
  have hx4' := h4.1
  have hx5 := h5.2
  have hx5' := h5.1
  obtain ⟨nm, hnm⟩ : ∃ nm, nmL b1 = nm := ⟨_, rfl⟩
  rw [hnm] at HNM HMAY
  clear hT hE h0 g0 h1 l1 s1 h2 l2 s2 h4 h5 hba hka hSa hnm
  go_enter Tryz.func3, Tryz.ntmps3
  go_wp2_with fail
  with_reducible refine HAW.out.mono ?_
  rintro e w1 ⟨rfl, hb1⟩
  have hk1 := HKA.out.below hb1 HKA.out.lt
  have hB1 := HBA.out.trans (hb1.mono HBA.out.size)
  have cc1 : w1.cell? ⟨w.heap.size, 1, none⟩ = some (.int .i64 z0) := hk1.cell 1
  have cf := hk1.frozen
  obtain ⟨w2, hw2⟩ : ∃ w2, w1.setCell ⟨w.heap.size, 1, none⟩ (.int .i64 z1) = w2 := ⟨_, rfl⟩
  have hb2 : Below w.heap.size w w2 := by rw [← hw2]; exact hB1.setCell (Nat.le_refl _) _
  have hk2 : Blk w2 w.heap.size 23 #[.int .i64 y0, .int .i64 z1] := by rw [← hw2]; exact hk1.put 1 _
  have HNM2 := keepHid (HNM.out w2 hb2)
  obtain ⟨w3, hw3⟩ : ∃ w3, w2.alloc (.cells #[.string (strB nm), .int .i64 0, .int .i64 x4, .int .i64 x5] 30) = w3 := ⟨_, rfl⟩
  have hb3 : Below w.heap.size w w3 := by rw [← hw3]; exact hb2.alloc hb2.size _
  have hf3 : Blk w3 w2.heap.size 30 #[.string (strB nm), .int .i64 0, .int .i64 x4, .int .i64 x5] := by rw [← hw3]; exact Blk.new w2 _ _
  have hk3 : Blk w3 w.heap.size 23 #[.int .i64 y0, .int .i64 z1] := by rw [← hw3]; exact hk2.alloc _
  have HBT := keepHid (bytes13_any a2 n2 c2 w.heap.size b2 m3 (by omega) w3 (HY2.out.below hb3) hb3.size)
  have HS3 : Hid (Std w w3) := keepHid ⟨HSA.out.tabs, HSA.out.errs, hb3⟩
  have HSZ2 := keepHid hb2.size
  have HB3 := keepHid hb3
  have HK3 := keepHid hk3
  have HF3 := keepHid hf3
  have HLT23 := keepHid hf3.lt
  have hm3 : (m3 : Int) ≤ 65535 := h3.2
  clear hb1 hk1 hB1 hb2 hk2 hb3 hf3 hk3 hwa h3
  go_wp2_with fail
  with_reducible refine HNM2.out.mono ?_
  rintro e w2' ⟨rfl, rfl⟩
  go_wp2_with fail
  with_reducible refine HBT.out.mono ?_
  rintro e w4 ⟨L, bs, rfl, hL, hy4, hb4⟩
  have hk4 := HK3.out.below hb4 HK3.out.lt
  have hf4 := HF3.out.below hb4 HF3.out.lt
  have q0 : w4.cell? ⟨w.heap.size, 0, none⟩ = some (.int .i64 y0) := hk4.cell 0
  have q1 : w4.cell? ⟨w.heap.size, 1, none⟩ = some (.int .i64 z1) := hk4.cell 1
  have p0 : w4.cell? ⟨w2.heap.size, 0, none⟩ = some (.string (strB nm)) := hf4.cell 0
  have p1 : w4.cell? ⟨w2.heap.size, 1, none⟩ = some (.int .i64 0) := hf4.cell 1
  have p2 : w4.cell? ⟨w2.heap.size, 2, none⟩ = some (.int .i64 x4) := hf4.cell 2
  have p3 : w4.cell? ⟨w2.heap.size, 3, none⟩ = some (.int .i64 x5) := hf4.cell 3
  have hS4 : Std w w4 := HS3.out.below hb4
  obtain ⟨fx, hfx⟩ : ∃ fx, sizedF ⟨nm, 0, x4, x5⟩ L = fx := ⟨_, rfl⟩
  have HFX := keepHid hfx
  have HOF : Hid (Calls Tryz.prog 12 #[.agg #[.int .i64 y0, .int .i64 z1], .agg #[.string (strB nm), .int .i64 0, .int .i64 x4, .int .i64 x5], .slice (some ⟨w3.heap.size, 0, none⟩) L L] w4 fun e w'' => ∃ G, e = .returned (.tuple #[.pointer (some ⟨G, 0, none⟩), .nilIface]) ∧ Snt w4 fx bs y0 z1 G w'' ∧ Below w4.heap.size w4 w'') := keepHid (by
    rw [← hfx]
    exact of_law y0 z1 ⟨nm, 0, x4, x5⟩ (some ⟨w3.heap.size, 0, none⟩) L L bs (Std.new hS4.t hS4.e) hy4 (Nat.le_refl _) (by omega) (HMAY.out L hL))
  have HB4 := keepHid (HB3.out.trans (hb4.mono HB3.out.size))
  have HK4 := keepHid hk4
  have HF4 := keepHid hf4
  have HY4 := keepHid hy4
  have HLL := keepHid hL
  have HLT34 := keepHid hb4.size
  clear hk4 hf4 hS4 hfx hy4 hb4 hL hw3 hw2 cc1 cf ht hv hu hz t1 t2 v1' v2' u1 u2
  go_wp2_with fail
  with_reducible refine HOF.out.mono ?_
  rintro e w5 ⟨G1, rfl, hs5, hb5⟩
  have hk5 := HK4.out.below hb5 HK4.out.lt
  have r0 : w5.cell? ⟨w.heap.size, 0, none⟩ = some (.int .i64 y0) := hk5.cell 0
  have r1 : w5.cell? ⟨w.heap.size, 1, none⟩ = some (.int .i64 z1) := hk5.cell 1
  have HTK := keepHid (take_law hs5 (Below.refl _ _))
  have HB45 := keepHid hb5
  clear hk5 hs5 hb5 q0 q1 p0 p1 p2 p3
  go_wp2_with fail
  with_reducible refine HTK.out.mono ?_
  rintro e w6 ⟨G2, rfl, ht6, hb6⟩
  have hl60 : bs.length + 128 ≤ (60 - 3) * 128 := by have := HY4.out.len; have := HLL.out; omega
  have HTL := keepHid (talk_lit ht6 60 60 rfl hl60 (by decide) (by decide) hz1)
  have HB46 := keepHid (bel2 HB45.out hb6)
  clear ht6 hb6 r0 r1 hl60
  go_wp2_with fail
  with_reducible refine HTL.out.mono ?_
  rintro e w7 ⟨rfl, he7, hb7⟩
  have HSD := keepHid he7.sdone
  have HB47 : Hid (Below w4.heap.size w4 w7) := keepHid (HB46.out.trans hb7)
  clear he7 hb7
  go_wp2_with fail
  with_reducible refine HSD.out.mono ?_
  rintro e w8 ⟨rfl, hw8, he8⟩
  have HRD := keepHid he8.rdone
  have HB48 : Hid (Below w4.heap.size w4 w8) := keepHid (by rw [hw8]; exact HB47.out.drew)
  clear he8 hw8
  go_wp2_with fail
  with_reducible refine HRD.out.mono ?_
  rintro e w9 ⟨rfl, hw9, he9⟩
  have hB49 : Below w4.heap.size w4 w9 := by rw [hw9]; exact HB48.out.drew
  have hf9 := HF4.out.below hB49 HF4.out.lt
  have ff9 := hf9.frozen
  have p1 : w9.cell? ⟨w2.heap.size, 1, none⟩ = some (.int .i64 0) := hf9.cell 1
  obtain ⟨w10, hw10⟩ : ∃ w10, w9.setCell ⟨w2.heap.size, 1, none⟩ (.int .i64 (L : Int)) = w10 := ⟨_, rfl⟩
  have t10 : Turn (fun i => i = w2.heap.size) w9 w10 := by rw [← hw10]; exact turnAt _ _ (Turn.refl _ w9)
  have hf10 : Blk w10 w2.heap.size 30 #[.string (strB nm), .int .i64 (L : Int), .int .i64 x4, .int .i64 x5] := by rw [← hw10]; exact hf9.put 1 _
  have hy10 : Bys w10 w10.heap.size (some ⟨w3.heap.size, 0, none⟩) L bs := by
    have hy9 : Bys w9 w9.heap.size (some ⟨w3.heap.size, 0, none⟩) L bs := (HY4.out.below hB49).more hB49.size
    exact (hy9.turn t10 (Nat.le_refl _) (fun _ ad e hh => by obtain rfl := Option.some.inj e; have := HLT23.out; simp only at hh; omega)).more t10.size
  have he10 : Ended w4 fx bs G1 G2 w10 := he9.turns t10 (fun i hi => by rw [hi]; exact HF4.out.lt)
  have hb10 : Below w.heap.size w w10 := by
    have hb9 : Below w.heap.size w w9 := HB4.out.trans (hB49.mono HB4.out.size)
    exact hb9.trans (t10.below (fun i hi => by rw [hi]; exact HSZ2.out) hb9.size)
  have hcv : ∀ w', Below w10.heap.size w10 w' → (convert 24 9 (.slice (some ⟨w3.heap.size, 0, none⟩) L L)).run Tryz.prog w' = .ok (.string (strB bs)) w' := fun w' hb => run_str 24 5 9 Tryz.underlying24 Tryz.underlying5 Tryz.underlying9 (hy10.below hb)
  have HCS : Hid (∀ w', Below w10.heap.size w10 w' → w'.cell? ⟨w2.heap.size, 0, none⟩ = some (.string (strB nm)) ∧ w'.cell? ⟨w2.heap.size, 1, none⟩ = some (.int .i64 (L : Int)) ∧ w'.cell? ⟨w2.heap.size, 2, none⟩ = some (.int .i64 x4) ∧ w'.cell? ⟨w2.heap.size, 3, none⟩ = some (.int .i64 x5) ∧
      (convert 24 9 (.slice (some ⟨w3.heap.size, 0, none⟩) L L)).run Tryz.prog w' = .ok (.string (strB bs)) w' ∧ Below w10.heap.size w10 w') := keepHid (fun w' hb => by
    have hk := hf10.below hb hf10.lt
    exact ⟨hk.cell 0, hk.cell 1, hk.cell 2, hk.cell 3, hcv w' hb, hb⟩)
  have HFL : Hid (∀ w', Below w10.heap.size w10 w' → Calls Tryz.prog 17 #[.pointer (some ⟨G2, 0, none⟩)] w' fun e w'' => e = .returned (.agg #[.string (strB nm), .int .i64 (L : Int), .int .i64 x4, .int .i64 x5]) ∧ Below w'.heap.size w' w'') := keepHid (fun w' hb => by
    have := (he10.below hb).file
    rw [← HFX.out] at this
    exact this)
  have HDT : Hid (∀ w', Below w10.heap.size w10 w' → Calls Tryz.prog 18 #[.pointer (some ⟨G2, 0, none⟩)] w' fun e w'' => ∃ A c, e = .returned (.slice A L c) ∧ Bys w'' w''.heap.size A L bs ∧ L ≤ c ∧ c ≤ 9223372036854775807 ∧ Below w'.heap.size w' w'') := keepHid (fun w' hb => (he10.below hb).data hy10.len)
  have HFIN : Hid (∀ w', Below w10.heap.size w10 w' → Below w.heap.size w w') := keepHid (fun w' hb => bel2 hb10 hb)
  have heq : ∀ W : World, (binOp .eql 30 (.agg #[.string (strB nm), .int .i64 (L : Int), .int .i64 x4, .int .i64 x5]) (.agg #[.string (strB nm), .int .i64 (L : Int), .int .i64 x4, .int .i64 x5])).run Tryz.prog W = .ok (.bool true) W := fun W => by
    have := eq_file ⟨nm, L, x4, x5⟩ ⟨nm, L, x4, x5⟩ W
    rw [decide_eq_true rfl] at this
    exact this
  have hsame := strB_same (xs := bs) (bs := bs) rfl
  clear he9 hw9 hf9 t10 hf10 hy10 he10 hb10 hB49 hcv
  go_upto_region 14 with fail
  clear hw10 p1 ff9
  obtain ⟨k0, k1, k2, k3, kv, _⟩ := HCS.out w10 (Below.refl _ _)
  clear HSA HAW HBA HKA HNM HMAY HY2 HNM2 HBT HS3 HB3 HK3 HF3 HLT23 HSZ2 HFX HOF HB4 HK4 HF4 HY4 HLL HLT34 HTK HB45 HTL HB46 HSD HB47 HRD HB48 hm3 hz1 hz6
  refine wp_region_held_drew (S := (fun w' => w'.cell? ⟨w2.heap.size, 0, none⟩ = some (.string (strB nm)) ∧ w'.cell? ⟨w2.heap.size, 1, none⟩ = some (.int .i64 (L : Int)) ∧ w'.cell? ⟨w2.heap.size, 2, none⟩ = some (.int .i64 x4) ∧ w'.cell? ⟨w2.heap.size, 3, none⟩ = some (.int .i64 x5) ∧ (convert 24 9 (.slice (some ⟨w3.heap.size, 0, none⟩) L L)).run Tryz.prog w' = .ok (.string (strB bs)) w' ∧ Below w10.heap.size w10 w')) (by kernel_rfl) (HCS.out _ (by (repeat (first | (with_reducible exact Below.refl _ _) | (with_reducible exact HB12.out) | (with_reducible exact HB11.out) | (with_reducible refine Below.drew ?_))))) ?_
  intro hS
  refine wpAnyH_take (i := 0) (oi := { dst := some 68, op := Op.move (Operand.tmp 18), type := 4, pos := "law.go:73", after := #[], guard := none }) (v := .bool true) rfl (by kernel_rfl) (by kernel_rfl) (by kernel_rfl) (fun _ _ _ h => h) (Or.inl ⟨by rfl, ?_⟩) (by assumption) ?_
  · intro w hSw
    try dsimp only at hSw
    go_simp
  try simp only [Act.put, List.setIfInBounds_toArray, List.set_cons_zero, List.set_cons_succ]
  refine wpAnyH_take (i := 1) (oi := { dst := some 69, op := Op.move (Operand.tmp 68), type := 4, pos := "law.go:73", after := #[{ on := 0, ground := Ground.data }], guard := none }) (v := .bool true) rfl (by kernel_rfl) (by kernel_rfl) (by kernel_rfl) (fun _ _ _ h => h) (Or.inl ⟨by rfl, ?_⟩) (by assumption) ?_
  · intro w hSw
    try dsimp only at hSw
    go_simp
  try simp only [Act.put, List.setIfInBounds_toArray, List.set_cons_zero, List.set_cons_succ]
  refine wpAnyH_take (i := 2) (oi := { dst := some 70, op := Op.move (Operand.tmp 20), type := 4, pos := "law.go:73", after := #[{ on := 1, ground := Ground.guard }], guard := some (1, true) }) (v := .bool true) rfl (by kernel_rfl) (by kernel_rfl) (by kernel_rfl) (fun _ _ _ h => h) (Or.inl ⟨by rfl, ?_⟩) (by assumption) ?_
  · intro w hSw
    try dsimp only at hSw
    go_simp
  try simp only [Act.put, List.setIfInBounds_toArray, List.set_cons_zero, List.set_cons_succ]
  refine wpAnyH_take (i := 3) (oi := { dst := some 71, op := Op.pick (Operand.tmp 69) (Operand.tmp 70) (Operand.const (Value.bool false)), type := 4, pos := "law.go:73", after := #[{ on := 1, ground := Ground.data }, { on := 2, ground := Ground.data }], guard := none }) (v := .bool true) rfl (by kernel_rfl) (by kernel_rfl) (by kernel_rfl) (fun _ _ _ h => h) (Or.inl ⟨by rfl, ?_⟩) (by assumption) ?_
  · intro w hSw
    try dsimp only at hSw
    go_simp
  try simp only [Act.put, List.setIfInBounds_toArray, List.set_cons_zero, List.set_cons_succ]
  refine wpAnyH_take (i := 4) (oi := { dst := some 72, op := Op.move (Operand.tmp 71), type := 4, pos := "law.go:73", after := #[{ on := 3, ground := Ground.data }, { on := 1, ground := Ground.chain }], guard := none }) (v := .bool true) rfl (by kernel_rfl) (by kernel_rfl) (by kernel_rfl) (fun _ _ _ h => h) (Or.inl ⟨by rfl, ?_⟩) (by assumption) ?_
  · intro w hSw
    try dsimp only at hSw
    go_simp
  try simp only [Act.put, List.setIfInBounds_toArray, List.set_cons_zero, List.set_cons_succ]
  refine wpAnyH_take (i := 5) (oi := { dst := some 73, op := Op.move (Operand.tmp 19), type := 34, pos := "law.go:73", after := #[{ on := 4, ground := Ground.guard }], guard := some (4, true) }) (v := .nilIface) rfl (by kernel_rfl) (by kernel_rfl) (by kernel_rfl) (fun _ _ _ h => h) (Or.inl ⟨by rfl, ?_⟩) (by assumption) ?_
  · intro w hSw
    try dsimp only at hSw
    go_simp
  try simp only [Act.put, List.setIfInBounds_toArray, List.set_cons_zero, List.set_cons_succ]
  refine wpAnyH_take (i := 6) (oi := { dst := some 74, op := Op.binOp BinOp.eql 34 (Operand.tmp 73) (Operand.const Value.nilIface) 34, type := 4, pos := "law.go:73", after := #[{ on := 5, ground := Ground.data }, { on := 4, ground := Ground.guard }], guard := some (4, true) }) (v := .bool true) rfl (by kernel_rfl) (by kernel_rfl) (by kernel_rfl) (fun _ _ _ h => h) (Or.inl ⟨by rfl, ?_⟩) (by assumption) ?_
  · intro w hSw
    try dsimp only at hSw
    go_simp
  try simp only [Act.put, List.setIfInBounds_toArray, List.set_cons_zero, List.set_cons_succ]
  refine wpAnyH_take (i := 7) (oi := { dst := some 75, op := Op.pick (Operand.tmp 72) (Operand.tmp 74) (Operand.const (Value.bool false)), type := 4, pos := "law.go:73", after := #[{ on := 4, ground := Ground.data }, { on := 6, ground := Ground.data }], guard := none }) (v := .bool true) rfl (by kernel_rfl) (by kernel_rfl) (by kernel_rfl) (fun _ _ _ h => h) (Or.inl ⟨by rfl, ?_⟩) (by assumption) ?_
  · intro w hSw
    try dsimp only at hSw
    go_simp
  try simp only [Act.put, List.setIfInBounds_toArray, List.set_cons_zero, List.set_cons_succ]
  refine wpAnyH_take (i := 8) (oi := { dst := some 76, op := Op.move (Operand.tmp 75), type := 4, pos := "law.go:73", after := #[{ on := 7, ground := Ground.data }, { on := 4, ground := Ground.chain }], guard := none }) (v := .bool true) rfl (by kernel_rfl) (by kernel_rfl) (by kernel_rfl) (fun _ _ _ h => h) (Or.inl ⟨by rfl, ?_⟩) (by assumption) ?_
  · intro w hSw
    try dsimp only at hSw
    go_simp
  try simp only [Act.put, List.setIfInBounds_toArray, List.set_cons_zero, List.set_cons_succ]
  refine wpAnyH_take (i := 9) (oi := { dst := some 77, op := Op.move (Operand.tmp 21), type := 34, pos := "law.go:73", after := #[{ on := 8, ground := Ground.guard }], guard := some (8, true) }) (v := .nilIface) rfl (by kernel_rfl) (by kernel_rfl) (by kernel_rfl) (fun _ _ _ h => h) (Or.inl ⟨by rfl, ?_⟩) (by assumption) ?_
  · intro w hSw
    try dsimp only at hSw
    go_simp
  try simp only [Act.put, List.setIfInBounds_toArray, List.set_cons_zero, List.set_cons_succ]
  refine wpAnyH_take (i := 10) (oi := { dst := some 78, op := Op.binOp BinOp.eql 34 (Operand.tmp 77) (Operand.const Value.nilIface) 34, type := 4, pos := "law.go:73", after := #[{ on := 9, ground := Ground.data }, { on := 8, ground := Ground.guard }], guard := some (8, true) }) (v := .bool true) rfl (by kernel_rfl) (by kernel_rfl) (by kernel_rfl) (fun _ _ _ h => h) (Or.inl ⟨by rfl, ?_⟩) (by assumption) ?_
  · intro w hSw
    try dsimp only at hSw
    go_simp
  try simp only [Act.put, List.setIfInBounds_toArray, List.set_cons_zero, List.set_cons_succ]
  refine wpAnyH_take (i := 11) (oi := { dst := some 79, op := Op.pick (Operand.tmp 76) (Operand.tmp 78) (Operand.const (Value.bool false)), type := 4, pos := "law.go:73", after := #[{ on := 8, ground := Ground.data }, { on := 10, ground := Ground.data }], guard := none }) (v := .bool true) rfl (by kernel_rfl) (by kernel_rfl) (by kernel_rfl) (fun _ _ _ h => h) (Or.inl ⟨by rfl, ?_⟩) (by assumption) ?_
  · intro w hSw
    try dsimp only at hSw
    go_simp
  try simp only [Act.put, List.setIfInBounds_toArray, List.set_cons_zero, List.set_cons_succ]
  refine wpAnyH_take (i := 12) (oi := { dst := some 80, op := Op.move (Operand.tmp 79), type := 4, pos := "law.go:73", after := #[{ on := 11, ground := Ground.data }, { on := 8, ground := Ground.chain }], guard := none }) (v := .bool true) rfl (by kernel_rfl) (by kernel_rfl) (by kernel_rfl) (fun _ _ _ h => h) (Or.inl ⟨by rfl, ?_⟩) (by assumption) ?_
  · intro w hSw
    try dsimp only at hSw
    go_simp
  try simp only [Act.put, List.setIfInBounds_toArray, List.set_cons_zero, List.set_cons_succ]
  refine wpAnyH_take (i := 13) (oi := { dst := some 81, op := Op.move (Operand.tmp 17), type := 37, pos := "law.go:73", after := #[{ on := 12, ground := Ground.guard }], guard := some (12, true) }) (v := .pointer (some ⟨G2, 0, none⟩)) rfl (by kernel_rfl) (by kernel_rfl) (by kernel_rfl) (fun _ _ _ h => h) (Or.inl ⟨by rfl, ?_⟩) (by assumption) ?_
  · intro w hSw
    try dsimp only at hSw
    go_simp
  try simp only [Act.put, List.setIfInBounds_toArray, List.set_cons_zero, List.set_cons_succ]
  refine wpAnyH_take (i := 15) (oi := { dst := some 83, op := Op.load 30 (Operand.tmp 13), type := 30, pos := "law.go:73", after := #[{ on := 12, ground := Ground.guard }], guard := some (12, true) }) (v := .agg #[.string (strB nm), .int .i64 (L : Int), .int .i64 x4, .int .i64 x5]) rfl (by kernel_rfl) (by kernel_rfl) (by kernel_rfl) (fun _ _ _ h => h) (Or.inl ⟨by rfl, ?_⟩) (by assumption) ?_
  · intro w hSw
    try dsimp only at hSw
    go_simp
  try simp only [Act.put, List.setIfInBounds_toArray, List.set_cons_zero, List.set_cons_succ]
  refine wpAnyH_ready (rs := [14]) (by kernel_rfl) (by simp) (AllReadyH.cons (o := { dst := some 82, op := Op.call { callee := Callee.value (Operand.func 17), args := #[Operand.tmp 81], argTypes := #[37] }, type := 30, pos := "law.go:73", after := #[{ on := 13, ground := Ground.data }, { on := 12, ground := Ground.chain }, { on := 12, ground := Ground.guard }], guard := some (12, true) }) rfl (fun K hK => ?_) AllReadyH.nil)
  go_simp
  (with_reducible refine (HFL.out _ (by (repeat (first | (with_reducible exact Below.refl _ _) | (with_reducible exact HB12.out) | (with_reducible exact HB11.out) | (with_reducible refine Below.drew ?_))))).mono ?_); rintro e w11 ⟨rfl, hb11⟩; have HB11 := keepHid (bel2 (a := w10) (by (repeat (first | (with_reducible exact Below.refl _ _) | (with_reducible exact HB12.out) | (with_reducible exact HB11.out) | (with_reducible refine Below.drew ?_)))) hb11); clear hb11 hS
  refine hK.out _ _ (HCS.out _ (by (repeat (first | (with_reducible exact Below.refl _ _) | (with_reducible exact HB12.out) | (with_reducible exact HB11.out) | (with_reducible refine Below.drew ?_))))) (fun hS => ?_)
  clear hK
  try simp only [Act.put, List.setIfInBounds_toArray, List.set_cons_zero, List.set_cons_succ]
  refine wpAnyH_take (i := 16) (oi := { dst := some 84, op := Op.binOp BinOp.eql 30 (Operand.tmp 82) (Operand.tmp 83) 30, type := 4, pos := "law.go:73", after := #[{ on := 14, ground := Ground.data }, { on := 15, ground := Ground.data }, { on := 12, ground := Ground.guard }], guard := some (12, true) }) (v := .bool true) rfl (by kernel_rfl) (by kernel_rfl) (by kernel_rfl) (fun _ _ _ h => h) (Or.inl ⟨by rfl, ?_⟩) (by assumption) ?_
  · intro w hSw
    try dsimp only at hSw
    go_simp
  try simp only [Act.put, List.setIfInBounds_toArray, List.set_cons_zero, List.set_cons_succ]
  refine wpAnyH_take (i := 17) (oi := { dst := some 85, op := Op.pick (Operand.tmp 80) (Operand.tmp 84) (Operand.const (Value.bool false)), type := 4, pos := "law.go:73", after := #[{ on := 12, ground := Ground.data }, { on := 16, ground := Ground.data }], guard := none }) (v := .bool true) rfl (by kernel_rfl) (by kernel_rfl) (by kernel_rfl) (fun _ _ _ h => h) (Or.inl ⟨by rfl, ?_⟩) (by assumption) ?_
  · intro w hSw
    try dsimp only at hSw
    go_simp
  try simp only [Act.put, List.setIfInBounds_toArray, List.set_cons_zero, List.set_cons_succ]
  refine wpAnyH_take (i := 18) (oi := { dst := some 86, op := Op.move (Operand.tmp 85), type := 4, pos := "law.go:73", after := #[{ on := 17, ground := Ground.data }, { on := 14, ground := Ground.chain }], guard := none }) (v := .bool true) rfl (by kernel_rfl) (by kernel_rfl) (by kernel_rfl) (fun _ _ _ h => h) (Or.inl ⟨by rfl, ?_⟩) (by assumption) ?_
  · intro w hSw
    try dsimp only at hSw
    go_simp
  try simp only [Act.put, List.setIfInBounds_toArray, List.set_cons_zero, List.set_cons_succ]
  refine wpAnyH_take (i := 19) (oi := { dst := some 87, op := Op.move (Operand.tmp 17), type := 37, pos := "law.go:73", after := #[{ on := 18, ground := Ground.guard }], guard := some (18, true) }) (v := .pointer (some ⟨G2, 0, none⟩)) rfl (by kernel_rfl) (by kernel_rfl) (by kernel_rfl) (fun _ _ _ h => h) (Or.inl ⟨by rfl, ?_⟩) (by assumption) ?_
  · intro w hSw
    try dsimp only at hSw
    go_simp
  try simp only [Act.put, List.setIfInBounds_toArray, List.set_cons_zero, List.set_cons_succ]
  refine wpAnyH_take (i := 22) (oi := { dst := some 90, op := Op.move (Operand.tmp 14), type := 24, pos := "law.go:73", after := #[{ on := 18, ground := Ground.guard }], guard := some (18, true) }) (v := .slice (some ⟨w3.heap.size, 0, none⟩) L L) rfl (by kernel_rfl) (by kernel_rfl) (by kernel_rfl) (fun _ _ _ h => h) (Or.inl ⟨by rfl, ?_⟩) (by assumption) ?_
  · intro w hSw
    try dsimp only at hSw
    go_simp
  try simp only [Act.put, List.setIfInBounds_toArray, List.set_cons_zero, List.set_cons_succ]
  refine wpAnyH_take (i := 23) (oi := { dst := some 91, op := Op.convert 24 9 (Operand.tmp 90), type := 9, pos := "law.go:73", after := #[{ on := 22, ground := Ground.data }, { on := 18, ground := Ground.guard }], guard := some (18, true) }) (v := .string (strB bs)) rfl (by kernel_rfl) (by kernel_rfl) (by kernel_rfl) (fun _ _ _ h => h) (Or.inl ⟨by rfl, ?_⟩) (by assumption) ?_
  · intro w hSw
    try dsimp only at hSw
    go_simp
  try simp only [Act.put, List.setIfInBounds_toArray, List.set_cons_zero, List.set_cons_succ]
  refine wpAnyH_ready (rs := [20]) (by kernel_rfl) (by simp) (AllReadyH.cons (o := { dst := some 88, op := Op.call { callee := Callee.value (Operand.func 18), args := #[Operand.tmp 87], argTypes := #[37] }, type := 24, pos := "law.go:73", after := #[{ on := 19, ground := Ground.data }, { on := 18, ground := Ground.chain }, { on := 18, ground := Ground.guard }], guard := some (18, true) }) rfl (fun K hK => ?_) AllReadyH.nil)
  go_simp
  (with_reducible refine (HDT.out _ (by (repeat (first | (with_reducible exact Below.refl _ _) | (with_reducible exact HB12.out) | (with_reducible exact HB11.out) | (with_reducible refine Below.drew ?_))))).mono ?_); rintro e w12 ⟨A12, c12, rfl, hy12, hc1, hc2, hb12⟩; have HB12 := keepHid (bel2 (a := w10) (by (repeat (first | (with_reducible exact Below.refl _ _) | (with_reducible exact HB12.out) | (with_reducible exact HB11.out) | (with_reducible refine Below.drew ?_)))) hb12); have cv12 := run_str (P := Tryz.prog) (c := c12) 24 5 9 Tryz.underlying24 Tryz.underlying5 Tryz.underlying9 hy12; clear hy12 hb12 hS
  refine hK.out _ _ (HCS.out _ (by (repeat (first | (with_reducible exact Below.refl _ _) | (with_reducible exact HB12.out) | (with_reducible exact HB11.out) | (with_reducible refine Below.drew ?_))))) (fun hS => ?_)
  clear hK
  try simp only [Act.put, List.setIfInBounds_toArray, List.set_cons_zero, List.set_cons_succ]
  refine wpAnyH_ready (rs := [21]) (by kernel_rfl) (by simp) (AllReadyH.cons (o := { dst := some 89, op := Op.convert 24 9 (Operand.tmp 88), type := 9, pos := "law.go:73", after := #[{ on := 20, ground := Ground.data }, { on := 18, ground := Ground.guard }], guard := some (18, true) }) rfl (fun K hK => ?_) AllReadyH.nil)
  go_simp
  refine hK.out _ _ (HCS.out _ (by (repeat (first | (with_reducible exact Below.refl _ _) | (with_reducible exact HB12.out) | (with_reducible exact HB11.out) | (with_reducible refine Below.drew ?_))))) (fun hS => ?_)
  clear hK
  try simp only [Act.put, List.setIfInBounds_toArray, List.set_cons_zero, List.set_cons_succ]
  refine wpAnyH_take (i := 24) (oi := { dst := some 92, op := Op.binOp BinOp.eql 9 (Operand.tmp 89) (Operand.tmp 91) 9, type := 4, pos := "law.go:73", after := #[{ on := 21, ground := Ground.data }, { on := 23, ground := Ground.data }, { on := 18, ground := Ground.guard }], guard := some (18, true) }) (v := .bool true) rfl (by kernel_rfl) (by kernel_rfl) (by kernel_rfl) (fun _ _ _ h => h) (Or.inl ⟨by rfl, ?_⟩) (by assumption) ?_
  · intro w hSw
    try dsimp only at hSw
    go_simp
  try simp only [Act.put, List.setIfInBounds_toArray, List.set_cons_zero, List.set_cons_succ]
  refine wpAnyH_take (i := 25) (oi := { dst := some 93, op := Op.pick (Operand.tmp 86) (Operand.tmp 92) (Operand.const (Value.bool false)), type := 4, pos := "law.go:73", after := #[{ on := 18, ground := Ground.data }, { on := 24, ground := Ground.data }], guard := none }) (v := .bool true) rfl (by kernel_rfl) (by kernel_rfl) (by kernel_rfl) (fun _ _ _ h => h) (Or.inl ⟨by rfl, ?_⟩) (by assumption) ?_
  · intro w hSw
    try dsimp only at hSw
    go_simp
  try simp only [Act.put, List.setIfInBounds_toArray, List.set_cons_zero, List.set_cons_succ]
  refine wpAnyH_take (i := 26) (oi := { dst := some 12, op := Op.assign (Operand.tmp 93), type := 4, pos := "law.go:73", after := #[{ on := 25, ground := Ground.data }, { on := 20, ground := Ground.chain }, { on := 0, ground := Ground.phase }, { on := 1, ground := Ground.phase }, { on := 2, ground := Ground.phase }, { on := 3, ground := Ground.phase }, { on := 4, ground := Ground.phase }, { on := 5, ground := Ground.phase }, { on := 6, ground := Ground.phase }, { on := 7, ground := Ground.phase }, { on := 8, ground := Ground.phase }, { on := 9, ground := Ground.phase }, { on := 10, ground := Ground.phase }, { on := 11, ground := Ground.phase }, { on := 12, ground := Ground.phase }, { on := 13, ground := Ground.phase }, { on := 14, ground := Ground.phase }, { on := 15, ground := Ground.phase }, { on := 16, ground := Ground.phase }, { on := 17, ground := Ground.phase }, { on := 18, ground := Ground.phase }, { on := 19, ground := Ground.phase }, { on := 20, ground := Ground.phase }, { on := 21, ground := Ground.phase }, { on := 22, ground := Ground.phase }, { on := 23, ground := Ground.phase }, { on := 24, ground := Ground.phase }, { on := 25, ground := Ground.phase }], guard := none }) (v := .bool true) rfl (by kernel_rfl) (by kernel_rfl) (by kernel_rfl) (fun _ _ _ h => h) (Or.inl ⟨by rfl, ?_⟩) (by assumption) ?_
  · intro w hSw
    try dsimp only at hSw
    go_simp
  try simp only [Act.put, List.setIfInBounds_toArray, List.set_cons_zero, List.set_cons_succ]
  refine wpAnyH_done (by kernel_rfl) ?_ _
  go_wp2
  go_ret
  exact ⟨rfl, HFIN.out _ (by (repeat (first | (with_reducible exact Below.refl _ _) | (with_reducible exact HB12.out) | (with_reducible exact HB11.out) | (with_reducible refine Below.drew ?_))))⟩

set_option maxRecDepth 100000 in
theorem lifted (os : Os) (started : os.Started) (H : Type) (enc : TypeId × Value → H) :
    ReturnsInHanded {} Tryz.checked os 3 .any (fun w args => (Rows.batchTalkSpec.pre enc Tryz.prog Tryz.f3 [] false w args ∧ laidMetH Tryz.prog laid5 w) ∧ sizedMet enc Tryz.prog Tryz.f3 (OpenSpec.ofChange Rows.batchTalkSpec) false w args) (Rows.batchTalkSpec.post enc Tryz.prog Tryz.f3 false true false false) := by
  refine returnsInHanded_of_change_and (C := Tryz.checked) (X := fun w _ => laidMetH Tryz.prog laid5 w) (fun _ _ _ hh h => h.of_heap hh) own started (by kernel_rfl) Tryz.func3
    (ChangeSpec.witness_shaped (enc := enc) (C := Tryz.checked) (os := os) (X := fun w _ => laidMetH Tryz.prog laid5 w) false (World.doorLaid Tryz.prog 400 os) #[.agg #[.int .i64 0, .int .i64 0], .slice none 0 0, .slice none 0 0, .int .u16 0, .int .u32 0, .int .u16 0] 8 rfl (World.shaped_of_RefB (by kernel_rfl) (by kernel_rfl)) (by kernel_rfl) (by kernel_rfl) (by kernel_rfl) (door5 os _)) ?_
  intro W base args ds gs before hval0 hW hcnd hsz0 hL _
  have hsz : (DataW.weightsEach Tryz.prog (Tryz.f3.params.toList ++ Rows.batchTalkSpec.plain.varTypes Tryz.prog) (ds ++ gs)).all (· ≤ reachBytes) = true := hsz0
  clear hsz0
  have hval : ∀ (j : Nat) t v, Tryz.f3.params[j]? = some t → args[j]? = some v → Value.okWide Tryz.prog W .any base t v := hval0
  have hW' := hW
  obtain ⟨p, q, hA0, hV, rfl, hfz, hnd⟩ := hW
  have hA : DataW.TrodAll enc Tryz.prog W 0 (fun _ => true) true Tryz.f3.params.toList args.toList ds p := hA0
  rw [Tryz.params3] at hA hval hsz
  obtain ⟨v0, vs0, d0, ds0, p0, q0, hargs, rfl, rfl, h0, r0⟩ := trodAll_cons hA
  obtain ⟨v1, vs1, d1, ds1, p1, q1, rfl, rfl, rfl, h1, r1⟩ := trodAll_cons r0
  obtain ⟨v2, vs2, d2, ds2, p2, q2, rfl, rfl, rfl, h2, r2⟩ := trodAll_cons r1
  obtain ⟨v3, vs3, d3, ds3, p3, q3, rfl, rfl, rfl, h3, r3⟩ := trodAll_cons r2
  obtain ⟨v4, vs4, d4, ds4, p4, q4, rfl, rfl, rfl, h4, r4⟩ := trodAll_cons r3
  obtain ⟨v5, vs5, d5, ds5, p5, q5, rfl, rfl, rfl, h5, r5⟩ := trodAll_cons r4
  obtain ⟨rfl, rfl, rfl⟩ := trodAll_nil r5
  obtain rfl : args = #[v0, v1, v2, v3, v4, v5] := by cases args; simp_all
  obtain ⟨rfl, rfl⟩ := trodVars_none hV
  have k0 := h0
  have lt0 : ∀ x ∈ p0, x.block < W.heap.size := by obtain ⟨m, hm⟩ := k0; exact DataW.trod_lt m _ _ _ hm
  have k1 := h1
  have lt1 : ∀ x ∈ p1, x.block < W.heap.size := by obtain ⟨m, hm⟩ := k1; exact DataW.trod_lt m _ _ _ hm
  have k2 := h2
  have lt2 : ∀ x ∈ p2, x.block < W.heap.size := by obtain ⟨m, hm⟩ := k2; exact DataW.trod_lt m _ _ _ hm
  have k3 := h3
  have lt3 : ∀ x ∈ p3, x.block < W.heap.size := by obtain ⟨m, hm⟩ := k3; exact DataW.trod_lt m _ _ _ hm
  have k4 := h4
  have lt4 : ∀ x ∈ p4, x.block < W.heap.size := by obtain ⟨m, hm⟩ := k4; exact DataW.trod_lt m _ _ _ hm
  have k5 := h5
  have lt5 : ∀ x ∈ p5, x.block < W.heap.size := by obtain ⟨m, hm⟩ := k5; exact DataW.trod_lt m _ _ _ hm
  obtain ⟨y0, z0, rfl, w0, u0⟩ := open_two Tryz.underlying23 ⟨rfl, rfl⟩ ⟨rfl, rfl⟩ Tryz.underlying3 (by kernel_rfl) (by kernel_rfl) (hval 0 23 v0 rfl rfl) h0
  obtain ⟨a1, n1, c1, b1, rfl, w1, l1, s1⟩ := open_bys Tryz.underlying24 Tryz.underlying5 (by kernel_rfl) (by kernel_rfl) (hval 1 24 v1 rfl rfl) (fun _ => rfl) h1 (fun el sp hd => sized_slice hsz (j := 1) (t := 24) (e := 5) rfl (by rw [hd]; rfl) Tryz.underlying24)
  obtain ⟨a2, n2, c2, b2, rfl, w2, l2, s2⟩ := open_bys Tryz.underlying24 Tryz.underlying5 (by kernel_rfl) (by kernel_rfl) (hval 2 24 v2 rfl rfl) (fun _ => rfl) h2 (fun el sp hd => sized_slice hsz (j := 2) (t := 24) (e := 5) rfl (by rw [hd]; rfl) Tryz.underlying24)
  obtain ⟨x3, rfl, rfl, rfl, w3⟩ := open_int Tryz.underlying25 (hval 3 25 v3 rfl rfl) h3
  obtain ⟨x4, rfl, rfl, rfl, w4⟩ := open_int Tryz.underlying26 (hval 4 26 v4 rfl rfl) h4
  obtain ⟨x5, rfl, rfl, rfl, w5⟩ := open_int Tryz.underlying25 (hval 5 25 v5 rfl rfl) h5
  clear hA0 hval0
  refine (walk y0 z0 a1 n1 c1 b1 a2 n2 c2 b2 x3 x4 x5 W (tabs5 hL) (errs5 hL) w0 u0 w1 l1 s1 w2 l2 s2 (wf_u16 w3) (wf_u32 w4) (wf_u16 w5)).mono fun e W' ⟨he, bel⟩ => ?_
  subst he
  exact ⟨_, rfl, _, _, _, [], _, [], hW', trodAll_mk1 (shut_bool Tryz.underlying4 _), (trodAll_cons_mk (Below.trod laidOut (by kernel_rfl) (of_decide_eq_true (by kernel_rfl)) k0 bel lt0) (trodAll_cons_mk (Below.trod laidOut (by kernel_rfl) (of_decide_eq_true (by kernel_rfl)) k1 bel lt1) (trodAll_cons_mk (Below.trod laidOut (by kernel_rfl) (of_decide_eq_true (by kernel_rfl)) k2 bel lt2) (trodAll_cons_mk (Below.trod laidOut (by kernel_rfl) (of_decide_eq_true (by kernel_rfl)) k3 bel lt3) (trodAll_cons_mk (Below.trod laidOut (by kernel_rfl) (of_decide_eq_true (by kernel_rfl)) k4 bel lt4) (trodAll_cons_mk (Below.trod laidOut (by kernel_rfl) (of_decide_eq_true (by kernel_rfl)) k5 bel lt5) trodAll_mk0)))))), rfl, bel.frame _, fun h => by cases h⟩

theorem over : Rows.batchTalkRow.holds Tryz.pinned (OpenSpec.ofChange Rows.batchTalkSpec) :=
  OpenClaim.holds_of_wide 3 Tryz.f3 rfl rfl rfl rfl rfl rfl rfl ⟨rfl, rfl, rfl, rfl, rfl⟩ rfl rfl rfl rfl rfl (by kernel_rfl) Tryz.func3 (by kernel_rfl)
    (of_decide_eq_true (by kernel_rfl)) (by unfold Func.isWrapper; first | (rw [if_pos (by decide +kernel)]; kernel_rfl) | (rw [if_neg (by decide +kernel)]; exact ⟨rfl, rfl⟩))
    (fun os started H enc _ => lifted os started H enc)

/-- The card: what the row lists is tied to the program's own text. -/
theorem proved : Rows.BatchTalkCardSaid :=
  Claim7.holds_tied_plain_at .later [] [.data, .data, .data, .sentinel, .sentinel] true Rows.batchTalkCard.stood.harness true
    over (fun _ h => by cases h) (by kernel_rfl) (fun _ h => by cases h) batchTalk_row_tie rfl ⟨rfl, rfl⟩ (by kernel_rfl) rfl
    (fun f fn hf hfn => by
      obtain rfl : f = 3 := Option.some.inj ((show Tryz.prog.funcNamed "lifeline/lifelinelaw13.BatchTalk" = some 3 by kernel_rfl).symm.trans hf) |>.symm
      obtain rfl : fn = Tryz.f3 := (Option.some.inj (Tryz.func3.symm.trans hfn)).symm
      exact ⟨by kernel_rfl, fun j t ht => by
        rw [Tryz.params3] at ht
        have hm : t ∈ [23, 24, 24, 25, 26, 25] := by simpa using Array.mem_of_getElem? ht
        have hall : ([23, 24, 24, 25, 26, 25].all fun u => !Tryz.prog.wantsStandIn u) = true := by kernel_rfl
        exact (show Tryz.prog.wantsStandIn t = false by simpa using List.all_eq_true.1 hall t hm)⟩)
    (by kernel_rfl)
end Go.Proofs.YtgdjopiejmdbnaaGreatDoor.batchTalk
