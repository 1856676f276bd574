/-
  A board's memory: what package store's functions answer, over a list of 16384 bytes.
-/
import Derived.Test.YtonloefjhofeeaaGreatDoorMake
import Derived.Test.YtonloefjhofeeaaGreatDoorSumC
import Derived.Laws.CopyOwn
namespace Go.Proofs.YtonloefjhofeeaaGreatDoor
open Go.RowKit
set_option linter.unusedVariables false

/-! ### Plain -/
/-- n bytes from a on. -/
def getL (cs : List UInt8) (a n : Nat) : List UInt8 := (cs.drop a).take n
theorem getL_len {cs : List UInt8} {a n : Nat} (h : a + n ≤ cs.length) : (getL cs a n).length = n := by simp [getL]; omega
theorem getL_at (cs : List UInt8) (a n i : Nat) : (getL cs a n)[i]? = if i < n then cs[a + i]? else none := by
  unfold getL
  by_cases h : i < n
  · rw [if_pos h, List.getElem?_take_of_lt h, List.getElem?_drop]
  · rw [if_neg h, List.getElem?_eq_none (by rw [List.length_take]; omega)]
theorem splice_at {cs bs : List UInt8} {a : Nat} (i : Nat) (h : a + bs.length ≤ cs.length) : (splice cs a bs)[i]? = if a ≤ i ∧ i < a + bs.length then bs[i - a]? else cs[i]? := by
  unfold splice
  have hl : (cs.take a).length = a := by rw [List.length_take]; omega
  by_cases h1 : i < a
  · rw [List.getElem?_append_left (by omega), if_neg (by omega), List.getElem?_take_of_lt h1]
  · rw [List.getElem?_append_right (by omega), hl]
    by_cases h2 : i < a + bs.length
    · rw [List.getElem?_append_left (by omega), if_pos (by omega)]
    · rw [List.getElem?_append_right (by omega), if_neg (by omega), List.getElem?_drop]
      congr 1
      omega
theorem get_put {cs bs : List UInt8} {a : Nat} (h : a + bs.length ≤ cs.length) : getL (splice cs a bs) a bs.length = bs := by
  apply List.ext_getElem?
  intro i
  rw [getL_at, splice_at _ h]
  by_cases hi : i < bs.length
  · rw [if_pos hi, if_pos (by omega), show a + i - a = i by omega]
  · rw [if_neg hi, List.getElem?_eq_none (by omega)]
theorem get_far {cs bs : List UInt8} {a b n : Nat} (h : a + bs.length ≤ cs.length) (hf : b + n ≤ a ∨ a + bs.length ≤ b) : getL (splice cs a bs) b n = getL cs b n := by
  apply List.ext_getElem?
  intro i
  rw [getL_at, getL_at]
  by_cases hi : i < n
  · rw [if_pos hi, if_pos hi, splice_at _ h, if_neg (by omega)]
  · rw [if_neg hi, if_neg hi]

/-! ### A Store in memory -/
/-- A Store lies in block G. -/
structure Sto (w : World) (G : Nat) (cs : List UInt8) : Prop where
  blk : Blk w G 75 (byteVals cs)
  len : cs.length = 16384
namespace Sto
variable {w w' : World} {G : Nat} {cs : List UInt8}
theorem lt (h : Sto w G cs) : G < w.heap.size := h.blk.lt
theorem alloc (h : Sto w G cs) (o : Obj) : Sto (w.alloc o) G cs := ⟨h.blk.alloc o, h.len⟩
theorem drew (h : Sto w G cs) : Sto w.drew G cs := ⟨h.blk, h.len⟩
theorem drewN (h : Sto w G cs) (n : Nat) : Sto (w.drewN n) G cs := ⟨h.blk, h.len⟩
theorem turn {S : Nat → Prop} (h : Sto w G cs) (ht : Turn S w w') (hg : ¬ S G) : Sto w' G cs := ⟨ht.blk h.blk hg, h.len⟩
theorem below {B : Nat} (h : Sto w G cs) (hb : Below B w w') (hg : G < B) : Sto w' G cs := ⟨h.blk.below hb hg, h.len⟩
theorem far (h : Sto w G cs) {p : Addr} (hp : G ≠ p.block) (u : Value) : Sto (w.setCell p u) G cs := ⟨h.blk.far hp u, h.len⟩
theorem bys (h : Sto w G cs) : Bys w (G + 1) (some ⟨G, 0, none⟩) 16384 cs := by
  refine ⟨h.len, by unfold maxLen; omega, fun k c hk => ⟨_, rfl, Nat.lt_succ_self _, ?_⟩⟩
  have e : (⟨G, 0, none⟩ : Addr).add k = ⟨G, k, none⟩ := by unfold Addr.add; split <;> simp_all
  rw [e, h.blk.cell]
  simp [byteVals, hk]
end Sto
theorem turn_row {S : Nat → Prop} {a w : World} {g : Nat} (h : Turn S a w) (hg : S g) (cs : Array Value) : Turn S a (w.setRow g cs) :=
  ⟨h.os, h.tape, h.output, by simpa [World.setRow] using h.size, fun i hi hne => (setRow_other w g i cs (fun e => hne (e ▸ hg))).trans (h.block i hi hne)⟩

/-- copy into a row that is known whole, told by the blocks that turn. -/
theorem wpList_copy_turn {P : Program} {w : World} {ops : Array Oper} {rest : List Oper} {o : Oper} {a : Act} {Q : Exit → Act → World → Prop} (hgd : o.guard = none) (d s : Operand) (dT sT : TypeId)
    (ho : o.op = .call { callee := .builtin .copy, args := #[d, s], argTypes := #[dT, sT] }) (elem : TypeId) (hu : P.underlying dT = some (.slice elem)) (hsz : (P.info? elem).map (·.size) = some 1)
    (dp sp : Option Addr) (dLen dCap sLen sCap : Nat) (hd : a.eval d = .slice dp dLen dCap) (hs : a.eval s = .slice sp sLen sCap)
    (g off : Nat) (cur : List UInt8) (t : TypeId) (hg : Blk w g t (byteVals cur)) (bs : List UInt8) (hn : bs.length = Nat.min sLen dLen)
    (hpos : 0 < bs.length → dp = some ⟨g, off, none⟩ ∧ ∃ ad, sp = some ad ∧ ∀ j v, (bs.map byteV)[j]? = some v → w.cell? (ad.add j) = some v)
    (hfit : off + bs.length ≤ cur.length)
    (h : ∀ w', Hid (Blk w' g t (byteVals (splice cur off bs))) → Turn (fun i => i = g) w w' → wpList P ops Q rest (a.put o.dst (goInt bs.length)) w') :
    wpList P ops Q (o :: rest) a w := by
  have hbv : ∀ l : List UInt8, (l.map byteV).toArray = byteVals l := fun l => by simp [byteVals, byteV]
  have hspl : ((byteVals cur).toList.take off ++ (bs.map byteV ++ (byteVals cur).toList.drop (off + (bs.map byteV).length))).toArray = byteVals (splice cur off bs) := by
    rw [← hbv, ← hbv]
    unfold splice
    simp
  by_cases h0 : bs.length = 0
  · obtain rfl : bs = [] := List.eq_nil_of_length_eq_zero h0
    refine wpList_copy_nothing hgd d s dT sT ho elem hu hsz dp sp dLen dCap sLen sCap hd hs (by simpa using hn.symm) ?_
    exact h w (show Blk _ _ _ _ by simpa [splice] using hg) (Turn.refl _ _)
  · obtain ⟨rfl, ad, rfl, hsrc⟩ := hpos (by omega)
    refine wpList_copy_own hgd d s dT sT ho elem hu hsz g off dLen dCap ad sLen sCap hd hs (byteVals cur) t hg (bs.map byteV) (by simpa using hn) hsrc (by simpa [byteVals] using hfit) (byteV_one _) ?_
    rw [hspl, List.length_map]
    exact h _ (Blk.row hg _) (turn_row (S := fun i => i = g) (Turn.refl _ _) rfl _)

theorem bsrc {w : World} {B n : Nat} {ad : Addr} {bs : List UInt8} (h : Bys w B (some ad) n bs) : ∀ (j : Nat) (v : Value), (bs.map byteV)[j]? = some v → w.cell? (ad.add j) = some v := by
  intro j v hj
  rw [List.getElem?_map] at hj
  obtain ⟨z, hz, rfl⟩ := Option.map_eq_some_iff.1 hj
  obtain ⟨ad', e, _, hcell⟩ := h.2.2 j z hz
  obtain rfl := Option.some.inj e
  exact hcell

/-! ### A new Store -/
theorem byteVals_zeros (N : Nat) : Array.replicate N (Value.int .u8 0) = zrow N := by
  apply Array.ext'
  simp [zrow, byteVals, zeros]
set_option maxRecDepth 1000000 in
theorem zero_store : (Tryz.prog.info? 75).map (fun i => i.zero) = some (some (.agg (Array.replicate 16384 (.int .u8 0)))) := by kernel_rfl
theorem parts_store : ∃ fs : Array Field, Tryz.prog.underlying 75 = some (.struct fs) ∧ (fs.toList.mapM (fun f => (Tryz.prog.info? f.type).map fun i => (f.offset, i.size))).isSome = true := ⟨_, Tryz.underlying75, by kernel_rfl⟩
theorem built_zero {P : Program} {t : TypeId} {fs : Array Field} (hu : P.underlying t = some (.struct fs)) (hf : (fs.toList.mapM (fun f => (P.info? f.type).map fun i => (f.offset, i.size))).isSome = true) (Z : Array Value)
    (hz : (P.info? t).map (fun i => i.zero) = some (some (.agg Z))) : P.built t [] = some Z := by
  obtain ⟨i, hi⟩ : ∃ i, P.info? t = some i := by
    cases h : P.info? t with
    | none => rw [h] at hz; cases hz
    | some i => exact ⟨i, rfl⟩
  rw [hi] at hz
  simp only [Option.map_some, Option.some.injEq] at hz
  obtain ⟨pl, hp⟩ := Option.isSome_iff_exists.1 hf
  unfold Program.built
  simp only [hi, hu, hz, hp]
  rfl
theorem build_store (w : World) : (Instr.build 75 #[]).run Tryz.prog w = .ok (.agg (zrow 16384)) w := by
  obtain ⟨fs, hu, hf⟩ := parts_store
  have hz := zero_store
  rw [byteVals_zeros] at hz
  exact run_build w 75 #[] (zrow 16384) (built_zero hu hf _ hz)
theorem zero_at {P : Program} {t : TypeId} {Z : Value} (hz : (P.info? t).map (fun i => i.zero) = some (some Z)) (w : World) : (zeroValue t).run P w = .ok Z w := by
  obtain ⟨i, hi⟩ : ∃ i, P.info? t = some i := by
    cases h : P.info? t with
    | none => rw [h] at hz; cases hz
    | some i => exact ⟨i, rfl⟩
  rw [hi] at hz
  simp only [Option.map_some, Option.some.injEq] at hz
  simp [zeroValue, typeInfo, hi, hz]
theorem zero_run (w : World) : (zeroValue 75).run Tryz.prog w = .ok (.agg (zrow 16384)) w := by
  have hz := zero_store
  rw [byteVals_zeros] at hz
  exact zero_at hz w
theorem size_store : (Tryz.prog.info? 75).map (·.size) = some 16384 := by kernel_rfl
theorem size8s : (Tryz.prog.info? 5).map (·.size) = some 1 := by kernel_rfl

/-! ### The functions -/
set_option maxRecDepth 100000 in
theorem fit_any (a n : Int) (ha : -9223372036854775808 ≤ a ∧ a ≤ 9223372036854775807) (hn : -9223372036854775808 ≤ n ∧ n ≤ 9223372036854775807) (w : World) :
    Calls Tryz.prog 39 #[.int .i64 a, .int .i64 n] w fun e w' => e = .returned (.bool (decide (0 ≤ a ∧ 0 ≤ n ∧ a + n ≤ 16384))) ∧ w = w' := by
  by_cases h1 : 0 ≤ a
  · by_cases h2 : 0 ≤ n
    · have hw : IntKind.i64.wrap (16384 - n) = 16384 - n := by rw [IntKind.wrap_i64]; omega
      by_cases h3 : a ≤ 16384 - n
      · have hd : decide (0 ≤ a ∧ 0 ≤ n ∧ a + n ≤ 16384) = true := decide_eq_true (by omega)
        rw [hd]
        clear hd ha hn
        go_enter Tryz.func39, Tryz.ntmps39
        go_wp2
        go_ret
        exact ⟨rfl, rfl⟩
      · have hd : decide (0 ≤ a ∧ 0 ≤ n ∧ a + n ≤ 16384) = false := decide_eq_false (by omega)
        rw [hd]
        clear hd ha hn
        go_enter Tryz.func39, Tryz.ntmps39
        go_wp2
        go_ret
        exact ⟨rfl, rfl⟩
    · have hd : decide (0 ≤ a ∧ 0 ≤ n ∧ a + n ≤ 16384) = false := decide_eq_false (by omega)
      rw [hd]
      clear hd ha hn
      go_enter Tryz.func39, Tryz.ntmps39
      go_wp2
      go_ret
      exact ⟨rfl, rfl⟩
  · have hd : decide (0 ≤ a ∧ 0 ≤ n ∧ a + n ≤ 16384) = false := decide_eq_false (by omega)
    rw [hd]
    clear hd ha hn
    go_enter Tryz.func39, Tryz.ntmps39
    go_wp2
    go_ret
    exact ⟨rfl, rfl⟩

set_option maxRecDepth 100000 in
theorem swrite_no (p : Value) (a : Int) (A : Option Addr) (n c : Nat) (w : World) (ha : -9223372036854775808 ≤ a ∧ a ≤ 9223372036854775807) (hn : n ≤ 9223372036854775807) (hno : a < 0 ∨ 16384 < a + n) :
    Calls Tryz.prog 22 #[p, .int .i64 a, .slice A n c] w fun e w' => e = .returned (.bool false) ∧ w = w' := by
  have hf := fit_any a n ha (by omega)
  rw [decide_eq_false (by omega)] at hf
  have HF := keepHid hf
  clear hf ha hno hn
  go_enter Tryz.func22, Tryz.ntmps22
  go_wp2_with fail
  refine (HF.out _).mono ?_
  rintro e w1 ⟨rfl, rfl⟩
  go_wp2
  go_ret
  exact ⟨rfl, rfl⟩

set_option maxRecDepth 100000 in
theorem swrite_ok (G : Nat) (cs : List UInt8) (k : Nat) (A : Option Addr) (n c B : Nat) (bs : List UInt8) (w : World) (hs : Sto w G cs) (h : Bys w B A n bs) (hk : k + n ≤ 16384) :
    Calls Tryz.prog 22 #[.pointer (some ⟨G, 0, none⟩), .int .i64 (k : Int), .slice A n c] w fun e w' => e = .returned (.bool true) ∧ Sto w' G (splice cs k bs) ∧ Turn (fun i => i = G) w w' := by
  have hf := fit_any (k : Int) n (by omega) (by omega)
  rw [decide_eq_true (by omega)] at hf
  have HF := keepHid hf
  have HS := keepHid hs
  have H := keepHid h
  have HL := keepHid h.len
  have HCL := keepHid hs.len
  have hkl : (k : Int) ≤ 16384 := by omega
  clear hf hs h
  go_enter Tryz.func22, Tryz.ntmps22
  go_wp2_with fail
  refine (HF.out _).mono ?_
  rintro e w1 ⟨rfl, rfl⟩
  go_wp2_with ((with_reducible show wpList _ _ _ _ _ _); (refine wpList_copy_turn rfl (.tmp 16) (.tmp 17) 31 31 rfl 5 Tryz.underlying31 size8s _ _ _ _ _ _ (by rfl) (by rfl) G k cs 75 HS.out.blk bs ?c1 ?c2 ?c3 ?_))
  all_goals first
    | exact (HL.out.trans (Nat.min_eq_left (by omega)).symm)
    | (rw [HL.out, HCL.out]; omega)
    | exact List.eq_nil_of_length_eq_zero (by rw [HL.out]; omega)
    | (intro hp
       rw [HL.out] at hp
       obtain ⟨ad, _, ha, _⟩ := H.out.at_ hp
       subst ha
       exact ⟨ad, rfl, fun j a hj => bsrc H.out j _ (by rw [List.getElem?_map, hj]; rfl)⟩)
    | (intro w2 HG2 hT2
       have HT2 := keepHid hT2
       clear hT2
       go_wp2
       go_ret
       exact ⟨rfl, ⟨HG2.out, by have h1 := length_splice cs k bs (by rw [HL.out, HCL.out]; omega); rw [h1]; exact HCL.out⟩, HT2.out⟩)

set_option maxRecDepth 100000 in
theorem sread_no (p : Value) (a n : Int) (w : World) (ha : -9223372036854775808 ≤ a ∧ a ≤ 9223372036854775807) (hn : -9223372036854775808 ≤ n ∧ n ≤ 9223372036854775807) (hno : a < 0 ∨ n < 0 ∨ 16384 < a + n) :
    Calls Tryz.prog 23 #[p, .int .i64 a, .int .i64 n] w fun e w' => e = .returned (.tuple #[.slice none 0 0, .bool false]) ∧ w = w' := by
  have hf := fit_any a n ha hn
  rw [decide_eq_false (by omega)] at hf
  have HF := keepHid hf
  clear hf ha hno hn
  go_enter Tryz.func23, Tryz.ntmps23
  go_wp2_with fail
  refine (HF.out _).mono ?_
  rintro e w1 ⟨rfl, rfl⟩
  go_wp2
  go_ret2
  exact ⟨rfl, rfl⟩

theorem splice_zeros {n : Nat} {bs : List UInt8} (h : bs.length = n) : splice (zeros n) 0 bs = bs := by
  unfold splice
  rw [List.take_zero, List.nil_append, Nat.zero_add, List.drop_eq_nil_of_le (by rw [zeros_len, h]; exact Nat.le_refl _), List.append_nil]

set_option maxRecDepth 100000 in
theorem sread_ok (G : Nat) (cs : List UInt8) (k n : Nat) (w : World) (hs : Sto w G cs) (hk : k + n ≤ 16384) :
    Calls Tryz.prog 23 #[.pointer (some ⟨G, 0, none⟩), .int .i64 (k : Int), .int .i64 (n : Int)] w fun e w' =>
      e = .returned (.tuple #[.slice (some ⟨w.heap.size, 0, none⟩) n n, .bool true]) ∧ Blk w' w.heap.size 5 (byteVals (getL cs k n)) ∧ Below w.heap.size w w' := by
  have hf := fit_any (k : Int) n (by omega) (by omega)
  rw [decide_eq_true (by omega)] at hf
  have HF := keepHid hf
  have hmk := run_mkbs (n : Int) (n : Int) n n rfl rfl (Nat.le_refl _) (by omega) w
  obtain ⟨w1, hw1⟩ : ∃ w1, w.alloc (.cells (zrow n) 5) = w1 := ⟨_, rfl⟩
  rw [hw1] at hmk
  have HK1 : Hid (Blk w1 w.heap.size 5 (byteVals (zeros n))) := keepHid (by rw [← hw1]; exact Blk.new w _ _)
  have HB1 : Hid (Below w.heap.size w w1) := keepHid (by rw [← hw1]; exact (Below.refl _ _).alloc (Nat.le_refl _) _)
  have HS1 := keepHid (hs.below HB1.out hs.lt)
  have hcl := hs.len
  have HCL := keepHid hcl
  obtain ⟨bs, hbs⟩ : ∃ bs, getL cs k n = bs := ⟨_, rfl⟩
  have hbl : bs.length = n := by rw [← hbs]; exact getL_len (by rw [hcl]; exact hk)
  have HL := keepHid hbl
  have hsrc : ∀ (j : Nat) (a : UInt8), bs[j]? = some a → w1.cell? ⟨G, k + j, none⟩ = some (byteV a) := fun j a hj => by
    have hj2 : cs[k + j]? = some a := by
      rw [← hbs, getL_at] at hj
      split at hj
      · exact hj
      · cases hj
    rw [HS1.out.blk.cell]
    simp [byteVals, hj2, byteV]
  have HSRC := keepHid hsrc
  rw [hbs]
  have hkl : (k : Int) ≤ 16384 := by omega
  clear hf hs hw1 hcl hbl hbs hsrc
  have HBS : Hid (splice (zeros n) 0 bs = bs) := keepHid (splice_zeros HL.out)
  go_enter Tryz.func23, Tryz.ntmps23
  go_wp2_with fail
  refine (HF.out _).mono ?_
  rintro e w2 ⟨rfl, rfl⟩
  go_wp2_with ((with_reducible show wpList _ _ _ _ _ _); (refine wpList_copy_turn rfl (.tmp 15) (.tmp 20) 31 31 rfl 5 Tryz.underlying31 size8s _ _ _ _ _ _ (by rfl) (by rfl) w.heap.size 0 (zeros n) 5 HK1.out bs ?c1 ?c2 ?c3 ?_))
  all_goals first
    | exact (HL.out.trans (Nat.min_eq_right (by omega)).symm)
    | (rw [HL.out, zeros_len]; omega)
    | exact List.eq_nil_of_length_eq_zero (by rw [HL.out]; omega)
    | (intro hp j a hj
       have e : (⟨G, k, none⟩ : Addr).add j = ⟨G, k + j, none⟩ := by unfold Addr.add; split <;> simp_all
       first | exact HSRC.out j a hj | (rw [e]; exact HSRC.out j a hj) | (exfalso; rw [HL.out] at hp; omega))
    | (intro w3 HG3 hT3
       have HB3 := keepHid (HB1.out.trans (hT3.below (B := w.heap.size) (fun i hi => Nat.le_of_eq hi.symm) HB1.out.size))
       clear hT3
       rw [HBS.out] at HG3
       go_wp2
       go_ret2
       exact ⟨rfl, HG3.out, HB3.out⟩)

theorem add_at (g k j : Nat) : (⟨g, k, none⟩ : Addr).add j = ⟨g, k + j, none⟩ := by unfold Addr.add; split <;> simp_all

set_option maxRecDepth 100000 in
theorem sprint_no (p : Value) (a n : Int) (w : World) (ha : -9223372036854775808 ≤ a ∧ a ≤ 9223372036854775807) (hn : -9223372036854775808 ≤ n ∧ n ≤ 9223372036854775807) (hno : a < 0 ∨ n < 0 ∨ 16384 < a + n) :
    Calls Tryz.prog 84 #[p, .int .i64 a, .int .i64 n] w fun e w' => e = .returned (.tuple #[.int .u32 0, .bool false]) ∧ w = w' := by
  have hf := fit_any a n ha hn
  rw [decide_eq_false (by omega)] at hf
  have HF := keepHid hf
  clear hf ha hno hn
  go_enter Tryz.func84, Tryz.ntmps84
  go_wp2_with fail
  refine (HF.out _).mono ?_
  rintro e w1 ⟨rfl, rfl⟩
  go_wp2
  go_ret2
  exact ⟨rfl, rfl⟩

theorem arr_at : Tryz.prog.underlying 73 = some (.array (Tryz.prog.arrayLen 73) (Tryz.prog.elem 73)) := by kernel_rfl
theorem arr_len : Tryz.prog.arrayLen 73 = 16384 := by kernel_rfl
theorem arr_elem (w : World) : (sizeOf (Tryz.prog.elem 73)).run Tryz.prog w = .ok 1 w := by kernel_rfl
theorem run_cutarr (G k n : Nat) (hk : k + n ≤ 16384) (w : World) :
    (Instr.sliceAt 73 (.pointer (some ⟨G, 0, none⟩)) (some (.int .i64 (k : Int))) (some (.int .i64 ((k : Int) + (n : Int)))) none).run Tryz.prog w =
      .ok (.slice (if 16384 = k then some ⟨G, 0, none⟩ else some ⟨G, k, none⟩) n (16384 - k)) w := by
  rw [run_sliceAt_array_lh (P := Tryz.prog) (w := w) 73 ⟨G, 0, none⟩ arr_at .i64 .i64 (k : Int) ((k : Int) + (n : Int)) (by omega) (by omega) (by rw [arr_len]; omega), arr_elem, arr_len]
  have e1 : ((k : Int)).toNat = k := by omega
  have e2 : ((k : Int) + (n : Int)).toNat = k + n := by omega
  have e3 : (⟨G, 0, none⟩ : Addr).add k = ⟨G, k, none⟩ := by rw [add_at, Nat.zero_add]
  simp only [Result.andThen, slicedAt, e1, e2, Nat.mul_one, e3, Nat.add_sub_cancel_left]
  split <;> rfl

set_option maxRecDepth 100000 in
theorem sprint_ok (G : Nat) (cs : List UInt8) (k n : Nat) (w : World) (hs : Sto w G cs) (hk : k + n ≤ 16384) :
    Calls Tryz.prog 84 #[.pointer (some ⟨G, 0, none⟩), .int .i64 (k : Int), .int .i64 (n : Int)] w fun e w' =>
      e = .returned (.tuple #[.int .u32 (prNum (prL (getL cs k n)) : Nat), .bool true]) ∧ Below w.heap.size w w' := by
  have hf := fit_any (k : Int) n (by omega) (by omega)
  rw [decide_eq_true (by omega)] at hf
  have HF := keepHid hf
  have hlt := hs.lt
  have hb : Bys w w.heap.size (if 16384 = k then some ⟨G, 0, none⟩ else some ⟨G, k, none⟩) n (getL cs k n) := by
    have h := ((hs.bys.more hlt).cut (k := k) (cap := 16384) (by omega) (Nat.le_refl _)).head (k := n) (by omega)
    have e : (⟨G, 0, none⟩ : Addr).add k = ⟨G, k, none⟩ := by unfold Addr.add; split <;> simp_all
    rw [Option.map_some, e] at h
    exact h
  have HBY := keepHid hb
  have hkl : (k : Int) ≤ 16384 := by omega
  have hkn : (k : Int) + n ≤ 16384 := by omega
  have hkk : (k : Int) ≤ k + n := by omega
  clear hf hs hb
  have hcut := run_cutarr G k n hk w
  generalize (if 16384 = k then some (⟨G, 0, none⟩ : Addr) else some ⟨G, k, none⟩) = DP at *
  go_enter Tryz.func84, Tryz.ntmps84
  go_wp2_with fail
  refine (HF.out _).mono ?_
  rintro e w2 ⟨rfl, rfl⟩
  go_wp2_with fail
  refine (print_any _ _ _ _ _ HBY.out).mono ?_
  rintro e w3 ⟨rfl, hb3⟩
  have HB3 := keepHid hb3
  clear hb3
  go_wp2
  go_ret2
  exact ⟨rfl, HB3.out⟩

/-! ### The same, at numbers that stand otherwise -/
theorem swrite_z (G : Nat) (cs : List UInt8) (k : Nat) (z : Int) (hz : z = (k : Int)) (A : Option Addr) (n c B : Nat) (bs : List UInt8) (w : World) (hs : Sto w G cs) (h : Bys w B A n bs) (hk : k + n ≤ 16384) :
    Calls Tryz.prog 22 #[.pointer (some ⟨G, 0, none⟩), .int .i64 z, .slice A n c] w fun e w' => e = .returned (.bool true) ∧ Sto w' G (splice cs k bs) ∧ Turn (fun i => i = G) w w' := by
  subst hz; exact swrite_ok G cs k A n c B bs w hs h hk
theorem sread_z (G : Nat) (cs : List UInt8) (k n : Nat) (z y : Int) (hz : z = (k : Int)) (hy : y = (n : Int)) (w : World) (hs : Sto w G cs) (hk : k + n ≤ 16384) :
    Calls Tryz.prog 23 #[.pointer (some ⟨G, 0, none⟩), .int .i64 z, .int .i64 y] w fun e w' =>
      e = .returned (.tuple #[.slice (some ⟨w.heap.size, 0, none⟩) n n, .bool true]) ∧ Blk w' w.heap.size 5 (byteVals (getL cs k n)) ∧ Below w.heap.size w w' := by
  subst hz hy; exact sread_ok G cs k n w hs hk
theorem sprint_z (G : Nat) (cs : List UInt8) (k n : Nat) (z y : Int) (hz : z = (k : Int)) (hy : y = (n : Int)) (w : World) (hs : Sto w G cs) (hk : k + n ≤ 16384) :
    Calls Tryz.prog 84 #[.pointer (some ⟨G, 0, none⟩), .int .i64 z, .int .i64 y] w fun e w' =>
      e = .returned (.tuple #[.int .u32 (prNum (prL (getL cs k n)) : Nat), .bool true]) ∧ Below w.heap.size w w' := by
  subst hz hy; exact sprint_ok G cs k n w hs hk
theorem sto_new (w : World) (g : Nat) (hg : g = w.heap.size) (Z : Array Value) (hZ : zrow 16384 = Z) : Sto (w.alloc (.cells Z 75)) g (zeros 16384) := by
  subst hg hZ
  exact ⟨Blk.new w _ _, zeros_len _⟩
theorem get_put' {cs bs : List UInt8} {a n : Nat} (h : a + bs.length ≤ cs.length) (hn : bs.length = n) : getL (splice cs a bs) a n = bs := by subst hn; exact get_put h
theorem put_len {cs bs : List UInt8} {a : Nat} (h : a + bs.length ≤ 16384) (hl : cs.length = 16384) : (splice cs a bs).length = 16384 := by rw [length_splice _ _ _ (by omega)]; exact hl
theorem bys_blk {w : World} {g n : Nat} {bs : List UInt8} {t : TypeId} (h : Blk w g t (byteVals bs)) (hn : bs.length = n) (hm : n ≤ 9223372036854775807) : Bys w (g + 1) (some ⟨g, 0, none⟩) n bs := by
  refine ⟨hn, by unfold maxLen; omega, fun k c hk => ⟨_, rfl, Nat.lt_succ_self _, ?_⟩⟩
  rw [add_at, Nat.zero_add, h.cell]
  simp [byteVals, hk]
end Go.Proofs.YtonloefjhofeeaaGreatDoor
