/-
  A manifest's text: package manifest's line and Text.
-/
import Derived.Test.YtkhhcclomjfliaaGreatDoorManifestNum
import Derived.Test.YtkhhcclomjfliaaGreatDoorManifestWay
import Derived.Test.YtkhhcclomjfliaaGreatDoorTokenQuote
import Derived.Test.YtkhhcclomjfliaaGreatDoorBuilderS
import Derived.Lib.QuietBelow
import Derived.Deep.DeepCutAuto
namespace Go.Proofs.YtkhhcclomjfliaaGreatDoor
open Go.RowKit
set_option linter.unusedVariables false

theorem quoL_le : ∀ (l q : List UInt8), quoL l = some q → q.length ≤ 2 * l.length
  | [], q, h => by simp [quoL] at h; subst h; simp
  | c :: r, q, h => by
    simp only [quoL] at h
    split at h
    · rename_i x hx
      cases hr : quoL r with
      | none => rw [hr] at h; cases h
      | some y =>
        rw [hr] at h
        cases h
        have h1 := quoL_le r y hr
        have h2 : x.length ≤ 2 := by
          unfold quo1 at hx
          split at hx
          · cases hx; simp
          · split at hx
            · cases hx; simp
            · cases hx
        simp; omega
    · cases h
theorem quoE_len (l : List UInt8) : (quoE l).length ≤ 2 * l.length + 2 := by
  unfold quoE
  cases h : quoL l with
  | none => simp
  | some q => have := quoL_le l q h; simp; omega
theorem quoV_is (l : List UInt8) : ∃ b, quoV l = .tuple #[.string (strB (quoE l)), .bool b] := by
  unfold quoV quoE
  cases quoL l with
  | none => exact ⟨false, rfl⟩
  | some q => exact ⟨true, rfl⟩
theorem num_len {b : Nat} (hb : Base b) {n : Int} (h : -9223372036854775808 ≤ n ∧ n ≤ 9223372036854775807) : (numL b n).length ≤ 65 := by
  have h2 := hb.two
  have hp : (2 : Nat) ^ (63 + 1) ≤ b ^ (63 + 1) := Nat.pow_le_pow_left h2.1 _
  have hq : (2 : Nat) ^ (63 + 1) = 18446744073709551616 := by decide
  unfold numL
  split
  · have := digL_len h2.1 (-n).toNat 63 (Nat.lt_of_lt_of_le (by omega) hp)
    simp; omega
  · have := digL_len h2.1 n.toNat 63 (Nat.lt_of_lt_of_le (by omega) hp)
    omega
theorem way_len (w : Int) : (wayL w).length ≤ 5 := by
  unfold wayL
  split
  · decide
  · split
    · decide
    · split
      · decide
      · decide
theorem line_len {e : En} (h : EnF e) : (lineL e).length ≤ 2 * e.name.length + 240 := by
  have h1 := quoE_len e.name
  have h2 := num_len (.inr rfl) h.addr
  have h3 := num_len (.inl rfl) h.size
  have h4 := num_len (b := 16) (.inr rfl) (n := e.print) (by have := h.print; omega)
  have h5 := way_len e.way
  unfold lineL
  simp only [List.length_append, cImg, cAt, cSize, cPrint, cBy, List.length_cons, List.length_nil]
  omega
set_option maxRecDepth 100000 in
set_option maxHeartbeats 4000000 in
theorem line_any (e : En) (hF : EnF e) (hn : e.name.length ≤ 1048576) (w : World) (hT : NumT w) :
    Calls Tryz.prog 20 #[enV e] w fun r w' => r = .returned (.string (strB (lineL e))) ∧ Below w.heap.size w w' := by
  obtain ⟨bq, hbq⟩ := quoV_is e.name
  have HQ := keepHid (fun w => quote_any e.name hn w)
  rw [hbq] at HQ
  have hq := quoE_len e.name
  have hd1 := num_len (.inr rfl) hF.addr
  have hd2 := num_len (.inl rfl) hF.size
  have hd3 := num_len (b := 16) (.inr rfl) (n := e.print) (by have := hF.print; omega)
  have hd4 := way_len e.way
  have HA := keepHid (fun w hT => fmt16_any e.addr hF.addr w hT)
  have HS := keepHid (fun w hT => itoa_any e.size hF.size w hT)
  have HP := keepHid (fun w hT => fmtu_any e.print hF.print w hT)
  have HW := keepHid (fun w => word_any e.way w)
  have hpw : IntKind.u64.wrap e.print = e.print := by rw [IntKind.wrap_u64]; have := hF.print; omega
  have HL : Hid (lineL e = cImg ++ quoE e.name ++ cAt ++ numL 16 e.addr ++ cSize ++ numL 10 e.size ++ cPrint ++ numL 16 e.print ++ cBy ++ wayL e.way ++ [59, 10]) := keepHid rfl
  unfold enV enA
  generalize lineL e = LN at *
  generalize strB e.name = NM at *
  generalize quoE e.name = Q at *
  generalize numL 16 e.addr = D1 at *
  generalize numL 10 e.size = D2 at *
  generalize numL 16 e.print = D3 at *
  generalize wayL e.way = D4 at *
  have k1 : ∀ w, (Op.stringOp .add ⟨#[105, 109, 97, 103, 101, 32]⟩ (strB Q)).run Tryz.prog w = .ok (.string (strB (cImg ++ Q))) w := fun w => run_strAdd cImg Q (by simp [cImg]; omega) w
  have k2 : ∀ w, (Op.stringOp .add (strB (cImg ++ Q)) ⟨#[32, 97, 116, 32, 48, 120]⟩).run Tryz.prog w = .ok (.string (strB (cImg ++ Q ++ cAt))) w := fun w => run_strAdd _ cAt (by simp [cImg, cAt]; omega) w
  have k3 : ∀ w, (Op.stringOp .add (strB (cImg ++ Q ++ cAt)) (strB D1)).run Tryz.prog w = .ok (.string (strB (cImg ++ Q ++ cAt ++ D1))) w := fun w => run_strAdd _ D1 (by simp [cImg, cAt]; omega) w
  have k4 : ∀ w, (Op.stringOp .add (strB (cImg ++ Q ++ cAt ++ D1)) ⟨#[32, 115, 105, 122, 101, 32]⟩).run Tryz.prog w = .ok (.string (strB (cImg ++ Q ++ cAt ++ D1 ++ cSize))) w := fun w => run_strAdd _ cSize (by simp [cImg, cAt, cSize]; omega) w
  have k5 : ∀ w, (Op.stringOp .add (strB (cImg ++ Q ++ cAt ++ D1 ++ cSize)) (strB D2)).run Tryz.prog w = .ok (.string (strB (cImg ++ Q ++ cAt ++ D1 ++ cSize ++ D2))) w := fun w => run_strAdd _ D2 (by simp [cImg, cAt, cSize]; omega) w
  have k6 : ∀ w, (Op.stringOp .add (strB (cImg ++ Q ++ cAt ++ D1 ++ cSize ++ D2)) ⟨#[32, 112, 114, 105, 110, 116, 32, 48, 120]⟩).run Tryz.prog w = .ok (.string (strB (cImg ++ Q ++ cAt ++ D1 ++ cSize ++ D2 ++ cPrint))) w := fun w => run_strAdd _ cPrint (by simp [cImg, cAt, cSize, cPrint]; omega) w
  have k7 : ∀ w, (Op.stringOp .add (strB (cImg ++ Q ++ cAt ++ D1 ++ cSize ++ D2 ++ cPrint)) (strB D3)).run Tryz.prog w = .ok (.string (strB (cImg ++ Q ++ cAt ++ D1 ++ cSize ++ D2 ++ cPrint ++ D3))) w := fun w => run_strAdd _ D3 (by simp [cImg, cAt, cSize, cPrint]; omega) w
  have k8 : ∀ w, (Op.stringOp .add (strB (cImg ++ Q ++ cAt ++ D1 ++ cSize ++ D2 ++ cPrint ++ D3)) ⟨#[32, 98, 121, 32]⟩).run Tryz.prog w = .ok (.string (strB (cImg ++ Q ++ cAt ++ D1 ++ cSize ++ D2 ++ cPrint ++ D3 ++ cBy))) w := fun w => run_strAdd _ cBy (by simp [cImg, cAt, cSize, cPrint, cBy]; omega) w
  have k9 : ∀ w, (Op.stringOp .add (strB (cImg ++ Q ++ cAt ++ D1 ++ cSize ++ D2 ++ cPrint ++ D3 ++ cBy)) (strB D4)).run Tryz.prog w = .ok (.string (strB (cImg ++ Q ++ cAt ++ D1 ++ cSize ++ D2 ++ cPrint ++ D3 ++ cBy ++ D4))) w := fun w => run_strAdd _ D4 (by simp [cImg, cAt, cSize, cPrint, cBy]; omega) w
  have k10 : ∀ w, (Op.stringOp .add (strB (cImg ++ Q ++ cAt ++ D1 ++ cSize ++ D2 ++ cPrint ++ D3 ++ cBy ++ D4)) ⟨#[59, 10]⟩).run Tryz.prog w = .ok (.string (strB LN)) w := fun w => by rw [HL.out]; exact run_strAdd _ [59, 10] (by simp [cImg, cAt, cSize, cPrint, cBy]; omega) w
  generalize strB LN = SLN at *
  generalize strB (cImg ++ Q ++ cAt ++ D1 ++ cSize ++ D2 ++ cPrint ++ D3 ++ cBy ++ D4) = S9 at *
  generalize strB (cImg ++ Q ++ cAt ++ D1 ++ cSize ++ D2 ++ cPrint ++ D3 ++ cBy) = S8 at *
  generalize strB (cImg ++ Q ++ cAt ++ D1 ++ cSize ++ D2 ++ cPrint ++ D3) = S7 at *
  generalize strB (cImg ++ Q ++ cAt ++ D1 ++ cSize ++ D2 ++ cPrint) = S6 at *
  generalize strB (cImg ++ Q ++ cAt ++ D1 ++ cSize ++ D2) = S5 at *
  generalize strB (cImg ++ Q ++ cAt ++ D1 ++ cSize) = S4 at *
  generalize strB (cImg ++ Q ++ cAt ++ D1) = S3 at *
  generalize strB (cImg ++ Q ++ cAt) = S2 at *
  generalize strB (cImg ++ Q) = S1 at *
  generalize strB Q = SQ at *
  generalize strB D1 = E1 at *
  generalize strB D2 = E2 at *
  generalize strB D3 = E3 at *
  generalize strB D4 = E4 at *
  clear hq hd1 hd2 hd3 hd4 HL hbq hF hn
  generalize e.addr = AD at *
  generalize e.size = SZ at *
  generalize e.print = PR at *
  generalize e.way = WY at *
  obtain ⟨w1, hw1⟩ : ∃ w1, w.alloc (.cells #[.string NM, .int .i64 AD, .int .i64 SZ, .int .u32 PR, .int .i64 WY] 40) = w1 := ⟨_, rfl⟩
  have hK1 : Blk w1 w.heap.size 40 #[.string NM, .int .i64 AD, .int .i64 SZ, .int .u32 PR, .int .i64 WY] := by rw [← hw1]; exact Blk.new w _ _
  have hB1 : Below w.heap.size w w1 := by rw [← hw1]; exact (Below.refl _ _).alloc (Nat.le_refl _) _
  have hc0 : w1.cell? ⟨w.heap.size, 0, none⟩ = some (.string NM) := hK1.cell 0
  have HK1 := keepHid hK1
  have HB1 := keepHid hB1
  have HT1 := keepHid (hT.below hB1 (Nat.le_refl _))
  clear hK1 hB1 hT
  go_enter Tryz.func20, Tryz.ntmps20
  go_wp2_with fail
  refine (HQ.out _).mono ?_
  rintro r w2 ⟨rfl, hb2⟩
  have hK2 := HK1.out.below hb2 HK1.out.lt
  have HT2 := keepHid (HT1.out.below hb2 (Nat.le_refl _))
  have HB2 := keepHid (HB1.out.trans (hb2.mono HB1.out.size))
  generalize hG : w.heap.size = G at *
  have c1 := fun q os => cell_regrown (show w2.cell? ⟨G, 1, none⟩ = some (.int .i64 AD) from hK2.cell 1) q os
  have c2 := fun q os => cell_regrown (show w2.cell? ⟨G, 2, none⟩ = some (.int .i64 SZ) from hK2.cell 2) q os
  have c3 := fun q os => cell_regrown (show w2.cell? ⟨G, 3, none⟩ = some (.int .u32 PR) from hK2.cell 3) q os
  have c4 := fun q os => cell_regrown (show w2.cell? ⟨G, 4, none⟩ = some (.int .i64 WY) from hK2.cell 4) q os
  have CA := keepHid (fun d os => Calls.regrown_of (HA.out (Sort.grow (redrawn w2 d) os) (HT2.out.below (below_regrown w2 d os) (Nat.le_refl _))))
  have CS := keepHid (fun d os => Calls.regrown_of (HS.out (Sort.grow (redrawn w2 d) os) (HT2.out.below (below_regrown w2 d os) (Nat.le_refl _))))
  have CP := keepHid (fun d os => Calls.regrown_of (HP.out (Sort.grow (redrawn w2 d) os) (HT2.out.below (below_regrown w2 d os) (Nat.le_refl _))))
  have CW := keepHid (fun d os => Calls.regrown_of (HW.out (Sort.grow (redrawn w2 d) os)))
  clear hb2 hK2 hc0 hw1
  go_upto_region 2 with fail
  refine wp_region_quiet_below (by kernel_rfl) (by kernel_rfl) ?_
  repeat (go_big_quiet_step (first | (with_reducible exact CA.out _ _) | (with_reducible exact CS.out _ _) | (with_reducible exact CP.out _ _) | (with_reducible exact CW.out _ _)))
  refine wpQuiet_nil ?_
  intro _ hw'
  obtain ⟨⟨dq, osq⟩, hw''⟩ := hw'
  subst hw''
  have HB3 := keepHid (HB2.out.trans ((below_regrown w2 dq osq).mono (hG ▸ HB2.out.size)))
  clear c1 c2 c3 c4 CA CS CP CW
  go_wp2
  go_ret
  exact ⟨rfl, by rw [hG]; exact HB3.out⟩
/-! ### a text that grows -/
abbrev Bld (w : World) (b : Nat) (l : List UInt8) : Prop := Lib.IsBuilderF 64 5 b b (Lib.byteCells l) w
theorem rowF_below {w w' : World} {base : Nat} {e : TypeId} {size n : Nat} {v : Value} {xs : List Value} (h : w.ownsRowF base e size v n xs) (hb : Below w.heap.size w w') : w'.ownsRowF base e size v n xs := by
  refine ⟨h.1, ?_⟩
  rcases h.2 with h0 | ⟨g, cap, cur, fz, hv, hg, hgg, r⟩
  · exact .inl h0
  · exact .inr ⟨g, cap, cur, fz, hv, hg, by rw [hb.block g (Array.getElem?_eq_some_iff.1 hgg).1]; exact hgg, r⟩
theorem bldAt_below {w w' : World} {b : Nat} {p : Value} {bs : List Value} (h : Lib.BuilderAtF 64 5 b b p bs w) (hb : Below w.heap.size w w') : Lib.BuilderAtF 64 5 b b p bs w' := by
  obtain ⟨hB, v, h1, h2, h3⟩ := h
  exact ⟨hB, v, by rw [hb.block b (Array.getElem?_eq_some_iff.1 h1).1]; exact h1, rowF_below h2 hb, h3⟩
theorem bld_below {w w' : World} {b : Nat} {l : List UInt8} (h : Bld w b l) (hb : Below w.heap.size w w') : Bld w' b l := by
  rcases h with h | h
  · exact .inl (bldAt_below h hb)
  · exact .inr (bldAt_below h hb)
theorem strCells_strB (l : List UInt8) : Lib.strCells (strB l) = Lib.byteCells l := by simp [Lib.strCells, Lib.byteCells, strB]
theorem write_str (b : Nat) (l s : List UInt8) (w : World) (h : Bld w b l) (hl : l.length + s.length ≤ 140737488355328) (hb : b ≤ w.heap.size) :
    Calls Tryz.prog 19 #[.pointer (some ⟨b, 0, none⟩), .string (strB s)] w fun e w' => e = .returned (.tuple #[.int .i64 (s.length : Int), .nilIface]) ∧ Bld w' b (l ++ s) ∧ Below b w w' :=
  (writeString_any b b _ (strB s) w h (by rw [Lib.byteCells_length, strB_size]; exact hl) hb).mono fun e w' ⟨he, h1, h2, _⟩ => ⟨by rw [he, strB_size], by
    show Lib.IsBuilderF _ _ b b (Lib.byteCells (l ++ s)) w'
    rw [Lib.byteCells_append, ← strCells_strB s]; exact Or.inr h1, h2⟩
theorem btext_any (b : Nat) (l : List UInt8) (w : World) (h : Bld w b l) (hb : b ≤ w.heap.size) :
    Calls Tryz.prog 21 #[.pointer (some ⟨b, 0, none⟩)] w fun e w' => e = .returned (.string (strB l)) ∧ Below b w w' :=
  (Tryz.Builder_String_any_k b b l w h hb).mono fun e w' ⟨he, _, h2, _⟩ => ⟨he, h2⟩
theorem text_take {es : List En} {k : Nat} {e : En} (h : es[k]? = some e) : textL (es.take (k + 1)) = textL (es.take k) ++ lineL e := by
  unfold textL
  rw [List.take_succ_of h, List.flatMap_append]; simp
theorem text_take_le (es : List En) (k : Nat) : (textL (es.take k)).length ≤ (textL es).length := by
  have h : textL es = textL (es.take k) ++ textL (es.drop k) := by
    unfold textL
    rw [← List.flatMap_append, List.take_append_drop]
  rw [h, List.length_append]; omega
set_option maxRecDepth 100000 in
set_option maxHeartbeats 4000000 in
theorem mtext_any (es : List En) (A : Option Addr) (n c : Nat) (hF : ∀ e ∈ es, EnF e ∧ e.name.length ≤ 1048576) (ht : (textL es).length ≤ 70368744177664) (hn : n ≤ 9223372036854775807) (w : World) (hT : NumT w) (hS : EnS w A n es) :
    Calls Tryz.prog 9 #[.slice A n c] w fun r w' => r = .returned (.string (strB (textL es))) ∧ Below w.heap.size w w' := by
  obtain ⟨w1, hw1⟩ : ∃ w1, w.alloc (.cells #[.pointer none, .slice none 0 0] 64) = w1 := ⟨_, rfl⟩
  have HI1 : Hid (Bld w1 w.heap.size (textL (es.take 0))) := keepHid (by rw [← hw1]; exact Lib.IsBuilderF.of (Lib.fresh_isBuilder _ _ w))
  have HB1 : Hid (Below w.heap.size w w1) := keepHid (by rw [← hw1]; exact (Below.refl _ w).alloc (Nat.le_refl _) _)
  have HS := keepHid hS
  have HT := keepHid hT
  have HF := keepHid hF
  have HTL := keepHid ht
  have HN := keepHid hS.len
  clear hS hT hF ht
  go_enter Tryz.func9, Tryz.ntmps9
  go_wp2_with fail
  try rw [hw1]
  clear hw1
  go_loopw [8] (fun iv wr => ∃ k : Nat, k ≤ n ∧ iv = .int .i64 (k : Int) ∧ Hid (Bld wr w.heap.size (textL (es.take k))) ∧ Hid (Below w.heap.size w wr)) (fun iv _ => n - (intOf iv).toNat)
  case atStart => exact ⟨0, Nat.zero_le _, rfl, HI1, HB1⟩
  case round =>
    obtain ⟨k, hk, rfl, HI, HB⟩ := hrel
    generalize wr = wq at *
    by_cases hlt : k < n
    · obtain ⟨e, he⟩ : ∃ e, es[k]? = some e := ⟨_, List.getElem?_eq_getElem (by rw [HN.out]; exact hlt)⟩
      obtain ⟨hf, hfn⟩ := HF.out e (List.mem_of_getElem? he)
      obtain ⟨ad, rfl, hadl, a0, a1, a2, a3, a4⟩ := (HS.out.below HB.out (Nat.le_refl _)).at_ he
      have HTK := keepHid (text_take he)
      have HLN : Hid ((textL (es.take k)).length + (lineL e).length ≤ 140737488355328) := keepHid (by
        have h1 := text_take_le es (k + 1)
        rw [HTK.out, List.length_append] at h1
        have := HTL.out
        omega)
      have hk' : (k : Int) < (n : Int) := by omega
      have HLA := keepHid (fun w hT => line_any e hf hfn w hT)
      have HWS := keepHid (fun w' h1 h2 => write_str w.heap.size (textL (es.take k)) (lineL e) w' h1 HLN.out h2)
      obtain ⟨w2, hw2⟩ : ∃ w2, wq.alloc (.cells #[.string (strB e.name), .int .i64 e.addr, .int .i64 e.size, .int .u32 e.print, .int .i64 e.way] 40) = w2 := ⟨_, rfl⟩
      have hK2 : Blk w2 wq.heap.size 40 #[.string (strB e.name), .int .i64 e.addr, .int .i64 e.size, .int .u32 e.print, .int .i64 e.way] := by rw [← hw2]; exact Blk.new wq _ _
      have hB2 : Below wq.heap.size wq w2 := by rw [← hw2]; exact (Below.refl _ _).alloc (Nat.le_refl _) _
      have b0 : w2.cell? ⟨wq.heap.size, 0, none⟩ = some (.string (strB e.name)) := hK2.cell 0
      have b1 : w2.cell? ⟨wq.heap.size, 1, none⟩ = some (.int .i64 e.addr) := hK2.cell 1
      have b2 : w2.cell? ⟨wq.heap.size, 2, none⟩ = some (.int .i64 e.size) := hK2.cell 2
      have b3 : w2.cell? ⟨wq.heap.size, 3, none⟩ = some (.int .u32 e.print) := hK2.cell 3
      have b4 : w2.cell? ⟨wq.heap.size, 4, none⟩ = some (.int .i64 e.way) := hK2.cell 4
      have HI2 := keepHid (bld_below HI.out hB2)
      have HB2 := keepHid (HB.out.trans (hB2.mono HB.out.size))
      have HT2 := keepHid (HT.out.below HB2.out (Nat.le_refl _))
      unfold enV enA at HLA
      clear he hK2 hB2 HI hf hfn
      generalize strB e.name = NM at *
      generalize e.addr = AD at *
      generalize e.size = SZ at *
      generalize e.print = PR at *
      generalize e.way = WY at *
      generalize lineL e = LN at *
      go_wp2_with fail
      refine (HLA.out _ HT2.out).mono ?_
      rintro r w3 ⟨rfl, hb3⟩
      have HI3 := keepHid (bld_below HI2.out hb3)
      have HB3 := keepHid (HB2.out.trans (hb3.mono HB2.out.size))
      clear hb3 b0 b1 b2 b3 b4 HI2
      go_wp2_with fail
      refine (HWS.out _ HI3.out HB3.out.size).mono ?_
      rintro r w4 ⟨rfl, hi4, hb4⟩
      have HI4 := keepHid hi4
      have HB4 := keepHid (HB3.out.trans hb4)
      clear hi4 hb4 hw2
      go_wp2
      go_roundw
      case rel => exact ⟨k + 1, by omega, by go_num, keepHid (by rw [HTK.out]; exact HI4.out), HB4⟩
      case measure => simp [intOf]; omega
    · obtain rfl : k = n := by omega
      have hall : es.take k = es := List.take_of_length_le (by rw [HN.out]; exact Nat.le_refl _)
      rw [hall] at HI
      have HSS := keepHid (btext_any w.heap.size (textL es) wq HI.out HB.out.size)
      clear hall
      go_wp2_with fail
      refine HSS.out.mono ?_
      rintro r w2 ⟨rfl, hb2⟩
      have HB2 := keepHid (HB.out.trans hb2)
      clear hb2
      go_wp2
      go_ret
      exact ⟨rfl, HB2.out⟩
end Go.Proofs.YtkhhcclomjfliaaGreatDoor
