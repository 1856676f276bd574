/-
  'lifelinelaw06.RegexSet' answers true for every input of the row, and leaves its arguments as they were.
  Conditions: the package-level variables that the row lists lie as the program's own text lays them (the card ties them to it; what is pinned is a constant of the library's).
-/
import Derived.Test.YtjceaojffdaihaaDoorRows
import Derived.Test.YtjceaojffdaihaaDoorRegexAwake
import Derived.Test.YtjceaojffdaihaaDoorRegexEq
import Derived.Test.YtjceaojffdaihaaDoorFrame
import Derived.Test.YtjceaojffdaihaaDoorFrameRegex
import Derived.Test.YtjceaojffdaihaaDoorCards
import Derived.WalkKit
import Derived.ProofKit
import Derived.OpenShut
import Derived.ShutString
import Derived.ChangeOld
import Derived.Below
import Derived.WalkLawsBesides
import Derived.IntWalk
import Derived.Deep.QuietTactic
import Derived.BigQuiet
import Derived.Lib.QuietBelow
import Derived.Deep.DrawnRows
import Derived.Outline
namespace Go.Proofs.YtjceaojffdaihaaDoor.regexSet
open Go.ChangeShapes Go.WideShapes Go.ChangeAt Go.RowKit
open Go.ChangeMaps (open_string shut_string)
set_option linter.unusedVariables false

theorem own : ownKnob Tryd.prog.godebug = none := by kernel_rfl
theorem laidOut : laidOutB Tryd.prog = true := by kernel_rfl

def setOf (l : List UInt8) : St := l.foldl (fun s x => withS s x.toNat) st0
def isIn (c : Nat) (l : List UInt8) : Bool := l.foldl (fun b x => b || decide (x.toNat = c)) false
theorem has_fold (c : Nat) (hc : c < 256) : ∀ (l : List UInt8) (s : St), hasS (l.foldl (fun s x => withS s x.toNat) s) c = l.foldl (fun b x => b || decide (x.toNat = c)) (hasS s c)
  | [], s => rfl
  | x :: l, s => by
    rw [List.foldl_cons, List.foldl_cons, has_fold c hc l, has_with s x.toNat c (u8lt x) hc]
theorem has_setOf (c : Nat) (hc : c < 256) (l : List UInt8) : hasS (setOf l) c = isIn c l := by
  unfold setOf isIn
  rw [has_fold c hc l, has_none]
theorem stC_cell {w : World} {g : Nat} {s : St} (h : Blk w g 27 (stC s)) (i : Nat) (hi : i < 4) : w.cell? ⟨g, i, none⟩ = some (.int .u64 ((s.get i).toNat : Int)) := by
  match i, hi with
  | 0, _ => exact h.cell 0
  | 1, _ => exact h.cell 1
  | 2, _ => exact h.cell 2
  | 3, _ => exact h.cell 3
theorem has_own (s : St) (c : Nat) (hc : c < 256) : hasS (withS s c) c = true := by rw [has_with s c c hc hc]; simp

set_option maxHeartbeats 2000000 in
theorem walk (a0 : Option Addr) (n0 c0 : Nat) (b0 : List UInt8) (x1 : Int) (w : World) (hT : ErrT w) (h0 : Bys w w.heap.size a0 n0 b0) (l0 : n0 ≤ c0) (s0 : c0 ≤ 140737488351232) (h1 : 0 ≤ x1 ∧ x1 ≤ 255) :
    Calls Tryd.prog 4 #[.slice a0 n0 c0, .int .u8 x1] w fun e w' => e = .returned (.bool true) ∧ Below w.heap.size w w' := by
  obtain ⟨c, rfl⟩ : ∃ c : Nat, x1 = (c : Int) := ⟨x1.toNat, by omega⟩
  have hc : c < 256 := by omega
  have HC := keepHid hc
  have HA := keepHid (awake_any w hT)
  have HY := keepHid h0
  have HLN := keepHid h0.len
  have hn : n0 ≤ 9223372036854775807 := by omega
  clear hT h0 h1 hc
  go_enter Tryd.func4, Tryd.ntmps4
  go_wp2_with fail
  refine HA.out.mono ?_
  rintro e w1 ⟨rfl, hb1⟩
  have HB1 := keepHid hb1
  obtain ⟨w2, hw2⟩ : ∃ w2, w1.alloc (.cells #[.int .u64 0, .int .u64 0, .int .u64 0, .int .u64 0] 27) = w2 := ⟨_, rfl⟩
  have HK2 : Hid (Blk w2 w1.heap.size 27 (stC (setOf (b0.take 0)))) := keepHid (by rw [← hw2]; exact Blk.new _ _ _)
  have HB2 : Hid (Below w.heap.size w w2) := keepHid (by rw [← hw2]; exact hb1.alloc hb1.size _)
  clear hb1
  go_wp2_with fail
  try rw [hw2]
  clear hw2
  have HG : Hid (w.heap.size ≤ w1.heap.size) := keepHid HB1.out.size
  generalize w1.heap.size = gs at *
  go_loopw [6, 13] (fun isv iv wr => ∃ k : Nat, k ≤ n0 ∧ isv = .bool (isIn c (b0.take k)) ∧ iv = .int .i64 (k : Int) ∧ Blk wr gs 27 (stC (setOf (b0.take k))) ∧ Below w.heap.size w wr) (fun _ iv _ => n0 - (intOf iv).toNat)
  case atStart => exact ⟨0, Nat.zero_le _, rfl, rfl, HK2.out, HB2.out⟩
  case round =>
    obtain ⟨k, hk, rfl, rfl, hblk, hbel⟩ := hrel
    have HK := keepHid hblk
    have HB := keepHid hbel
    by_cases hlt : k < n0
    · obtain ⟨ad, x, rfl, had, hx, hcell⟩ := HY.out.at_ hlt
      have hcx : wr.cell? (ad.add k) = some (.int .u8 (x.toNat : Int)) := (hbel.cell (by rw [ad_block]; exact had)).trans hcell
      have hst := fold_take (fun s (x : UInt8) => withS s x.toNat) st0 b0 k x hx
      have his := fold_take (fun b (x : UInt8) => b || decide (x.toNat = c)) false b0 k x hx
      obtain ⟨t, ht⟩ : ∃ t, setOf (b0.take k) = t := ⟨_, rfl⟩
      obtain ⟨t', ht'⟩ : ∃ t', withS t x.toNat = t' := ⟨_, rfl⟩
      have HT' : Hid (setOf (b0.take (k + 1)) = t') := keepHid (by rw [← ht', ← ht]; exact hst)
      obtain ⟨y, hy⟩ : ∃ y, x.toNat = y := ⟨_, rfl⟩
      have hy256 : y < 256 := by rw [← hy]; exact u8lt x
      have HIS : Hid (isIn c (b0.take (k + 1)) = (isIn c (b0.take k) || decide (y = c))) := keepHid (by rw [← hy]; exact his)
      rw [hy] at hcx ht'
      rw [ht] at HK hblk
      have HW := keepHid (fun w => with_any t y hy256 w)
      rw [ht'] at HW
      unfold stV at HW
      obtain ⟨r0, r1, r2, r3, rf⟩ := blk4 hblk
      obtain ⟨b, hb⟩ : ∃ b, isIn c (b0.take k) = b := ⟨_, rfl⟩
      have hyc : ((y : Int) == (c : Int)) = decide (y = c) := by
        by_cases e : y = c
        · subst e; simp
        · have : ((y : Int) == (c : Int)) = false := by simp only [beq_eq_false_iff_ne, ne_eq]; omega
          rw [this]; simp [e]
      rw [hb] at HIS
      rw [hb]
      obtain ⟨q, hq⟩ : ∃ q, decide (y = c) = q := ⟨_, rfl⟩
      rw [hq] at HIS hyc
      have hk' : (k : Int) < (n0 : Int) := by omega
      clear hst his ht ht' hx hcell hy hblk hbel hb hq hy256
      go_wp2_with fail
      refine (HW.out wr).mono ?_
      rintro e w3 ⟨rfl, hb3⟩
      have HK3 := keepHid (HK.out.below hb3 HK.out.lt)
      have HB3 := keepHid (HB.out.trans (hb3.mono HB.out.size))
      clear r0 r1 r2 r3 rf hb3
      obtain ⟨r0, r1, r2, r3, rf⟩ := blk4 HK3.out
      cases b <;> cases q
      all_goals
        go_wp2
        go_roundw
        case rel =>
          refine ⟨k + 1, by omega, by rw [HIS.out]; rfl, by go_num, by rw [HT'.out]; exact (((HK3.out.put 0 _).put 1 _).put 2 _).put 3 _, ?_⟩
          exact (((HB3.out.setCell HG.out _).setCell HG.out _).setCell HG.out _).setCell HG.out _
        case measure => simp [intOf]; omega
    · obtain rfl : k = n0 := by omega
      have hall : b0.take k = b0 := List.take_of_length_le (by rw [HLN.out]; exact Nat.le_refl _)
      rw [hall] at HK ⊢
      have hB : hasS (setOf b0) c = isIn c b0 := has_setOf c HC.out b0
      generalize setOf b0 = s at *
      have HH := keepHid (fun w => has_any s c HC.out w)
      have HN := keepHid (fun w => not_any s w)
      have HHN := keepHid (fun w => has_any (notS s) c HC.out w)
      have HNN := keepHid (fun w => not_any (notS s) w)
      have HW := keepHid (fun w => with_any s c HC.out w)
      have HHW := keepHid (fun w => has_any (withS s c) c HC.out w)
      have hj : c % 64 < 64 := Nat.mod_lt _ (by omega)
      have hi : c / 64 < 4 := by have := HC.out; omega
      have hcell := stC_cell HK.out (c / 64) hi
      have hbit := bit_of (s.get (c / 64)) (c % 64) hj
      have hbit2 : (bits .and .u64 (((s.get (c / 64)).toNat : Int) / 2 ^ (c % 64)) 1 == 1) = isIn c b0 := by rw [hbit]; exact hB
      have e1 : (c : Int) / 64 = ((c / 64 : Nat) : Int) := by omega
      have e2 : (c : Int) % 64 = ((c % 64 : Nat) : Int) := by omega
      rw [hB] at HH
      rw [has_not, hB] at HHN
      rw [not_not] at HNN
      rw [has_own s c HC.out] at HHW
      have HEQ : ∀ W, (binOp .eql 27 (stV s) (stV s)).run Tryd.prog W = .ok (.bool true) W := fun W => by rw [eq_set]; simp
      obtain ⟨r0, r1, r2, r3, rf⟩ := blk4 HK.out
      unfold stV at HH HN HHN HNN HEQ HW HHW
      generalize (notS s).a.toNat = na at *
      generalize (notS s).b.toNat = nb at *
      generalize (notS s).c.toNat = nc at *
      generalize (notS s).d.toNat = nd at *
      generalize (withS s c).a.toNat = wa at *
      generalize (withS s c).b.toNat = wb at *
      generalize (withS s c).c.toNat = wc at *
      generalize (withS s c).d.toNat = wd at *
      generalize ((s.get (c / 64)).toNat : Int) = z at *
      generalize s.a.toNat = sa at *
      generalize s.b.toNat = sb at *
      generalize s.c.toNat = sc at *
      generalize s.d.toNat = sd at *
      obtain ⟨i, hi'⟩ : ∃ i, c / 64 = i := ⟨_, rfl⟩
      obtain ⟨j, hj'⟩ : ∃ j, c % 64 = j := ⟨_, rfl⟩
      rw [hi'] at hcell e1 hi
      rw [hj'] at hbit2 e2 hj
      have hcc : (0 : Int) ≤ (c : Int) ∧ (c : Int) ≤ 255 := by have := HC.out; omega
      clear hbit hB hi' hj' hblk hbel hall
      obtain ⟨b, hb⟩ : ∃ b, isIn c b0 = b := ⟨_, rfl⟩
      rw [hb] at HH HHN hbit2 ⊢
      clear hb
      have q0 := fun d os => cell_regrown r0 d os
      have q1 := fun d os => cell_regrown r1 d os
      have q2 := fun d os => cell_regrown r2 d os
      have q3 := fun d os => cell_regrown r3 d os
      have qi := fun d os => cell_regrown hcell d os
      have CH := keepHid (fun d os => Calls.regrown_of (HH.out (Sort.grow (redrawn wr d) os)))
      have CN := keepHid (fun d os => Calls.regrown_of (HN.out (Sort.grow (redrawn wr d) os)))
      have CHN := keepHid (fun d os => Calls.regrown_of (HHN.out (Sort.grow (redrawn wr d) os)))
      have CNN := keepHid (fun d os => Calls.regrown_of (HNN.out (Sort.grow (redrawn wr d) os)))
      have CW := keepHid (fun d os => Calls.regrown_of (HW.out (Sort.grow (redrawn wr d) os)))
      have CHW := keepHid (fun d os => Calls.regrown_of (HHW.out (Sort.grow (redrawn wr d) os)))
      clear r0 r1 r2 r3 rf hcell HH HN HHN HNN HW HHW HK2 HB2 HB1 HA
      cases b
      all_goals
        go_wp2_with fail
        refine wp_region_quiet_below (by kernel_rfl) (by kernel_rfl) ?_
        repeat (go_big_quiet_step (first | (with_reducible exact CH.out _ _) | (with_reducible exact CN.out _ _) | (with_reducible exact CHN.out _ _) | (with_reducible exact CNN.out _ _) | (with_reducible exact CW.out _ _) | (with_reducible exact CHW.out _ _)))
        refine wpQuiet_nil ?_
        intro _ hw'
        obtain ⟨⟨dq, osq⟩, hw''⟩ := hw'
        subst hw''
        go_wp2
        go_ret
        exact ⟨rfl, HB.out.trans ((below_regrown wr dq osq).mono HB.out.size)⟩

set_option maxRecDepth 100000 in
theorem lifted (os : Os) (started : os.Started) (H : Type) (enc : TypeId × Value → H) :
    ReturnsInHanded {} Tryd.checked os 4 .any (fun w args => (Rows.regexSetSpec.pre enc Tryd.prog Tryd.f4 [] false w args ∧ laidMetH Tryd.prog laidR w) ∧ sizedMet enc Tryd.prog Tryd.f4 (OpenSpec.ofChange Rows.regexSetSpec) false w args) (Rows.regexSetSpec.post enc Tryd.prog Tryd.f4 false true false false) := by
  refine returnsInHanded_of_change_and (C := Tryd.checked) (X := fun w _ => laidMetH Tryd.prog laidR w) (fun _ _ _ hh h => h.of_heap hh) own started (by kernel_rfl) Tryd.func4
    (ChangeSpec.witness_shaped (enc := enc) (C := Tryd.checked) (os := os) (X := fun w _ => laidMetH Tryd.prog laidR w) false (World.doorLaid Tryd.prog 400 os) #[.slice none 0 0, .int .u8 0] 8 rfl (World.shaped_of_RefB (by kernel_rfl) (by kernel_rfl)) (by kernel_rfl) (by kernel_rfl) (by kernel_rfl) (doorR os _)) ?_
  intro W base args ds gs before hval0 hW hcnd hsz0 hL _
  have hsz : (DataW.weightsEach Tryd.prog (Tryd.f4.params.toList ++ Rows.regexSetSpec.plain.varTypes Tryd.prog) (ds ++ gs)).all (· ≤ reachBytes) = true := hsz0
  clear hsz0
  have hval : ∀ (j : Nat) t v, Tryd.f4.params[j]? = some t → args[j]? = some v → Value.okWide Tryd.prog W .any base t v := hval0
  have hW' := hW
  obtain ⟨p, q, hA0, hV, rfl, hfz, hnd⟩ := hW
  have hA : DataW.TrodAll enc Tryd.prog W 0 (fun _ => true) true Tryd.f4.params.toList args.toList ds p := hA0
  rw [Tryd.params4] at hA hval hsz
  obtain ⟨v0, vs0, d0, ds0, p0, q0, hargs, rfl, rfl, h0, r0⟩ := trodAll_cons hA
  obtain ⟨v1, vs1, d1, ds1, p1, q1, rfl, rfl, rfl, h1, r1⟩ := trodAll_cons r0
  obtain ⟨rfl, rfl, rfl⟩ := trodAll_nil r1
  obtain rfl : args = #[v0, v1] := by cases args; simp_all
  obtain ⟨rfl, rfl⟩ := trodVars_none hV
  have k0 := h0
  have lt0 : ∀ x ∈ p0, x.block < W.heap.size := by obtain ⟨m, hm⟩ := k0; exact DataW.trod_lt m _ _ _ hm
  have k1 := h1
  have lt1 : ∀ x ∈ p1, x.block < W.heap.size := by obtain ⟨m, hm⟩ := k1; exact DataW.trod_lt m _ _ _ hm
  obtain ⟨a0, n0, c0, b0, rfl, w0, l0, s0⟩ := open_bys Tryd.underlying22 Tryd.underlying5 (by kernel_rfl) (by kernel_rfl) (hval 0 22 v0 rfl rfl) (fun _ => rfl) h0 (fun el sp hd => sized_slice hsz (j := 0) (t := 22) (e := 5) rfl (by rw [hd]; rfl) Tryd.underlying22)
  obtain ⟨x1, rfl, rfl, rfl, w1⟩ := open_int Tryd.underlying5 (hval 1 5 v1 rfl rfl) h1
  clear hA0 hval0
  refine (walk a0 n0 c0 b0 x1 W (tabsR hL) w0 l0 s0 (wf_u8 w1)).mono fun e W' ⟨he, bel⟩ => ?_
  subst he
  exact ⟨_, rfl, _, _, _, [], _, [], hW', trodAll_mk1 (shut_bool Tryd.underlying4 _), (trodAll_cons_mk (Below.trod laidOut (by kernel_rfl) (of_decide_eq_true (by kernel_rfl)) k0 bel lt0) (trodAll_cons_mk (Below.trod laidOut (by kernel_rfl) (of_decide_eq_true (by kernel_rfl)) k1 bel lt1) trodAll_mk0)), rfl, bel.frame _, fun h => by cases h⟩

theorem over : Rows.regexSetRow.holds Tryd.pinned (OpenSpec.ofChange Rows.regexSetSpec) :=
  OpenClaim.holds_of_wide 4 Tryd.f4 rfl rfl rfl rfl rfl rfl rfl ⟨rfl, rfl, rfl, rfl, rfl⟩ rfl rfl rfl rfl rfl (by kernel_rfl) Tryd.func4 (by kernel_rfl)
    (of_decide_eq_true (by kernel_rfl)) (by unfold Func.isWrapper; first | (rw [if_pos (by decide +kernel)]; kernel_rfl) | (rw [if_neg (by decide +kernel)]; exact ⟨rfl, rfl⟩))
    (fun os started H enc _ => lifted os started H enc)

/-- The card: what the row lists is tied to the program's own text. -/
theorem proved : Rows.RegexSetCardSaid :=
  Claim7.holds_tied_plain_at .later [] [.handle] true Rows.regexSetCard.stood.harness true
    over (fun _ h => by cases h) (by kernel_rfl) (fun _ h => by cases h) regexSet_row_tie rfl ⟨rfl, rfl⟩ (by kernel_rfl) rfl
    (fun f fn hf hfn => by
      obtain rfl : f = 4 := Option.some.inj ((show Tryd.prog.funcNamed "lifeline/lifelinelaw06.RegexSet" = some 4 by kernel_rfl).symm.trans hf) |>.symm
      obtain rfl : fn = Tryd.f4 := (Option.some.inj (Tryd.func4.symm.trans hfn)).symm
      exact ⟨by kernel_rfl, fun j t ht => by
        rw [Tryd.params4] at ht
        have hm : t ∈ [22, 5] := by simpa using Array.mem_of_getElem? ht
        have hall : ([22, 5].all fun u => !Tryd.prog.wantsStandIn u) = true := by kernel_rfl
        exact (show Tryd.prog.wantsStandIn t = false by simpa using List.all_eq_true.1 hall t hm)⟩)
    (by kernel_rfl)
end Go.Proofs.YtjceaojffdaihaaDoor.regexSet
