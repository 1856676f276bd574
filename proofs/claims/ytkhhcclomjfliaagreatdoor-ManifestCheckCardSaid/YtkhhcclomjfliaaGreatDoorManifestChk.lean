/-
  What is wrong of a manifest first: package manifest's twice, fits, overlaps, check, Check.
-/
import Derived.Test.YtkhhcclomjfliaaGreatDoorManifestRoom
import Derived.Test.YtkhhcclomjfliaaGreatDoorManifestWay
import Derived.Test.YtkhhcclomjfliaaGreatDoorHeaderNom
import Derived.Lib.QuietBelow
import Derived.Deep.DeepCutAuto
namespace Go.Proofs.YtkhhcclomjfliaaGreatDoor
open Go.RowKit
set_option linter.unusedVariables false

def roomE (e : En) : Int := roomI e.size e.way
def twB (e : En) (l : List En) : Bool := l.any fun o => decide (o.name = e.name)
def fitsB (e : En) : Bool := decide (0 ≤ e.addr) && decide (1 ≤ e.size) && decide (e.size ≤ 8192) && decide (e.addr ≤ 16384 - roomE e) && isW e.way
def ov1 (e o : En) : Bool := decide (e.addr < o.addr + roomE o) && decide (o.addr < e.addr + roomE e)
def ovB (e : En) (l : List En) : Bool := l.any (ov1 e)
/-- The first error of an entry behind others; 0: none. -/
def chkE (e : En) (l : List En) : Nat := if nameB e.name = false then 3 else if twB e l then 4 else if fitsB e = false then 5 else if ovB e l then 6 else 0
def chkG (es : List En) : Nat → Nat → Int × Nat
  | 0, _ => (0, 0)
  | n + 1, i => match es[i]? with
    | some e => if chkE e (es.take i) = 0 then chkG es n (i + 1) else ((i : Int), chkE e (es.take i))
    | none => (0, 0)
def checkL (es : List En) : Int × Nat := if es.length = 0 ∨ 8 < es.length then (-1, 7) else chkG es es.length 0
def noV (n : Nat) : Value := if n = 0 then .nilIface else .iface 28 (.int .i64 (n : Int))
theorem chk_num (e : En) (l : List En) : chkE e l = 0 ∨ chkE e l = 3 ∨ chkE e l = 4 ∨ chkE e l = 5 ∨ chkE e l = 6 := by
  unfold chkE
  split
  · omega
  · split
    · omega
    · split
      · omega
      · split <;> omega
theorem chk_fits {e : En} {l : List En} (h : chkE e l = 0) : fitsB e = true := by
  unfold chkE at h
  split at h
  · cases h
  · split at h
    · cases h
    · split at h
      · cases h
      · rename_i h1
        simpa using h1
theorem fits_is {e : En} (h : fitsB e = true) : 0 ≤ e.addr ∧ e.addr ≤ 16384 ∧ 1 ≤ e.size ∧ e.size ≤ 8192 ∧ e.addr + roomE e ≤ 16384 ∧ 1 ≤ roomE e ∧ roomE e ≤ 8192 := by
  unfold fitsB at h
  simp only [Bool.and_eq_true, decide_eq_true_eq] at h
  have h1 := room_is e.size e.way
  unfold roomE at h ⊢
  have : 1 ≤ limI e.size := by unfold limI; omega
  omega
theorem any_take_succ {p : En → Bool} {l : List En} {k : Nat} {c : En} (h : l[k]? = some c) : (l.take (k + 1)).any p = ((l.take k).any p || p c) := by
  rw [List.take_succ_of h]; simp
theorem any_true {p : En → Bool} {l : List En} {k : Nat} {c : En} (h : l[k]? = some c) (hp : p c = true) : l.any p = true := List.any_eq_true.2 ⟨c, List.mem_of_getElem? h, hp⟩

set_option maxRecDepth 100000 in
set_option maxHeartbeats 4000000 in
theorem twice_any (e : En) (es : List En) (A : Option Addr) (n c : Nat) (hn : n ≤ 9223372036854775807) (w : World) (hS : EnS w A n es) :
    Calls Tryz.prog 42 #[enV e, .slice A n c] w fun r w' => r = .returned (.bool (twB e es)) ∧ Below w.heap.size w w' := by
  have HN := keepHid hS.len
  obtain ⟨w1, hw1⟩ : ∃ w1, w.alloc (.cells #[.string (strB e.name), .int .i64 e.addr, .int .i64 e.size, .int .u32 e.print, .int .i64 e.way] 40) = w1 := ⟨_, rfl⟩
  have hK1 : Blk w1 w.heap.size 40 #[.string (strB e.name), .int .i64 e.addr, .int .i64 e.size, .int .u32 e.print, .int .i64 e.way] := by rw [← hw1]; exact Blk.new w _ _
  have hB1 : Below w.heap.size w w1 := by rw [← hw1]; exact (Below.refl _ _).alloc (Nat.le_refl _) _
  have HK1 := keepHid hK1
  have HB1 := keepHid hB1
  have HS1 := keepHid (hS.below hB1 (Nat.le_refl _))
  have HLT := keepHid hK1.lt
  have HY : Hid (∀ (k : Nat) (o : En), es[k]? = some o → o.name = e.name → twB e es = true) := keepHid fun k o h he => any_true (p := fun o => decide (o.name = e.name)) h (decide_eq_true he)
  have HZ : Hid ((es.take n).any (fun o => decide (o.name = e.name)) = false → twB e es = false) := keepHid fun h => by
    rw [List.take_of_length_le (by rw [HN.out]; exact Nat.le_refl _)] at h
    exact h
  have HST : Hid (∀ (k : Nat) (o : En), es[k]? = some o → (es.take k).any (fun o => decide (o.name = e.name)) = false → o.name ≠ e.name → (es.take (k + 1)).any (fun o => decide (o.name = e.name)) = false) := keepHid fun k o h h1 h2 => by rw [any_take_succ h, h1, decide_eq_false h2]; rfl
  generalize twB e es = R at *
  unfold enV enA
  clear hK1 hB1 hS
  go_enter Tryz.func42, Tryz.ntmps42
  go_wp2_with fail
  try rw [hw1]
  clear hw1
  go_loopw [9] (fun iv wr => ∃ k : Nat, k ≤ n ∧ iv = .int .i64 (k : Int) ∧ Hid (Below w1.heap.size w1 wr) ∧ Hid ((es.take k).any (fun o => decide (o.name = e.name)) = false)) (fun iv _ => n - (intOf iv).toNat)
  case atStart => exact ⟨0, Nat.zero_le _, rfl, keepHid (Below.refl _ _), keepHid rfl⟩
  case round =>
    obtain ⟨k, hk, rfl, HB, HA⟩ := hrel
    generalize wr = wq at *
    by_cases hlt : k < n
    · obtain ⟨o, ho⟩ : ∃ o, es[k]? = some o := ⟨_, List.getElem?_eq_getElem (by rw [HN.out]; exact hlt)⟩
      obtain ⟨ad, rfl, hadl, a0, a1, a2, a3, a4⟩ := (HS1.out.below HB.out (Nat.le_refl _)).at_ ho
      have hk' : (k : Int) < (n : Int) := by omega
      obtain ⟨w2, hw2⟩ : ∃ w2, wq.alloc (.cells #[.string (strB o.name), .int .i64 o.addr, .int .i64 o.size, .int .u32 o.print, .int .i64 o.way] 40) = w2 := ⟨_, rfl⟩
      have hK2 : Blk w2 wq.heap.size 40 #[.string (strB o.name), .int .i64 o.addr, .int .i64 o.size, .int .u32 o.print, .int .i64 o.way] := by rw [← hw2]; exact Blk.new wq _ _
      have hB2 : Below wq.heap.size wq w2 := by rw [← hw2]; exact (Below.refl _ _).alloc (Nat.le_refl _) _
      have HB2 := keepHid (HB.out.trans (hB2.mono HB.out.size))
      have b0 : w2.cell? ⟨wq.heap.size, 0, none⟩ = some (.string (strB o.name)) := hK2.cell 0
      have e0 : w2.cell? ⟨w.heap.size, 0, none⟩ = some (.string (strB e.name)) := (HK1.out.below HB2.out HLT.out).cell 0
      have hbq := strB_beq o.name e.name
      have HY1 := keepHid (HY.out k o ho)
      have HT1 := keepHid (HST.out k o ho HA.out)
      clear ho hK2 hB2 HST HY
      by_cases hne : o.name = e.name
      · rw [decide_eq_true hne] at hbq
        have HR := keepHid (HY1.out hne)
        clear hne HY1 HT1 HZ
        go_wp2
        go_ret
        exact ⟨ret_bool HR.out.symm, HB1.out.trans (HB2.out.mono HB1.out.size)⟩
      · rw [decide_eq_false hne] at hbq
        have HR := keepHid (HT1.out hne)
        clear hne HY1 HT1
        go_wp2
        go_roundw
        case rel => exact ⟨k + 1, by omega, by go_num, HB2, HR⟩
        case measure => simp [intOf]; omega
    · obtain rfl : k = n := by omega
      have HR := keepHid (HZ.out HA.out)
      go_wp2
      go_ret
      exact ⟨ret_bool HR.out.symm, HB1.out.trans (HB.out.mono HB1.out.size)⟩
set_option maxRecDepth 100000 in
set_option maxHeartbeats 4000000 in
theorem fits_any (e : En) (hF : EnF e) (w : World) :
    Calls Tryz.prog 43 #[enV e] w fun r w' => r = .returned (.bool (fitsB e)) ∧ Below w.heap.size w w' := by
  obtain ⟨w1, hw1⟩ : ∃ w1, w.alloc (.cells #[.string (strB e.name), .int .i64 e.addr, .int .i64 e.size, .int .u32 e.print, .int .i64 e.way] 40) = w1 := ⟨_, rfl⟩
  have hK1 : Blk w1 w.heap.size 40 #[.string (strB e.name), .int .i64 e.addr, .int .i64 e.size, .int .u32 e.print, .int .i64 e.way] := by rw [← hw1]; exact Blk.new w _ _
  have hB1 : Below w.heap.size w w1 := by rw [← hw1]; exact (Below.refl _ _).alloc (Nat.le_refl _) _
  have HB1 := keepHid hB1
  have b0 := cell_regrown (show w1.cell? ⟨w.heap.size, 0, none⟩ = some (.string (strB e.name)) from hK1.cell 0)
  have b1 := cell_regrown (show w1.cell? ⟨w.heap.size, 1, none⟩ = some (.int .i64 e.addr) from hK1.cell 1)
  have b2 := cell_regrown (show w1.cell? ⟨w.heap.size, 2, none⟩ = some (.int .i64 e.size) from hK1.cell 2)
  have b3 := cell_regrown (show w1.cell? ⟨w.heap.size, 3, none⟩ = some (.int .u32 e.print) from hK1.cell 3)
  have b4 := cell_regrown (show w1.cell? ⟨w.heap.size, 4, none⟩ = some (.int .i64 e.way) from hK1.cell 4)
  have CR := keepHid (fun d os => Calls.regrown_of (room_any (strB e.name) e.addr e.size e.print e.way (Sort.grow (redrawn w1 d) os)))
  have CW := keepHid (fun d os => Calls.regrown_of ((isWay_any e.way (Sort.grow (redrawn w1 d) os)).mono fun r w' h => ⟨h.1, by rw [← h.2]; exact Below.refl _ _⟩))
  have hr := room_is e.size e.way
  have HFB : Hid (fitsB e = (decide (0 ≤ e.addr) && decide (1 ≤ e.size) && decide (e.size ≤ 8192) && decide (e.addr ≤ 16384 - roomI e.size e.way) && isW e.way)) := keepHid rfl
  have ha := hF.addr
  unfold enV enA
  generalize strB e.name = NM at *
  obtain ⟨R, hR⟩ : ∃ z, roomI e.size e.way = z := ⟨_, rfl⟩
  obtain ⟨IW, hIW⟩ : ∃ z, isW e.way = z := ⟨_, rfl⟩
  rw [hR] at CR hr HFB
  rw [hIW] at CW HFB
  clear hR hIW
  generalize e.addr = AD at *
  generalize e.size = SZ at *
  generalize e.way = WY at *
  generalize e.print = PR at *
  generalize fitsB e = FB at *
  have hwr : IntKind.i64.wrap (16384 - R) = 16384 - R := by rw [IntKind.wrap_i64]; omega
  clear hK1 hB1 hF ha
  have hc : (¬ 0 ≤ AD) ∨ (0 ≤ AD ∧ ¬ 1 ≤ SZ) ∨ (0 ≤ AD ∧ 1 ≤ SZ ∧ ¬ SZ ≤ 8192) ∨ (0 ≤ AD ∧ 1 ≤ SZ ∧ SZ ≤ 8192 ∧ ¬ AD ≤ 16384 - R) ∨ (0 ≤ AD ∧ 1 ≤ SZ ∧ SZ ≤ 8192 ∧ AD ≤ 16384 - R) := by omega
  go_enter Tryz.func43, Tryz.ntmps43
  go_upto_region 1 with fail
  try rw [hw1]
  clear hw1
  rcases hc with h1 | ⟨h1, h2⟩ | ⟨h1, h2, h3⟩ | ⟨h1, h2, h3, h4⟩ | ⟨h1, h2, h3, h4⟩
  · have d1 := decide_eq_false h1
    rw [d1] at HFB
    refine wp_region_quiet_below (by kernel_rfl) (by kernel_rfl) ?_
    repeat (go_big_quiet_step (first | (with_reducible exact CR.out _ _) | (with_reducible exact CW.out _ _)))
    refine wpQuiet_nil ?_
    intro _ hw'
    obtain ⟨⟨dq, osq⟩, hw''⟩ := hw'
    subst hw''
    have HB5 := keepHid (HB1.out.trans ((below_regrown w1 dq osq).mono HB1.out.size))
    clear b0 b1 b2 b3 b4 CR CW
    go_wp2
    go_ret
    exact ⟨ret_bool (by rw [HFB.out]; rfl), HB5.out⟩
  · have d1 := decide_eq_true h1
    have d2 := decide_eq_false h2
    rw [d1, d2] at HFB
    refine wp_region_quiet_below (by kernel_rfl) (by kernel_rfl) ?_
    repeat (go_big_quiet_step (first | (with_reducible exact CR.out _ _) | (with_reducible exact CW.out _ _)))
    refine wpQuiet_nil ?_
    intro _ hw'
    obtain ⟨⟨dq, osq⟩, hw''⟩ := hw'
    subst hw''
    have HB5 := keepHid (HB1.out.trans ((below_regrown w1 dq osq).mono HB1.out.size))
    clear b0 b1 b2 b3 b4 CR CW
    go_wp2
    go_ret
    exact ⟨ret_bool (by rw [HFB.out]; rfl), HB5.out⟩
  · have d1 := decide_eq_true h1
    have d2 := decide_eq_true h2
    have d3 := decide_eq_false h3
    rw [d1, d2, d3] at HFB
    refine wp_region_quiet_below (by kernel_rfl) (by kernel_rfl) ?_
    repeat (go_big_quiet_step (first | (with_reducible exact CR.out _ _) | (with_reducible exact CW.out _ _)))
    refine wpQuiet_nil ?_
    intro _ hw'
    obtain ⟨⟨dq, osq⟩, hw''⟩ := hw'
    subst hw''
    have HB5 := keepHid (HB1.out.trans ((below_regrown w1 dq osq).mono HB1.out.size))
    clear b0 b1 b2 b3 b4 CR CW
    go_wp2
    go_ret
    exact ⟨ret_bool (by rw [HFB.out]; rfl), HB5.out⟩
  · have d1 := decide_eq_true h1
    have d2 := decide_eq_true h2
    have d3 := decide_eq_true h3
    have d4 := decide_eq_false h4
    rw [d1, d2, d3, d4] at HFB
    refine wp_region_quiet_below (by kernel_rfl) (by kernel_rfl) ?_
    repeat (go_big_quiet_step (first | (with_reducible exact CR.out _ _) | (with_reducible exact CW.out _ _)))
    refine wpQuiet_nil ?_
    intro _ hw'
    obtain ⟨⟨dq, osq⟩, hw''⟩ := hw'
    subst hw''
    have HB5 := keepHid (HB1.out.trans ((below_regrown w1 dq osq).mono HB1.out.size))
    clear b0 b1 b2 b3 b4 CR CW
    go_wp2
    go_ret
    exact ⟨ret_bool (by rw [HFB.out]; rfl), HB5.out⟩
  · have d1 := decide_eq_true h1
    have d2 := decide_eq_true h2
    have d3 := decide_eq_true h3
    have d4 := decide_eq_true h4
    rw [d1, d2, d3, d4] at HFB
    cases IW
    all_goals
      refine wp_region_quiet_below (by kernel_rfl) (by kernel_rfl) ?_
      repeat (go_big_quiet_step (first | (with_reducible exact CR.out _ _) | (with_reducible exact CW.out _ _)))
      refine wpQuiet_nil ?_
      intro _ hw'
      obtain ⟨⟨dq, osq⟩, hw''⟩ := hw'
      subst hw''
      have HB5 := keepHid (HB1.out.trans ((below_regrown w1 dq osq).mono HB1.out.size))
      clear b0 b1 b2 b3 b4 CR CW
      go_wp2
      go_ret
      exact ⟨ret_bool (by rw [HFB.out]; rfl), HB5.out⟩
set_option maxRecDepth 100000 in
set_option maxHeartbeats 4000000 in
theorem overlaps_any (e : En) (hE : fitsB e = true) (es : List En) (hO : ∀ o ∈ es, fitsB o = true) (A : Option Addr) (n c : Nat) (hn : n ≤ 9223372036854775807) (w : World) (hS : EnS w A n es) :
    Calls Tryz.prog 44 #[enV e, .slice A n c] w fun r w' => r = .returned (.bool (ovB e es)) ∧ Below w.heap.size w w' := by
  have HN := keepHid hS.len
  obtain ⟨w1, hw1⟩ : ∃ w1, w.alloc (.cells #[.string (strB e.name), .int .i64 e.addr, .int .i64 e.size, .int .u32 e.print, .int .i64 e.way] 40) = w1 := ⟨_, rfl⟩
  have hK1 : Blk w1 w.heap.size 40 #[.string (strB e.name), .int .i64 e.addr, .int .i64 e.size, .int .u32 e.print, .int .i64 e.way] := by rw [← hw1]; exact Blk.new w _ _
  have hB1 : Below w.heap.size w w1 := by rw [← hw1]; exact (Below.refl _ _).alloc (Nat.le_refl _) _
  have HK1 := keepHid hK1
  have HB1 := keepHid hB1
  have HS1 := keepHid (hS.below hB1 (Nat.le_refl _))
  have HLT := keepHid hK1.lt
  have HY : Hid (∀ (k : Nat) (o : En), es[k]? = some o → ov1 e o = true → ovB e es = true) := keepHid fun k o h he => any_true (p := ov1 e) h he
  have HZ : Hid ((es.take n).any (ov1 e) = false → ovB e es = false) := keepHid fun h => by
    rw [List.take_of_length_le (by rw [HN.out]; exact Nat.le_refl _)] at h
    exact h
  have HST : Hid (∀ (k : Nat) (o : En), es[k]? = some o → (es.take k).any (ov1 e) = false → ov1 e o = false → (es.take (k + 1)).any (ov1 e) = false) := keepHid fun k o h h1 h2 => by rw [any_take_succ h, h1, h2]; rfl
  have HFO := keepHid hO
  have HFE := keepHid (fits_is hE)
  generalize ovB e es = R at *
  unfold enV enA
  clear hK1 hB1 hS hE hO
  go_enter Tryz.func44, Tryz.ntmps44
  go_wp2_with fail
  try rw [hw1]
  clear hw1
  go_loopw [9] (fun iv wr => ∃ k : Nat, k ≤ n ∧ iv = .int .i64 (k : Int) ∧ Hid (Below w1.heap.size w1 wr) ∧ Hid ((es.take k).any (ov1 e) = false)) (fun iv _ => n - (intOf iv).toNat)
  case atStart => exact ⟨0, Nat.zero_le _, rfl, keepHid (Below.refl _ _), keepHid rfl⟩
  case round =>
    obtain ⟨k, hk, rfl, HB, HA⟩ := hrel
    generalize wr = wq at *
    by_cases hlt : k < n
    · obtain ⟨o, ho⟩ : ∃ o, es[k]? = some o := ⟨_, List.getElem?_eq_getElem (by rw [HN.out]; exact hlt)⟩
      obtain ⟨ad, rfl, hadl, a0, a1, a2, a3, a4⟩ := (HS1.out.below HB.out (Nat.le_refl _)).at_ ho
      have hk' : (k : Int) < (n : Int) := by omega
      obtain ⟨w2, hw2⟩ : ∃ w2, wq.alloc (.cells #[.string (strB o.name), .int .i64 o.addr, .int .i64 o.size, .int .u32 o.print, .int .i64 o.way] 40) = w2 := ⟨_, rfl⟩
      have hK2 : Blk w2 wq.heap.size 40 #[.string (strB o.name), .int .i64 o.addr, .int .i64 o.size, .int .u32 o.print, .int .i64 o.way] := by rw [← hw2]; exact Blk.new wq _ _
      have hB2 : Below wq.heap.size wq w2 := by rw [← hw2]; exact (Below.refl _ _).alloc (Nat.le_refl _) _
      have HB2 := keepHid (HB.out.trans (hB2.mono HB.out.size))
      have hK12 := HK1.out.below HB2.out HLT.out
      have o0 := cell_regrown (show w2.cell? ⟨wq.heap.size, 0, none⟩ = some (.string (strB o.name)) from hK2.cell 0)
      have o1 := cell_regrown (show w2.cell? ⟨wq.heap.size, 1, none⟩ = some (.int .i64 o.addr) from hK2.cell 1)
      have o2 := cell_regrown (show w2.cell? ⟨wq.heap.size, 2, none⟩ = some (.int .i64 o.size) from hK2.cell 2)
      have o3 := cell_regrown (show w2.cell? ⟨wq.heap.size, 3, none⟩ = some (.int .u32 o.print) from hK2.cell 3)
      have o4 := cell_regrown (show w2.cell? ⟨wq.heap.size, 4, none⟩ = some (.int .i64 o.way) from hK2.cell 4)
      have e0 := cell_regrown (show w2.cell? ⟨w.heap.size, 0, none⟩ = some (.string (strB e.name)) from hK12.cell 0)
      have e1 := cell_regrown (show w2.cell? ⟨w.heap.size, 1, none⟩ = some (.int .i64 e.addr) from hK12.cell 1)
      have e2 := cell_regrown (show w2.cell? ⟨w.heap.size, 2, none⟩ = some (.int .i64 e.size) from hK12.cell 2)
      have e3 := cell_regrown (show w2.cell? ⟨w.heap.size, 3, none⟩ = some (.int .u32 e.print) from hK12.cell 3)
      have e4 := cell_regrown (show w2.cell? ⟨w.heap.size, 4, none⟩ = some (.int .i64 e.way) from hK12.cell 4)
      have C1 := keepHid (fun d os => Calls.regrown_of (room_any (strB e.name) e.addr e.size e.print e.way (Sort.grow (redrawn w2 d) os)))
      have C2 := keepHid (fun d os => Calls.regrown_of (room_any (strB o.name) o.addr o.size o.print o.way (Sort.grow (redrawn w2 d) os)))
      have HY1 := keepHid (HY.out k o ho)
      have HT1 := keepHid (HST.out k o ho HA.out)
      have f1 := HFE.out
      have f2 := fits_is (HFO.out o (List.mem_of_getElem? ho))
      have HOV : Hid (ov1 e o = (decide (e.addr < o.addr + roomI o.size o.way) && decide (o.addr < e.addr + roomI e.size e.way))) := keepHid rfl
      unfold roomE at f1 f2
      obtain ⟨R1, hR1⟩ : ∃ z, roomI e.size e.way = z := ⟨_, rfl⟩
      obtain ⟨R2, hR2⟩ : ∃ z, roomI o.size o.way = z := ⟨_, rfl⟩
      rw [hR1] at C1 f1 HOV
      rw [hR2] at C2 f2 HOV
      have v1 : IntKind.i64.wrap (e.addr + R1) = e.addr + R1 := by rw [IntKind.wrap_i64]; omega
      have v2 : IntKind.i64.wrap (o.addr + R2) = o.addr + R2 := by rw [IntKind.wrap_i64]; omega
      clear ho hK2 hB2 hK12 HST HY f1 f2 hR1 hR2
      go_upto_region 4 with fail
      try rw [hw2]
      clear hw2 a0 a1 a2 a3 a4
      by_cases h1 : e.addr < o.addr + R2
      · have d1 := decide_eq_true h1
        by_cases h2 : o.addr < e.addr + R1
        · have d2 := decide_eq_true h2
          have HR := keepHid (HY1.out (by rw [HOV.out, d1, d2]; rfl))
          clear HY1 HT1 HZ HOV
          refine wp_region_quiet_below (by kernel_rfl) (by kernel_rfl) ?_
          repeat (go_big_quiet_step (first | (with_reducible exact C1.out _ _) | (with_reducible exact C2.out _ _)))
          refine wpQuiet_nil ?_
          intro _ hw'
          obtain ⟨⟨dq, osq⟩, hw''⟩ := hw'
          subst hw''
          have HB5 := keepHid (HB2.out.trans ((below_regrown w2 dq osq).mono HB2.out.size))
          clear e0 e1 e2 e3 e4 o0 o1 o2 o3 o4 C1 C2
          go_wp2
          go_ret
          exact ⟨ret_bool HR.out.symm, HB1.out.trans (HB5.out.mono HB1.out.size)⟩
        · have d2 := decide_eq_false h2
          have HR := keepHid (HT1.out (by rw [HOV.out, d1, d2]; rfl))
          clear HY1 HT1 HOV
          refine wp_region_quiet_below (by kernel_rfl) (by kernel_rfl) ?_
          repeat (go_big_quiet_step (first | (with_reducible exact C1.out _ _) | (with_reducible exact C2.out _ _)))
          refine wpQuiet_nil ?_
          intro _ hw'
          obtain ⟨⟨dq, osq⟩, hw''⟩ := hw'
          subst hw''
          have HB5 := keepHid (HB2.out.trans ((below_regrown w2 dq osq).mono HB2.out.size))
          clear e0 e1 e2 e3 e4 o0 o1 o2 o3 o4 C1 C2
          go_wp2
          go_roundw
          case rel => exact ⟨k + 1, by omega, by go_num, HB5, HR⟩
          case measure => simp [intOf]; omega
      · have d1 := decide_eq_false h1
        have HR := keepHid (HT1.out (by rw [HOV.out, d1]; rfl))
        clear HY1 HT1 HOV
        refine wp_region_quiet_below (by kernel_rfl) (by kernel_rfl) ?_
        repeat (go_big_quiet_step (first | (with_reducible exact C1.out _ _) | (with_reducible exact C2.out _ _)))
        refine wpQuiet_nil ?_
        intro _ hw'
        obtain ⟨⟨dq, osq⟩, hw''⟩ := hw'
        subst hw''
        have HB5 := keepHid (HB2.out.trans ((below_regrown w2 dq osq).mono HB2.out.size))
        clear e0 e1 e2 e3 e4 o0 o1 o2 o3 o4 C1 C2
        go_wp2
        go_roundw
        case rel => exact ⟨k + 1, by omega, by go_num, HB5, HR⟩
        case measure => simp [intOf]; omega
    · obtain rfl : k = n := by omega
      have HR := keepHid (HZ.out HA.out)
      go_wp2
      go_ret
      exact ⟨ret_bool HR.out.symm, HB1.out.trans (HB.out.mono HB1.out.size)⟩


set_option maxRecDepth 100000 in
set_option maxHeartbeats 4000000 in
theorem chk_any (e : En) (hF : EnF e) (es : List En) (hO : ∀ o ∈ es, fitsB o = true) (A : Option Addr) (n c : Nat) (hn : n ≤ 9223372036854775807) (w : World) (hS : EnS w A n es) :
    Calls Tryz.prog 23 #[enV e, .slice A n c] w fun r w' => r = .returned (noV (chkE e es)) ∧ Below w.heap.size w w' := by
  obtain ⟨w1, hw1⟩ : ∃ w1, w.alloc (.cells #[.string (strB e.name), .int .i64 e.addr, .int .i64 e.size, .int .u32 e.print, .int .i64 e.way] 40) = w1 := ⟨_, rfl⟩
  have hK1 : Blk w1 w.heap.size 40 #[.string (strB e.name), .int .i64 e.addr, .int .i64 e.size, .int .u32 e.print, .int .i64 e.way] := by rw [← hw1]; exact Blk.new w _ _
  have hB1 : Below w.heap.size w w1 := by rw [← hw1]; exact (Below.refl _ _).alloc (Nat.le_refl _) _
  have HK1 := keepHid hK1
  have HB1 := keepHid hB1
  have HS1 := keepHid (hS.below hB1 (Nat.le_refl _))
  have HLT := keepHid hK1.lt
  have HNM := keepHid (fun w => name_any e.name hF.name w)
  have HTW := keepHid (fun w' h => twice_any e es A n c hn w' h)
  have HFI := keepHid (fun w' => fits_any e hF w')
  have HOV := keepHid (fun (h : fitsB e = true) w' h' => overlaps_any e h es hO A n c hn w' h')
  have HC : Hid (chkE e es = if nameB e.name = false then 3 else if twB e es then 4 else if fitsB e = false then 5 else if ovB e es then 6 else 0) := keepHid rfl
  have a0 : w1.cell? ⟨w.heap.size, 0, none⟩ = some (.string (strB e.name)) := hK1.cell 0
  unfold enV enA at HTW HFI HOV ⊢
  clear hK1 hB1 hS
  cases hnm : nameB e.name with
  | false =>
    rw [hnm] at HNM HC
    have HR : Hid (chkE e es = 3) := keepHid (by rw [HC.out]; rfl)
    clear hnm HC HTW HFI HOV
    go_enter Tryz.func23, Tryz.ntmps23
    go_wp2_with fail
    try rw [hw1]
    clear hw1
    refine (HNM.out _).mono ?_
    rintro r w2 ⟨rfl, rfl⟩
    go_wp2
    go_ret
    exact ⟨by rw [HR.out]; rfl, HB1.out⟩
  | true =>
    rw [hnm] at HNM HC
    have b1 : w1.cell? ⟨w.heap.size, 1, none⟩ = some (.int .i64 e.addr) := HK1.out.cell 1
    have b2 : w1.cell? ⟨w.heap.size, 2, none⟩ = some (.int .i64 e.size) := HK1.out.cell 2
    have b3 : w1.cell? ⟨w.heap.size, 3, none⟩ = some (.int .u32 e.print) := HK1.out.cell 3
    have b4 : w1.cell? ⟨w.heap.size, 4, none⟩ = some (.int .i64 e.way) := HK1.out.cell 4
    clear hnm
    cases htw : twB e es with
    | true =>
      rw [htw] at HTW HC
      have HR : Hid (chkE e es = 4) := keepHid (by rw [HC.out]; rfl)
      clear htw HC HFI HOV
      go_enter Tryz.func23, Tryz.ntmps23
      go_wp2_with fail
      try rw [hw1]
      clear hw1
      refine (HNM.out _).mono ?_
      rintro r w2 ⟨rfl, rfl⟩
      go_wp2_with fail
      refine (HTW.out _ HS1.out).mono ?_
      rintro r w2 ⟨rfl, hb2⟩
      have HB2 := keepHid (HB1.out.trans (hb2.mono HB1.out.size))
      clear hb2
      go_wp2
      go_ret
      exact ⟨by rw [HR.out]; rfl, HB2.out⟩
    | false =>
      rw [htw] at HTW HC
      clear htw
      cases hfi : fitsB e with
      | false =>
        rw [hfi] at HFI HC
        have HR : Hid (chkE e es = 5) := keepHid (by rw [HC.out]; rfl)
        clear hfi HC HOV
        go_enter Tryz.func23, Tryz.ntmps23
        go_wp2_with fail
        try rw [hw1]
        clear hw1
        refine (HNM.out _).mono ?_
        rintro r w2 ⟨rfl, rfl⟩
        go_wp2_with fail
        refine (HTW.out _ HS1.out).mono ?_
        rintro r w2 ⟨rfl, hb2⟩
        have HB2 := keepHid (HB1.out.trans (hb2.mono HB1.out.size))
        have hK2 := HK1.out.below hb2 HLT.out
        have c0 : w2.cell? ⟨w.heap.size, 0, none⟩ = some (.string (strB e.name)) := hK2.cell 0
        have c1 : w2.cell? ⟨w.heap.size, 1, none⟩ = some (.int .i64 e.addr) := hK2.cell 1
        have c2 : w2.cell? ⟨w.heap.size, 2, none⟩ = some (.int .i64 e.size) := hK2.cell 2
        have c3 : w2.cell? ⟨w.heap.size, 3, none⟩ = some (.int .u32 e.print) := hK2.cell 3
        have c4 : w2.cell? ⟨w.heap.size, 4, none⟩ = some (.int .i64 e.way) := hK2.cell 4
        clear hb2 hK2
        go_wp2_with fail
        refine (HFI.out _).mono ?_
        rintro r w3 ⟨rfl, hb3⟩
        have HB3 := keepHid (HB2.out.trans (hb3.mono HB2.out.size))
        clear hb3
        go_wp2
        go_ret
        exact ⟨by rw [HR.out]; rfl, HB3.out⟩
      | true =>
        have HOW := keepHid (HOV.out hfi)
        rw [hfi] at HFI HC
        clear hfi HOV
        have hd : ∃ b m, ovB e es = b ∧ chkE e es = m ∧ (b = true ∧ m = 6 ∨ b = false ∧ m = 0) := by
          cases hov : ovB e es with
          | true => exact ⟨true, 6, rfl, by rw [HC.out, hov]; rfl, .inl ⟨rfl, rfl⟩⟩
          | false => exact ⟨false, 0, rfl, by rw [HC.out, hov]; rfl, .inr ⟨rfl, rfl⟩⟩
        obtain ⟨b, m, hb, hm, hbm⟩ := hd
        rw [hb] at HOW
        have HR := keepHid hm
        clear HC hb hm
        rcases hbm with ⟨rfl, rfl⟩ | ⟨rfl, rfl⟩
        all_goals
          go_enter Tryz.func23, Tryz.ntmps23
          go_wp2_with fail
          try rw [hw1]
          clear hw1
          refine (HNM.out _).mono ?_
          rintro r w2 ⟨rfl, rfl⟩
          go_wp2_with fail
          refine (HTW.out _ HS1.out).mono ?_
          rintro r w2 ⟨rfl, hb2⟩
          have HB2 := keepHid (HB1.out.trans (hb2.mono HB1.out.size))
          have HS2 := keepHid (HS1.out.below hb2 (Nat.le_refl _))
          have hK2 := HK1.out.below hb2 HLT.out
          have HK2 := keepHid hK2
          have c0 : w2.cell? ⟨w.heap.size, 0, none⟩ = some (.string (strB e.name)) := hK2.cell 0
          have c1 : w2.cell? ⟨w.heap.size, 1, none⟩ = some (.int .i64 e.addr) := hK2.cell 1
          have c2 : w2.cell? ⟨w.heap.size, 2, none⟩ = some (.int .i64 e.size) := hK2.cell 2
          have c3 : w2.cell? ⟨w.heap.size, 3, none⟩ = some (.int .u32 e.print) := hK2.cell 3
          have c4 : w2.cell? ⟨w.heap.size, 4, none⟩ = some (.int .i64 e.way) := hK2.cell 4
          clear hb2 hK2
          go_wp2_with fail
          refine (HFI.out _).mono ?_
          rintro r w3 ⟨rfl, hb3⟩
          have HB3 := keepHid (HB2.out.trans (hb3.mono HB2.out.size))
          have HS3 := keepHid (HS2.out.below hb3 (Nat.le_refl _))
          have hK3 := HK2.out.below hb3 HK2.out.lt
          have d0 : w3.cell? ⟨w.heap.size, 0, none⟩ = some (.string (strB e.name)) := hK3.cell 0
          have d1 : w3.cell? ⟨w.heap.size, 1, none⟩ = some (.int .i64 e.addr) := hK3.cell 1
          have d2 : w3.cell? ⟨w.heap.size, 2, none⟩ = some (.int .i64 e.size) := hK3.cell 2
          have d3 : w3.cell? ⟨w.heap.size, 3, none⟩ = some (.int .u32 e.print) := hK3.cell 3
          have d4 : w3.cell? ⟨w.heap.size, 4, none⟩ = some (.int .i64 e.way) := hK3.cell 4
          clear hb3 hK3
          go_wp2_with fail
          refine (HOW.out _ HS3.out).mono ?_
          rintro r w4 ⟨rfl, hb4⟩
          have HB4 := keepHid (HB3.out.trans (hb4.mono HB3.out.size))
          clear hb4
          go_wp2
          go_ret
          exact ⟨by rw [HR.out]; rfl, HB4.out⟩


theorem heade_any (A : Option Addr) (n c k : Nat) (hk : k ≤ c) (W : World) :
    (Instr.slice 23 (.slice A n c) none (some (.int .i64 (k : Int))) none).run Tryz.prog W = .ok (.slice A k c) W := by
  rw [run_slice_h W 23 A n c (by kernel_rfl) .i64 (k : Int) (by omega) (by omega)]
  have hs : ∀ W, (sizeOf (Tryz.prog.elem 23)).run Tryz.prog W = .ok 5 W := fun W => by kernel_rfl
  rw [hs]
  have ha : A.map (·.add (0 * 5)) = A := by
    cases A with
    | none => rfl
    | some ad =>
      have : ad.add 0 = ad := by unfold Addr.add; split <;> simp_all
      simp [this]
  show Result.ok (Value.slice (if c = 0 then A else A.map (·.add (0 * 5))) ((k : Int).toNat - 0) (c - 0)) W = _
  rw [ha]
  simp
theorem chkG_go {es : List En} {n k : Nat} {e : En} (h : es[k]? = some e) (h0 : chkE e (es.take k) = 0) : chkG es (n + 1) k = chkG es n (k + 1) := by
  rw [chkG, h]
  simp only
  rw [if_pos h0]
theorem chkG_at {es : List En} {n k : Nat} {e : En} (h : es[k]? = some e) (h0 : chkE e (es.take k) ≠ 0) : chkG es (n + 1) k = ((k : Int), chkE e (es.take k)) := by
  rw [chkG, h]
  simp only
  rw [if_neg h0]
set_option maxRecDepth 100000 in
set_option maxHeartbeats 4000000 in
theorem mchk_any (es : List En) (hF : ∀ e ∈ es, EnF e) (A : Option Addr) (n c : Nat) (hn : n ≤ c) (hc : c ≤ 9223372036854775807) (w : World) (hS : EnS w A n es) :
    Calls Tryz.prog 12 #[.slice A n c] w fun r w' => r = .returned (.tuple #[.int .i64 (checkL es).1, noV (checkL es).2]) ∧ Below w.heap.size w w' := by
  have hlen := hS.len
  by_cases hbad : n = 0 ∨ 8 < n
  · have HR : Hid (checkL es = (-1, 7)) := keepHid (by unfold checkL; rw [if_pos (by omega)])
    have hb2 : ((n : Int) == 0) = true ∨ (((n : Int) == 0) = false ∧ 8 < (n : Int)) := by
      rcases Nat.eq_zero_or_pos n with h | h
      · exact .inl (by simp [h])
      · exact .inr ⟨by simp; omega, by omega⟩
    generalize checkL es = R at *
    clear hbad hF hS hlen
    rcases hb2 with h1 | ⟨h1, h2⟩
    all_goals
      go_enter Tryz.func12, Tryz.ntmps12
      go_wp2
      go_ret2
      exact ⟨by rw [HR.out]; rfl, Below.refl _ _⟩
  · have hn0 : ((n : Int) == 0) = false := by simp; omega
    have hn8 : ¬ 8 < (n : Int) := by omega
    have HC : Hid (checkL es = chkG es n 0) := keepHid (by unfold checkL; rw [if_neg (by omega), hlen])
    have HS := keepHid hS
    have HN := keepHid hlen
    have HF := keepHid hF
    clear hbad hF hS hlen
    go_enter Tryz.func12, Tryz.ntmps12
    go_wp2_with fail
    go_loopw [18] (fun iv wr => ∃ k : Nat, k ≤ n ∧ iv = .int .i64 (k : Int) ∧ Hid (Below w.heap.size w wr) ∧ Hid (chkG es (n - k) k = chkG es n 0) ∧ Hid (∀ o ∈ es.take k, fitsB o = true)) (fun iv _ => n - (intOf iv).toNat)
    case atStart => exact ⟨0, Nat.zero_le _, rfl, keepHid (Below.refl _ _), keepHid rfl, keepHid (fun o h => by simp at h)⟩
    case round =>
      obtain ⟨k, hk, rfl, HB, HG, HO⟩ := hrel
      generalize wr = wq at *
      by_cases hlt : k < n
      · obtain ⟨e, he⟩ : ∃ e, es[k]? = some e := ⟨_, List.getElem?_eq_getElem (by rw [HN.out]; exact hlt)⟩
        obtain ⟨ad, rfl, hadl, a0, a1, a2, a3, a4⟩ := (HS.out.below HB.out (Nat.le_refl _)).at_ he
        have hk' : (k : Int) < (n : Int) := by omega
        obtain ⟨w2, hw2⟩ : ∃ w2, wq.alloc (.cells #[.string (strB e.name), .int .i64 e.addr, .int .i64 e.size, .int .u32 e.print, .int .i64 e.way] 40) = w2 := ⟨_, rfl⟩
        have hK2 : Blk w2 wq.heap.size 40 #[.string (strB e.name), .int .i64 e.addr, .int .i64 e.size, .int .u32 e.print, .int .i64 e.way] := by rw [← hw2]; exact Blk.new wq _ _
        have hB2 : Below wq.heap.size wq w2 := by rw [← hw2]; exact (Below.refl _ _).alloc (Nat.le_refl _) _
        have HB2 := keepHid (HB.out.trans (hB2.mono HB.out.size))
        have HS2 := keepHid (HS.out.below HB2.out (Nat.le_refl _))
        have o0 := cell_regrown (show w2.cell? ⟨wq.heap.size, 0, none⟩ = some (.string (strB e.name)) from hK2.cell 0)
        have o1 := cell_regrown (show w2.cell? ⟨wq.heap.size, 1, none⟩ = some (.int .i64 e.addr) from hK2.cell 1)
        have o2 := cell_regrown (show w2.cell? ⟨wq.heap.size, 2, none⟩ = some (.int .i64 e.size) from hK2.cell 2)
        have o3 := cell_regrown (show w2.cell? ⟨wq.heap.size, 3, none⟩ = some (.int .u32 e.print) from hK2.cell 3)
        have o4 := cell_regrown (show w2.cell? ⟨wq.heap.size, 4, none⟩ = some (.int .i64 e.way) from hK2.cell 4)
        have hcut := fun wx => heade_any (some ad) n c k (by omega) wx
        have CC := keepHid (fun d os => Calls.regrown_of (chk_any e (HF.out e (List.mem_of_getElem? he)) (es.take k) HO.out (some ad) k c (by omega) (Sort.grow (redrawn w2 d) os) ((HS2.out.below (below_regrown w2 d os) (Nat.le_refl _)).take hk)))
        obtain ⟨m, hm⟩ : ∃ m, chkE e (es.take k) = m := ⟨_, rfl⟩
        rw [hm] at CC
        have HM := keepHid hm
        have HE := keepHid he
        unfold enV enA at CC
        clear hK2 hB2 he hm
        generalize strB e.name = NM at *
        generalize e.addr = AD at *
        generalize e.size = SZ at *
        generalize e.print = PR at *
        generalize e.way = WY at *
        go_upto_region 6 with fail
        try rw [hw2]
        clear hw2 a0 a1 a2 a3 a4
        by_cases hm0 : m = 0
        · have hv : noV m = .nilIface := by unfold noV; rw [if_pos hm0]
          have HG2 : Hid (chkG es (n - (k + 1)) (k + 1) = chkG es n 0) := keepHid (by
            rw [← HG.out, show n - k = (n - (k + 1)) + 1 by omega, chkG_go HE.out (by rw [HM.out]; exact hm0)])
          have HO2 : Hid (∀ o ∈ es.take (k + 1), fitsB o = true) := keepHid (fun o h => by
            rw [List.take_succ_of HE.out] at h
            rcases List.mem_append.1 h with h | h
            · exact HO.out o h
            · obtain rfl : o = e := by simpa using h
              exact chk_fits (by rw [HM.out]; exact hm0))
          rw [hv] at CC
          clear hm0 hv HG HO
          refine wp_region_quiet_below (by kernel_rfl) (by kernel_rfl) ?_
          repeat (go_big_quiet_step (first | (with_reducible exact CC.out _ _)))
          refine wpQuiet_nil ?_
          intro _ hw'
          obtain ⟨⟨dq, osq⟩, hw''⟩ := hw'
          subst hw''
          have HB5 := keepHid (HB2.out.trans ((below_regrown w2 dq osq).mono HB2.out.size))
          clear o0 o1 o2 o3 o4 CC
          go_wp2
          go_roundw
          case rel => exact ⟨k + 1, by omega, by go_num, HB5, HG2, HO2⟩
          case measure => simp [intOf]; omega
        · have hv : noV m = .iface 28 (.int .i64 (m : Int)) := by unfold noV; rw [if_neg hm0]
          have HR : Hid (checkL es = ((k : Int), m)) := keepHid (by
            rw [HC.out, ← HG.out, show n - k = (n - (k + 1)) + 1 by omega, chkG_at HE.out (by rw [HM.out]; exact hm0), HM.out])
          have HV := keepHid hv
          rw [hv] at CC
          clear hm0 hv HG HO
          refine wp_region_quiet_below (by kernel_rfl) (by kernel_rfl) ?_
          repeat (go_big_quiet_step (first | (with_reducible exact CC.out _ _)))
          refine wpQuiet_nil ?_
          intro _ hw'
          obtain ⟨⟨dq, osq⟩, hw''⟩ := hw'
          subst hw''
          have HB5 := keepHid (HB2.out.trans ((below_regrown w2 dq osq).mono HB2.out.size))
          clear o0 o1 o2 o3 o4 CC
          go_wp2
          go_ret2
          exact ⟨by rw [HR.out]; show _ = Ending.returned (.tuple #[.int .i64 (k : Int), noV m]); rw [HV.out]; rfl, HB5.out⟩
      · obtain rfl : k = n := by omega
        have HR : Hid (checkL es = (0, 0)) := keepHid (by rw [HC.out, ← HG.out, Nat.sub_self]; rfl)
        go_wp2
        go_ret2
        exact ⟨by rw [HR.out]; rfl, HB.out⟩
end Go.Proofs.YtkhhcclomjfliaaGreatDoor
