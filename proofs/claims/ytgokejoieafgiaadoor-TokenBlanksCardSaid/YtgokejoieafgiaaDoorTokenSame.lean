/-
  The same tokens, but for their places: the law's own Same.
-/
import Derived.Test.YtgokejoieafgiaaDoorTokenLow
import Derived.Lib.QuietBelow
import Derived.Deep.DeepCutAuto
namespace Go.Proofs.YtgokejoieafgiaaDoor
open Go.RowKit
set_option linter.unusedVariables false

def strip (t : Tk) : Nat × List UInt8 × Nat := (t.kind, t.text, t.val)
/-- Tokens that are read, or none. -/
def TkR (w : World) (A : Option Addr) (l : List Tk) : Prop := l = [] ∨ ∃ g, A = some ⟨g, 0, none⟩ ∧ TkS w g l
theorem TkR.below {w w' : World} {B : Nat} {A : Option Addr} {l : List Tk} (h : TkR w A l) (hb : Below B w w') (hB : w.heap.size ≤ B) : TkR w' A l := by
  rcases h with h | ⟨g, rfl, h⟩
  · exact .inl h
  · exact .inr ⟨g, rfl, h.below hb (Nat.lt_of_lt_of_le h.lt hB)⟩
theorem OwnT.tkr {w : World} {base n c : Nat} {A : Option Addr} {zs : List Tk} (h : OwnT w base (.slice A n c) n zs) : TkR w A zs := by
  obtain ⟨A', c', e, _, _, hA⟩ := h.form
  obtain ⟨rfl, _, rfl⟩ : A = A' ∧ n = n ∧ c = c' := by injection e with e1 e2 e3; exact ⟨e1, e2, e3⟩
  rcases hA with ⟨_, hn⟩ | ⟨g, rfl, _⟩
  · left
    have := h.len
    exact List.eq_nil_of_length_eq_zero (by omega)
  · exact .inr ⟨g, rfl, h.tks⟩
theorem TkR.at_ {w : World} {A : Option Addr} {l : List Tk} (h : TkR w A l) {k : Nat} {t : Tk} (hk : l[k]? = some t) : ∃ g, A = some ⟨g, 0, none⟩ ∧ g < w.heap.size ∧ w.cell? ⟨g, k * 4, none⟩ = some (.int .i64 (t.kind : Int)) ∧ w.cell? ⟨g, k * 4 + 1, none⟩ = some (.string (strB t.text)) ∧ w.cell? ⟨g, k * 4 + 2, none⟩ = some (.int .i64 (t.val : Int)) ∧ w.cell? ⟨g, k * 4 + 3, none⟩ = some (.int .i64 (t.pos : Int)) := by
  rcases h with rfl | ⟨g, rfl, h⟩
  · simp at hk
  · obtain ⟨h0, h1, h2, h3⟩ := h.at_ k t hk
    exact ⟨g, rfl, h.lt, h0, h1, h2, h3⟩
theorem TkR.take {w : World} {A : Option Addr} {l : List Tk} (h : TkR w A l) (k : Nat) : TkR w A (l.take k) := by
  rcases h with rfl | ⟨g, rfl, h⟩
  · exact .inl (by simp)
  · exact .inr ⟨g, rfl, h.lt, fun j z hz => h.at_ j z (by rw [List.getElem?_take] at hz; split at hz; exact hz; cases hz)⟩
theorem strip_eq (a b : Tk) : (strip a = strip b) ↔ (a.kind = b.kind ∧ a.text = b.text ∧ a.val = b.val) := by
  unfold strip
  simp
theorem map_take_succ {la lb : List Tk} {k : Nat} {a b : Tk} (ha : la[k]? = some a) (hb : lb[k]? = some b) : (la.take (k + 1)).map strip = (lb.take (k + 1)).map strip ↔ ((la.take k).map strip = (lb.take k).map strip ∧ strip a = strip b) := by
  rw [List.take_succ_of ha, List.take_succ_of hb, List.map_append, List.map_append]
  have hl : ((la.take k).map strip).length = ((lb.take k).map strip).length := by
    have h1 := (List.getElem?_eq_some_iff.1 ha).1
    have h2 := (List.getElem?_eq_some_iff.1 hb).1
    simp; omega
  constructor
  · intro h
    obtain ⟨h1, h2⟩ := List.append_inj h hl
    exact ⟨h1, by simpa using h2⟩
  · rintro ⟨h1, h2⟩
    rw [h1]; simp [h2]
theorem map_ne {la lb : List Tk} {k : Nat} {a b : Tk} (ha : la[k]? = some a) (hb : lb[k]? = some b) (h : strip a ≠ strip b) : la.map strip ≠ lb.map strip := fun e => by
  have h1 : (la.map strip)[k]? = some (strip a) := by rw [List.getElem?_map, ha]; rfl
  have h2 : (lb.map strip)[k]? = some (strip b) := by rw [List.getElem?_map, hb]; rfl
  rw [e, h2] at h1
  exact h (Option.some.inj h1).symm

set_option maxRecDepth 100000 in
set_option maxHeartbeats 4000000 in
theorem same_any (la lb : List Tk) (A B : Option Addr) (n m ca cb : Nat) (hn : la.length = n) (hm : lb.length = m) (hb63 : n ≤ 9223372036854775807 ∧ m ≤ 9223372036854775807) (w : World) (hA : TkR w A la) (hB : TkR w B lb) :
    Calls Tryd.prog 13 #[.slice A n ca, .slice B m cb] w fun e w' => e = .returned (.bool (decide (la.map strip = lb.map strip))) ∧ Below w.heap.size w w' := by
  have HA := keepHid hA
  have HB := keepHid hB
  by_cases hnm : n = m
  · subst hnm
    have hnn : ((n : Int) == (n : Int)) = true := by simp
    have HN := keepHid hn
    have HM := keepHid hm
    have HFIN : Hid ((la.take n).map strip = (lb.take n).map strip → decide (la.map strip = lb.map strip) = true) := keepHid fun h => by
      rw [List.take_of_length_le (by omega), List.take_of_length_le (by omega)] at h
      exact decide_eq_true h
    have HST : Hid (∀ k a b, la[k]? = some a → lb[k]? = some b → (la.take k).map strip = (lb.take k).map strip → strip a = strip b → (la.take (k + 1)).map strip = (lb.take (k + 1)).map strip) := keepHid fun k a b ha hb h1 h2 => (map_take_succ ha hb).2 ⟨h1, h2⟩
    have HNE : Hid (∀ k a b, la[k]? = some a → lb[k]? = some b → strip a ≠ strip b → decide (la.map strip = lb.map strip) = false) := keepHid fun k a b ha hb h => decide_eq_false (map_ne ha hb h)
    generalize decide (la.map strip = lb.map strip) = R at *
    clear hA hB hn hm
    go_enter Tryd.func13, Tryd.ntmps13
    go_wp2
    go_loopw [13] (fun kv wr => ∃ k : Nat, kv = .int .i64 (k : Int) ∧ k ≤ n ∧ Hid ((la.take k).map strip = (lb.take k).map strip) ∧ Hid (Below w.heap.size w wr)) (fun kv _ => n - (intOf kv).toNat)
    case atStart => exact ⟨0, rfl, Nat.zero_le _, keepHid rfl, keepHid (Below.refl _ _)⟩
    case round =>
      obtain ⟨k, rfl, hk, HE, HBW⟩ := hrel
      generalize wr = wq at *
      by_cases hkN : k < n
      · obtain ⟨a, ha⟩ : ∃ a, la[k]? = some a := ⟨_, List.getElem?_eq_getElem (by rw [HN.out]; exact hkN)⟩
        obtain ⟨b, hb⟩ : ∃ b, lb[k]? = some b := ⟨_, List.getElem?_eq_getElem (by rw [HM.out]; exact hkN)⟩
        obtain ⟨ga, rfl, gla, a0, a1, a2, a3⟩ := (HA.out.below HBW.out (Nat.le_refl _)).at_ ha
        obtain ⟨gb, rfl, glb, b0, b1, b2, b3⟩ := (HB.out.below HBW.out (Nat.le_refl _)).at_ hb
        have f0 := fun q os => cell_regrown a0 q os
        have f1 := fun q os => cell_regrown a1 q os
        have f2 := fun q os => cell_regrown a2 q os
        have e0 := fun q os => cell_regrown b0 q os
        have e1 := fun q os => cell_regrown b1 q os
        have e2 := fun q os => cell_regrown b2 q os
        have hkI : (k : Int) < (n : Int) := by omega
        have HSE := keepHid (strip_eq a b)
        have HN1 := keepHid (HST.out k a b ha hb HE.out)
        have HN2 := keepHid (HNE.out k a b ha hb)
        have hte := strB_beq a.text b.text
        clear a0 a1 a2 a3 b0 b1 b2 b3 HST HNE ha hb
        by_cases q1 : a.kind = b.kind
        · have k1 : ((a.kind : Int) != (b.kind : Int)) = false := by simp [q1]
          by_cases q2 : a.text = b.text
          · have hte2 : ((strB a.text).toList != (strB b.text).toList) = false := by rw [bne, hte, decide_eq_true q2]; rfl
            rw [decide_eq_true q2] at hte
            by_cases q3 : a.val = b.val
            · have k3 : ((a.val : Int) != (b.val : Int)) = false := by simp [q3]
              have HR := keepHid (HN1.out (HSE.out.2 ⟨q1, q2, q3⟩))
              clear HN1 HN2 HSE q1 q2 q3
              go_upto_region 6 with fail
              refine wp_region_quiet_below (by kernel_rfl) (by kernel_rfl) ?_
              repeat (go_big_quiet_step (fail))
              refine wpQuiet_nil ?_
              intro wz hw'
              obtain ⟨⟨dq, osq⟩, hw''⟩ := hw'
              subst hw''
              have HBZ := keepHid (HBW.out.trans ((below_regrown wq dq osq).mono HBW.out.size))
              clear f0 f1 f2 e0 e1 e2
              go_wp2
              go_roundw
              case rel => exact ⟨k + 1, by go_num, by omega, HR, HBZ⟩
              case measure => simp [intOf]; omega
            · have k3 : ((a.val : Int) != (b.val : Int)) = true := by simp; omega
              have HR := keepHid (HN2.out (fun e => q3 (HSE.out.1 e).2.2))
              clear HN1 HN2 HSE q1 q2 q3
              go_upto_region 6 with fail
              refine wp_region_quiet_below (by kernel_rfl) (by kernel_rfl) ?_
              repeat (go_big_quiet_step (fail))
              refine wpQuiet_nil ?_
              intro wz hw'
              obtain ⟨⟨dq, osq⟩, hw''⟩ := hw'
              subst hw''
              have HBZ := keepHid (HBW.out.trans ((below_regrown wq dq osq).mono HBW.out.size))
              clear f0 f1 f2 e0 e1 e2
              go_wp2
              go_ret
              exact ⟨ret_bool HR.out.symm, HBZ.out⟩
          · have hte2 : ((strB a.text).toList != (strB b.text).toList) = true := by rw [bne, hte, decide_eq_false q2]; rfl
            rw [decide_eq_false q2] at hte
            have HR := keepHid (HN2.out (fun e => q2 (HSE.out.1 e).2.1))
            clear HN1 HN2 HSE q1 q2
            go_upto_region 6 with fail
            refine wp_region_quiet_below (by kernel_rfl) (by kernel_rfl) ?_
            repeat (go_big_quiet_step (fail))
            refine wpQuiet_nil ?_
            intro wz hw'
            obtain ⟨⟨dq, osq⟩, hw''⟩ := hw'
            subst hw''
            have HBZ := keepHid (HBW.out.trans ((below_regrown wq dq osq).mono HBW.out.size))
            clear f0 f1 f2 e0 e1 e2
            go_wp2
            go_ret
            exact ⟨ret_bool HR.out.symm, HBZ.out⟩
        · have k1 : ((a.kind : Int) != (b.kind : Int)) = true := by simp; omega
          have HR := keepHid (HN2.out (fun e => q1 (HSE.out.1 e).1))
          clear HN1 HN2 HSE q1 hte
          go_upto_region 6 with fail
          refine wp_region_quiet_below (by kernel_rfl) (by kernel_rfl) ?_
          repeat (go_big_quiet_step (fail))
          refine wpQuiet_nil ?_
          intro wz hw'
          obtain ⟨⟨dq, osq⟩, hw''⟩ := hw'
          subst hw''
          have HBZ := keepHid (HBW.out.trans ((below_regrown wq dq osq).mono HBW.out.size))
          clear f0 f1 f2 e0 e1 e2
          go_wp2
          go_ret
          exact ⟨ret_bool HR.out.symm, HBZ.out⟩
      · obtain rfl : k = n := by omega
        have HR := keepHid (HFIN.out HE.out)
        clear HFIN HST HNE
        go_wp2
        go_ret
        exact ⟨ret_bool HR.out.symm, HBW.out⟩
  · have hne : ((n : Int) == (m : Int)) = false := by simp; omega
    have HR : Hid (decide (la.map strip = lb.map strip) = false) := keepHid (decide_eq_false fun e => hnm (by have := congrArg List.length e; simp at this; omega))
    generalize decide (la.map strip = lb.map strip) = R at *
    clear hA hB hn hm HA HB
    go_enter Tryd.func13, Tryd.ntmps13
    go_wp2
    go_ret
    exact ⟨ret_bool HR.out.symm, Below.refl _ _⟩
end Go.Proofs.YtgokejoieafgiaaDoor
