/-
  A Watch is made, by contract.
-/
import Derived.Test.YtgidoieppplhpaaDoorExpectOf
import Derived.LoopTactic
import Derived.Deep.DeepCutAuto
namespace Go.Proofs.YtgidoieppplhpaaDoor
open Go.RowKit
set_option linter.unusedVariables false

def OfPost9 (ss : List (List UInt8)) (w : World) (e : Ending) (w' : World) : Prop :=
  Below w.heap.size w w' ∧
  (((ss.length = 0 ∨ 8 < ss.length) ∧ e = .returned (.tuple #[.pointer none, errnoV 7])) ∨
   (1 ≤ ss.length ∧ ss.length ≤ 8 ∧ ((∃ rs g A cap, of9 ss = .inl rs ∧ e = .returned (.tuple #[ptrV g, .nilIface]) ∧ w.heap.size ≤ g ∧ Wat0 w' w'.heap.size g (rs.map auOf) A cap) ∨ (∃ x v, of9 ss = .inr (.iface x v) ∧ e = .returned (.tuple #[.pointer none, .iface x v])))))
theorem infoT : (Tryd.prog.info? 42).map (fun i => (i.zero, i.size, i.bytes)) = some (some (.pointer none), 1, 8) := by kernel_rfl
set_option maxRecDepth 100000 in
set_option maxHeartbeats 4000000 in
theorem ofw_any {P : Option Addr} {n c : Nat} (ss : List (List UInt8)) {w : World} (hs : Sl strV w P n ss) : Calls Tryd.prog 7 #[.slice P n c] w (OfPost9 ss w) := by
  have HSS := keepHid hs
  have hl := hs.len
  have HL := keepHid hl
  clear hs hl
  rcases (by omega : n = 0 ∨ 8 < n ∨ (1 ≤ n ∧ n ≤ 8)) with h0 | h8 | ⟨h1, h8⟩
  · subst h0
    go_enter Tryd.func7, Tryd.ntmps7
    go_wp2
    go_ret2
    exact ⟨Below.refl _ _, .inl ⟨.inl HL.out, rfl⟩⟩
  · have hz : ((n : Int) == 0) = false := by simp; omega
    have hg : (8 : Int) < (n : Int) := by omega
    go_enter Tryd.func7, Tryd.ntmps7
    go_wp2
    go_ret2
    exact ⟨Below.refl _ _, .inl ⟨.inr (by rw [HL.out]; exact h8), rfl⟩⟩
  · have hz : ((n : Int) == 0) = false := by simp; omega
    have hg : ¬ (8 : Int) < (n : Int) := by omega
    go_enter Tryd.func7, Tryd.ntmps7
    go_upto_region 4 with fail
    obtain ⟨w1, hw1⟩ : ∃ w1, w.alloc (.cells #[.slice none 0 0, .slice none 0 0, .slice none 0 0, .slice none 0 0, .slice none 0 0, .slice none 0 0, .slice none 0 0, .slice none 0 0, .slice none 0 0, .int .i64 0, .bool false] 60) = w1 := ⟨_, rfl⟩
    have hb1 : Below w.heap.size w w1 := by rw [← hw1]; exact (Below.refl _ _).alloc (Nat.le_refl _) _
    have hm1 : OfMid w1 w.heap.size [] [] none 0 := by
      refine ⟨by rw [← hw1]; exact Blk.new _ _ _, World.ownsRow_nil _ _ _ _, rfl, fun j r hr => by simp at hr, fun r hr => by simp at hr⟩
    have HB1 := keepHid hb1
    have HM1 := keepHid hm1
    rw [hw1]
    generalize hgg : w.heap.size = g at *
    have HGG := keepHid hgg
    clear hb1 hm1 hw1 hz hg hgg
    go_wp2_with fail
    go_loopw [22] (fun i wr => ∃ (j : Nat) (rs : List Re) (ts : List Nat) (A : Option Addr) (cap : Nat), j ≤ n ∧ i = .int .i64 j ∧ Hid (of9 (ss.take j) = .inl rs) ∧ Hid (OfMid wr g rs ts A cap) ∧ Hid (Below g w wr)) (fun i _ => n - (intOf i).toNat)
    case atStart => exact ⟨0, [], [], none, 0, Nat.zero_le _, rfl, keepHid rfl, HM1, HB1⟩
    case round =>
      obtain ⟨j, rs, ts, A, cap, hj, rfl, HOF, HM, HB⟩ := hrel
      have HRL : Hid (rs.length = j) := keepHid (by rw [of9_len _ _ HOF.out, List.length_take, HL.out]; omega)
      rcases Nat.lt_or_ge j n with hlt | hge
      · obtain ⟨s, hsj⟩ : ∃ s, ss[j]? = some s := ⟨_, List.getElem?_eq_getElem (by rw [HL.out]; exact hlt)⟩
        have hS2 := (HSS.out.below (HGG.out ▸ HB.out))
        obtain ⟨ad, rfl, hbl, hcell⟩ := hS2.2.2 j s hsj
        have HSJ := keepHid hsj
        have HT := keepHid (table_any s wr)
        have hji : (j : Int) < (n : Int) := by omega
        clear hsj hS2 hbl
        unfold strV at hcell
        go_wp2_with fail
        with_reducible refine HT.out.mono ?_
        rintro e w2 ⟨hb2, hc⟩
        have HB2 := keepHid hb2
        have HBB : Hid (Below g w w2) := keepHid (HB.out.trans (hb2.mono (HGG.out ▸ HB.out.size)))
        rcases hc with ⟨r, t, hp, rfl, hta, hwf⟩ | ⟨x, v, hp, rfl⟩
        · have HP := keepHid hp
          have HOF2 : Hid (of9 (ss.take (j + 1)) = .inl (rs ++ [r])) := keepHid (by rw [List.take_succ_of HSJ.out]; exact of9_snoc _ _ _ _ HOF.out hp)
          have HM2 := keepHid (HM.out.below hb2)
          obtain ⟨w3, hw3⟩ : ∃ w3, w2.alloc (.cells #[ptrV t] 42) = w3 := ⟨_, rfl⟩
          have hb3 : Below w2.heap.size w2 w3 := by rw [← hw3]; exact (Below.refl _ _).alloc (Nat.le_refl _) _
          have hk3 : Blk w3 w2.heap.size 42 #[ptrV t] := by rw [← hw3]; exact Blk.new _ _ _
          have hc3 : w3.cell? ⟨w2.heap.size, 0, none⟩ = some (ptrV t) := hk3.cell 0
          have HM3 := keepHid (HM2.out.below hb3)
          have HTA3 : Hid (TabA w3 (g + 1) t (auOf r)) := keepHid ((hta.low (by have := HM.out.blk.lt; omega)).keep hb3)
          have HWF := keepHid hwf
          have HB3 : Hid (Below g w w3) := keepHid (HBB.out.trans (hb3.mono (HGG.out ▸ HBB.out.size)))
          have hown := HM3.out.own
          have hgt : Hid (g + 1 ≤ w3.heap.size) := keepHid HM3.out.blk.lt
          have m0 : w3.cell? ⟨g, 0, none⟩ = some (.slice A j cap) := by rw [← HRL.out]; exact (HM3.out.blk.cell 0).trans (cells_tabs _ _ _ _)
          have m00 : w2.cell? ⟨g, 0, none⟩ = some (.slice A j cap) := by rw [← HRL.out]; exact (HM2.out.blk.cell 0).trans (cells_tabs _ _ _ _)
          rw [HRL.out] at hown
          unfold ptrV at hw3 hc3 ⊢
          clear hp hta hwf hb2 hb3 hk3
          go_wp2_with (first | (at_builtin; refine wpList_append_cell Tryd.underlying56 infoT rfl (by omega) w3 rfl _ _ rfl (g + 1) (.slice A j cap) j (ts.map ptrV) rfl hown w2.heap.size rfl _ hc3 rfl (by omega) hgt.out ?_; intro P2 cap2 w4 ho4 hg4 hv4; have hpu := HM3.out.push HTA3.out HWF.out (by rw [HRL.out]; exact ho4) (by rw [HRL.out]; exact hg4); rw [HRL.out] at hpu; have HPU := keepHid hpu; have m4 := hpu.2.1; have f4 := hpu.2.2.1; clear hpu ho4 hg4 hv4))
          go_roundw
          case rel => exact ⟨j + 1, rs ++ [r], ts ++ [t], P2, cap2, by omega, by go_num, HOF2, keepHid HPU.out.1, keepHid (HB3.out.trans (HPU.out.2.2.2.below (fun _ h => h) (by have := hgt.out; omega)))⟩
          case measure => simp [intOf]; omega
        · have HBAD : Hid (of9 ss = .inr (.iface x v)) := keepHid (by
            have e : ss = ss.take j ++ s :: ss.drop (j + 1) := by
              have := List.take_append_drop j ss
              rw [List.drop_eq_getElem_cons (by rw [HL.out]; exact hlt)] at this
              have e2 : ss[j]'(by rw [HL.out]; exact hlt) = s := by
                have := HSJ.out
                rw [List.getElem?_eq_getElem (by rw [HL.out]; exact hlt)] at this
                exact Option.some.inj this
              rw [e2] at this
              exact this.symm
            rw [e]
            exact of9_bad _ _ _ _ _ HOF.out hp)
          clear hp hb2
          go_wp2
          go_ret2
          exact ⟨HGG.out ▸ HBB.out, .inr ⟨by rw [HL.out]; exact h1, by rw [HL.out]; exact h8, .inr ⟨x, v, HBAD.out, rfl⟩⟩⟩
      · have HALL : Hid (of9 ss = .inl rs) := keepHid (by
          have := HOF.out
          rwa [List.take_of_length_le (by rw [HL.out]; exact hge)] at this)
        have HD := keepHid (HM.out.done (by rw [HRL.out]; omega))
        have hji : ¬ (j : Int) < (n : Int) := by omega
        go_wp2
        go_ret2
        exact ⟨HGG.out ▸ HB.out, .inr ⟨by rw [HL.out]; exact h1, by rw [HL.out]; exact h8, .inl ⟨rs, g, A, cap, HALL.out, rfl, by rw [HGG.out]; exact Nat.le_refl _, HD.out⟩⟩⟩
end Go.Proofs.YtgidoieppplhpaaDoor
