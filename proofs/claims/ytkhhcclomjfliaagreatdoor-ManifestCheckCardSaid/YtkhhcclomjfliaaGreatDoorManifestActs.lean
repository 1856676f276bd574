/-
  The law's own Entries: of up to eight acts.
-/
import Derived.Test.YtkhhcclomjfliaaGreatDoorManifestAct
namespace Go.Proofs.YtkhhcclomjfliaaGreatDoor
open Go.RowKit
set_option linter.unusedVariables false

/-- The slice value '.slice A n _' holds these acts. -/
def MacS (w : World) (A : Option Addr) (n : Nat) (ms : List Mac) : Prop :=
  ms.length = n ∧ ∀ k a, ms[k]? = some a → ∃ ad Ak ck, A = some ad ∧ ad.block < w.heap.size ∧ w.cell? (ad.add (k * 5)) = some (.slice Ak a.nm.length ck) ∧ w.cell? (ad.add (k * 5 + 1)) = some (.int .u16 (a.ad : Int)) ∧ w.cell? (ad.add (k * 5 + 2)) = some (.int .u16 (a.sz : Int)) ∧
    w.cell? (ad.add (k * 5 + 3)) = some (.int .u32 (a.pr : Int)) ∧ w.cell? (ad.add (k * 5 + 4)) = some (.int .u8 (a.wy : Int)) ∧ MacF a ∧ Bys w w.heap.size Ak a.nm.length a.nm
theorem MacS.len {w : World} {A : Option Addr} {n : Nat} {ms : List Mac} (h : MacS w A n ms) : ms.length = n := h.1
theorem MacS.below {w w' : World} {A : Option Addr} {n : Nat} {ms : List Mac} (h : MacS w A n ms) (hb : Below w.heap.size w w') : MacS w' A n ms :=
  ⟨h.1, fun k a hk => by
    obtain ⟨ad, Ak, ck, e, hl, h0, h1, h2, h3, h4, hF, hN⟩ := h.2 k a hk
    have hc : ∀ j, w'.cell? (ad.add j) = w.cell? (ad.add j) := fun j => hb.cell (by rw [ad_block]; exact hl)
    exact ⟨ad, Ak, ck, e, Nat.lt_of_lt_of_le hl hb.size, (hc _).trans h0, (hc _).trans h1, (hc _).trans h2, (hc _).trans h3, (hc _).trans h4, hF, (hN.below hb).more hb.size⟩⟩
theorem MacS.at_ {w : World} {A : Option Addr} {n k : Nat} {ms : List Mac} {a : Mac} (h : MacS w A n ms) (hk : ms[k]? = some a) : ∃ ad Ak ck, A = some ad ∧ w.cell? (ad.add (k * 5)) = some (.slice Ak a.nm.length ck) ∧ w.cell? ⟨(ad.add (k * 5)).block, (ad.add (k * 5)).off + 1, none⟩ = some (.int .u16 (a.ad : Int)) ∧
    w.cell? ⟨(ad.add (k * 5)).block, (ad.add (k * 5)).off + 2, none⟩ = some (.int .u16 (a.sz : Int)) ∧ w.cell? ⟨(ad.add (k * 5)).block, (ad.add (k * 5)).off + 3, none⟩ = some (.int .u32 (a.pr : Int)) ∧ w.cell? ⟨(ad.add (k * 5)).block, (ad.add (k * 5)).off + 4, none⟩ = some (.int .u8 (a.wy : Int)) ∧ MacF a ∧ Bys w w.heap.size Ak a.nm.length a.nm := by
  obtain ⟨ad, Ak, ck, e, hl, h0, h1, h2, h3, h4, hF, hN⟩ := h.2 k a hk
  have hs : ∀ j, (⟨(ad.add (k * 5)).block, (ad.add (k * 5)).off + (j + 1), none⟩ : Addr) = ad.add (k * 5 + (j + 1)) := fun j => by rw [← ad_add, Addr.add_succ' (ad.add (k * 5)) j]
  refine ⟨ad, Ak, ck, e, h0, ?_, ?_, ?_, ?_, hF, hN⟩
  · rw [hs 0]; exact h1
  · rw [hs 1]; exact h2
  · rw [hs 2]; exact h3
  · rw [hs 3]; exact h4
def mac0 : Mac := ⟨[], 0, 0, 0, 0⟩
def entsTo (ms : List Mac) (k : Nat) : List En := (List.range (min 8 k)).map fun j => entOf (ms.getD j mac0) j
def entsOf (ms : List Mac) : List En := entsTo ms ms.length
theorem ents_step {ms : List Mac} {k : Nat} {a : Mac} (h : ms[k]? = some a) (hk : k < 8) : entsTo ms (k + 1) = entsTo ms k ++ [entOf a k] := by
  unfold entsTo
  rw [Nat.min_eq_right (by omega), Nat.min_eq_right (by omega), List.range_succ, List.map_append, List.map_singleton, List.getD_eq_getElem?_getD, h]
  rfl
theorem ents_stay (ms : List Mac) {k : Nat} (hk : 8 ≤ k) : entsTo ms (k + 1) = entsTo ms k := by
  unfold entsTo
  rw [Nat.min_eq_left (by omega), Nat.min_eq_left hk]
theorem ents_len (ms : List Mac) (k : Nat) : (entsTo ms k).length ≤ 8 := by
  unfold entsTo
  rw [List.length_map, List.length_range]; omega
set_option maxRecDepth 100000 in
set_option maxHeartbeats 8000000 in
theorem ents_any (ms : List Mac) (A : Option Addr) (n c : Nat) (hn : n ≤ 9223372036854775807) (w : World) (hS : MacS w A n ms) :
    Calls Tryz.prog 11 #[.slice A n c] w fun r w' => (∃ B m cb, r = .returned (.slice B m cb) ∧ OwnE w' w.heap.size (.slice B m cb) m (entsOf ms)) ∧ Below w.heap.size w w' := by
  have HS := keepHid hS
  have HN := keepHid hS.len
  clear hS
  go_enter Tryz.func11, Tryz.ntmps11
  go_wp2_with fail
  go_loopw [8, 3] (fun iv ev wr => ∃ (k : Nat) (B : Option Addr) (m cb : Nat), k ≤ n ∧ iv = .int .i64 (k : Int) ∧ ev = .slice B m cb ∧ Hid (OwnE wr w.heap.size (.slice B m cb) m (entsTo ms k)) ∧ Hid (Below w.heap.size w wr)) (fun iv _ _ => n - (intOf iv).toNat)
  case atStart => exact ⟨0, none, 0, 0, Nat.zero_le _, rfl, rfl, keepHid (OwnE.nil _ _), keepHid (Below.refl _ _)⟩
  case round =>
    obtain ⟨k, B, m, cb, hk, rfl, rfl, HO, HB⟩ := hrel
    generalize wr = wq at *
    by_cases hlt : k < n
    · obtain ⟨a, ha⟩ : ∃ a, ms[k]? = some a := ⟨_, List.getElem?_eq_getElem (by rw [HN.out]; exact hlt)⟩
      obtain ⟨ad, Ak, ck, rfl, c0, c1, c2, c3, c4, hF, hNM⟩ := (HS.out.below HB.out).at_ ha
      have hk' : (k : Int) < (n : Int) := by omega
      have HST := keepHid (fun h => ents_step ha h)
      obtain ⟨w2, hw2⟩ : ∃ w2, wq.alloc (.cells #[.slice Ak a.nm.length ck, .int .u16 (a.ad : Int), .int .u16 (a.sz : Int), .int .u32 (a.pr : Int), .int .u8 (a.wy : Int)] 70) = w2 := ⟨_, rfl⟩
      have hK2 : Blk w2 wq.heap.size 70 #[.slice Ak a.nm.length ck, .int .u16 (a.ad : Int), .int .u16 (a.sz : Int), .int .u32 (a.pr : Int), .int .u8 (a.wy : Int)] := by rw [← hw2]; exact Blk.new wq _ _
      have hB2 : Below wq.heap.size wq w2 := by rw [← hw2]; exact (Below.refl _ _).alloc (Nat.le_refl _) _
      have HB2 := keepHid (HB.out.trans (hB2.mono HB.out.size))
      have HO2 := keepHid (HO.out.below hB2)
      by_cases h8 : k < 8
      · have h8' : (k : Int) < 8 := by omega
        have HAC := keepHid (act_any a hF k h8 Ak a.nm.length ck w2 ((hNM.below hB2).more hB2.size))
        have HS1 := keepHid (HST.out h8)
        have b0 := hK2.cell 0; have b1 := hK2.cell 1; have b2 := hK2.cell 2; have b3 := hK2.cell 3; have b4 := hK2.cell 4
        simp at b0 b1 b2 b3 b4
        have HLE : Hid (m ≤ 8) := keepHid (by have h1 := HO.out.len; have h2 := ents_len ms k; omega)
        clear hK2 hB2 hF hNM HST ha HO
        generalize (a.ad : Int) = AD at *
        generalize (a.sz : Int) = SZ at *
        generalize (a.pr : Int) = PR at *
        generalize (a.wy : Int) = WY at *
        generalize a.nm.length = NL at *
        go_wp2_with fail
        refine HAC.out.mono ?_
        rintro r w3 ⟨rfl, hb3⟩
        have HB3 := keepHid (HB2.out.trans (hb3.mono HB2.out.size))
        have HO3 := keepHid (HO2.out.below hb3)
        obtain ⟨w4, hw4⟩ : ∃ w4, w3.alloc (.cells (enA (entOf a k)) 40) = w4 := ⟨_, rfl⟩
        have hK4 : Blk w4 w3.heap.size 40 (enA (entOf a k)) := by rw [← hw4]; exact Blk.new w3 _ _
        have hB4 : Below w3.heap.size w3 w4 := by rw [← hw4]; exact (Below.refl _ _).alloc (Nat.le_refl _) _
        have HK4 := keepHid hK4
        have HO4 := keepHid (HO3.out.below hB4)
        have HB4 := keepHid (HB3.out.trans (hB4.mono HB3.out.size))
        clear hb3 hK4 hB4 HO2 HO3 HAC
        unfold enV
        generalize hEE : entOf a k = EE at *
        unfold enA at hw4
        unfold enA
        go_wp2_with (at_builtin; refine wpList_append_en rfl _ _ rfl w.heap.size (.slice B m cb) m (entsTo ms k) (by rfl) HO4.out w3.heap.size (by rfl) EE HK4.out (by have := HLE.out; omega) HB4.out.size ?_)
        intro G5 cap5 w5 q1 q2
        have HO5 := keepHid q1
        have HB5 := keepHid (HB4.out.trans q2)
        clear q1 q2 hw4
        go_wp2
        go_roundw
        case rel => exact ⟨k + 1, some ⟨G5, 0, none⟩, m + 1, cap5, by omega, by go_num, by go_num, keepHid (by rw [HS1.out]; exact HO5.out), HB5⟩
        case measure => simp [intOf]; omega
      · have h8' : ¬ (k : Int) < 8 := by omega
        have HS1 := keepHid (ents_stay ms (k := k) (by omega))
        clear hK2 hB2 hF hNM HST ha HO
        go_wp2
        go_roundw
        case rel => exact ⟨k + 1, B, m, cb, by omega, by go_num, rfl, keepHid (by rw [HS1.out]; exact HO2.out), HB2⟩
        case measure => simp [intOf]; omega
    · obtain rfl : k = n := by omega
      have HE : Hid (entsTo ms k = entsOf ms) := keepHid (by unfold entsOf; rw [HN.out])
      go_wp2
      go_ret
      exact ⟨⟨B, m, cb, rfl, by rw [← HE.out]; exact HO.out⟩, HB.out⟩
end Go.Proofs.YtkhhcclomjfliaaGreatDoor
