/-
  'lifelinelaw04.BlockSplit' answers true for every input, and leaves its arguments as they were.
  Conditions: none but what the row itself says of its arguments (how much memory each may take).
-/
import Derived.Test.YtahlllkmjibbpaaRows
import Derived.Test.YtahlllkmjibbpaaBlockLaw
import Derived.Test.YtahlllkmjibbpaaFrame
import Derived.Test.YtahlllkmjibbpaaBlockSame
import Derived.WalkKit
import Derived.Deep.RegionHeld3
import Derived.Deep.RegionWith
import Derived.Deep.DrawnRows
import Derived.ProofKit
import Derived.OpenShut
import Derived.ShutString
import Derived.ChangeOld
import Derived.Below
namespace Go.Proofs.Ytahlllkmjibbpaa.blockSplit
open Go.ChangeShapes Go.WideShapes Go.ChangeAt Go.RowKit
open Go.ChangeMaps (open_string shut_string)
set_option linter.unusedVariables false

theorem own : ownKnob Try.prog.godebug = none := by kernel_rfl
theorem laidOut : laidOutB Try.prog = true := by kernel_rfl

/-- A part as far as it is laid. -/
def pL (F : List UInt8) (S k : Nat) : List UInt8 := F.take k ++ zeros (S - k)
theorem pL_len {F : List UInt8} {S k : Nat} (h : F.length = S) (hk : k ≤ S) : (pL F S k).length = S := by simp [pL, zeros_len, h]; omega
theorem pL_zero (F : List UInt8) (S : Nat) : pL F S 0 = zeros S := by simp [pL]
theorem pL_full {F : List UInt8} {S : Nat} (h : F.length = S) : pL F S S = F := by simp [pL, zeros, ← h]
theorem pL_set {F : List UInt8} {S k : Nat} {u : UInt8} (h : F.length = S) (hk : k < S) (hu : F[k]? = some u) : (pL F S k).set k u = pL F S (k + 1) := by
  have e : zeros (S - k) = 0 :: zeros (S - (k + 1)) := by
    unfold zeros; rw [show S - k = (S - (k + 1)) + 1 by omega, List.replicate_succ]
  have hl : (F.take k).length = k := by rw [List.length_take]; omega
  unfold pL
  rw [e, List.take_succ_of hu, List.set_append_right _ _ (by omega), hl, Nat.sub_self]
  simp
theorem fill_at (l : List UInt8) (S k : Nat) (hk : k < S) : (fill (l.take S) S)[k]? = if k < l.length then l[k]? else some 26 := by
  unfold fill
  split
  · rename_i h
    rw [List.getElem?_append_left (by rw [List.length_take]; omega), List.getElem?_take_of_lt hk]
  · rename_i h
    rw [List.getElem?_append_right (by rw [List.length_take]; omega), List.getElem?_replicate, if_pos (by rw [List.length_take]; omega)]

set_option maxRecDepth 100000 in
set_option maxHeartbeats 8000000 in
theorem walk (a0 : Option Addr) (n0 c0 : Nat) (b0 : List UInt8) (x1 : Int) (x2 : Bool) (w : World) (h0 : Bys w w.heap.size a0 n0 b0) (l0 : n0 ≤ c0) (s0 : c0 ≤ 140737488351232) (h1 : 0 ≤ x1 ∧ x1 ≤ 65535) :
    Calls Try.prog 7 #[.slice a0 n0 c0, .int .u16 x1, .bool x2] w fun e w' => e = .returned (.bool true) ∧ Below w.heap.size w w' := by
  have H0 := keepHid h0
  have hm0 := h0.max
  obtain ⟨x, rfl⟩ : ∃ m : Nat, x1 = (m : Int) := ⟨x1.toNat, by omega⟩
  obtain ⟨M, hM⟩ : ∃ M, x % 5000 = M := ⟨_, rfl⟩
  have hMl : M < 5000 := by omega
  have hmod : (x : Int) % 5000 = (M : Int) := by rw [← hM]; rfl
  clear h0 hM
  go_enter Try.func7, Try.ntmps7
  go_wp2_with fail
  refine (awake_any _).mono ?_
  rintro e w1 ⟨rfl, hb⟩
  have HB1 := keepHid hb
  have hmk := run_mkbs (M : Int) (M : Int) M M rfl rfl (Nat.le_refl _) (by omega) w1
  obtain ⟨w2, hw2⟩ : ∃ w2, w1.alloc (.cells (zrow M) 5) = w2 := ⟨_, rfl⟩
  rw [hw2] at hmk
  have hk2 : Blk w2 w1.heap.size 5 (zrow M) := by rw [← hw2]; exact Blk.new w1 _ _
  have hb2 : Below w1.heap.size w1 w2 := by rw [← hw2]; exact (Below.refl _ _).alloc (Nat.le_refl _) _
  have HK2 := keepHid hk2
  have HB2 := keepHid (HB1.out.trans (hb2.mono HB1.out.size))
  have hs1 := hb.size
  clear hb hk2 hb2 hw2
  obtain ⟨gd, hgd⟩ : ∃ gd, w1.heap.size = gd := ⟨_, rfl⟩
  rw [hgd] at hmk HK2 hs1
  clear hgd
  go_wp2
  go_loopw [26] (fun i wr => ∃ (k : Nat) (D : List UInt8), k ≤ M ∧ i = .int .i64 k ∧ D.length = M ∧ Blk wr gd 5 (byteVals D) ∧ Below w.heap.size w wr) (fun i _ => M - (intOf i).toNat)
  case atStart => exact ⟨0, zeros M, Nat.zero_le _, rfl, zeros_len M, HK2.out, HB2.out⟩
  case round =>
    obtain ⟨k, D, hk, rfl, hD, hbk, hbel⟩ := hrel
    have HD := keepHid hD
    have HK := keepHid hbk
    have HB := keepHid hbel
    by_cases hlt : k < M
    · rcases Nat.eq_zero_or_pos n0 with h00 | h00
      · subst h00
        clear hD hbk hbel
        go_wp2
        go_roundw
        case rel => exact ⟨k + 1, D, by omega, by go_num, HD.out, HK.out, HB.out⟩
        case measure => simp [intOf]; omega
      · obtain ⟨j, hj⟩ : ∃ j, k % n0 = j := ⟨_, rfl⟩
        have hjn : j < n0 := by rw [← hj]; exact Nat.mod_lt _ h00
        have hmj : (k : Int) % (n0 : Int) = (j : Int) := by rw [← hj]; rfl
        have hnz : ((n0 : Int) == 0) = false := by simp; omega
        obtain ⟨ad, u, rfl, _, hu, hc⟩ := (H0.out.below hbel).at_ hjn
        obtain ⟨y, hy1, hy2⟩ := byteVals_at (cs := D) (i := k) (by omega)
        have hcell := (hbk.cell k).trans hy2
        have hfz := hbk.frozen k
        have hul := u8lt u
        clear hD hbk hbel hj hu hy1 hy2
        go_wp2
        go_roundw
        case rel =>
          refine ⟨k + 1, D.set k u, by omega, by go_num, by rw [List.length_set]; exact HD.out, ?_, HB.out.setCell (by omega) _⟩
          rw [← byteVals_set]; exact HK.out.put k _
        case measure => simp [intOf]; omega
    · have hkM : M = k := by omega
      subst hkM
      have HK3 := keepHid hbk
      have HB3w := keepHid hbel
      have hgd3 : gd < wr.heap.size := hbk.lt
      clear hbk hbel HK HB hmk hk hlt hD HK2 hmod
      generalize wr = w3 at *
      go_wp2
      go_loopw [9, 10] (fun wv av wq => ∃ (p : Nat) (done : List (List UInt8)) (P : Option Addr) (cap : Nat), av = .int .i64 p ∧ wv = .slice P done.length cap ∧ Rows' wq w3.heap.size (.slice P done.length cap) done ∧
        done ++ parts x2 (D.drop p) = parts x2 D ∧ p ≤ M + 1024 ∧ done.length * 128 ≤ p ∧ Below w3.heap.size w3 wq) (fun _ av _ => M - (intOf av).toNat)
      case atStart => exact ⟨0, [], none, 0, rfl, rfl, Rows'.nil _ _, rfl, by omega, by simp, Below.refl _ _⟩
      case round =>
        generalize wr = wq at *
        obtain ⟨p, done, P, cap, rfl, rfl, hrw, heq, hpm, hdl, hbel⟩ := hrel
        have HRW := keepHid hrw
        have HEQ := keepHid heq
        have HB3 := keepHid hbel
        have hk4 := HK3.out.below hbel hgd3
        have HK4 := keepHid hk4
        clear hrw heq hbel hk4
        by_cases hpM : p < M
        · obtain ⟨rest, hrest⟩ : ∃ rest, D.drop p = rest := ⟨_, rfl⟩
          have HREST := keepHid hrest
          have hst := parts_step x2 rest (by rw [← hrest, List.length_drop, HD.out]; omega)
          have hrl0 : rest.length = M - p := by rw [← hrest, List.length_drop, HD.out]
          rw [hrl0] at hst
          have HST := keepHid hst
          have hpMi : (p : Int) < (M : Int) := by omega
          clear hrest hst hrl0
          by_cases hL : x2 = true ∧ 1024 ≤ M - p
          · obtain ⟨rfl, h24⟩ := hL
            have hps : psize true (M - p) = 1024 := by unfold psize; rw [if_pos ⟨rfl, h24⟩]
            have HPS := keepHid hps
            have hd24 : decide ((1024 : Int) ≤ (M : Int) - (p : Int)) = true := by simp; omega
            clear hps
            have hrl : rest.length = M - p := by rw [← HREST.out, List.length_drop, HD.out]
            have hFl : (fill (rest.take 1024) 1024).length = 1024 := fill_len (by rw [List.length_take]; omega)
            obtain ⟨F, hF⟩ : ∃ F, fill (rest.take 1024) 1024 = F := ⟨_, rfl⟩
            have hFat : ∀ k, k < 1024 → F[k]? = if p + k < M then D[p + k]? else some 26 := by
              intro k hk
              rw [← hF, fill_at rest 1024 k hk, hrl, ← HREST.out, List.getElem?_drop]
              by_cases h : p + k < M
              · rw [if_pos h, if_pos (by omega)]
              · rw [if_neg h, if_neg (by omega)]
            rw [hF] at hFl
            have HFAT := keepHid hFat
            have HFL := keepHid hFl
            have HF := keepHid hF
            have hmk2 := run_mkbs 1024 1024 1024 1024 rfl rfl (Nat.le_refl _) (by omega) wq
            obtain ⟨w5, hw5⟩ : ∃ w5, wq.alloc (.cells (zrow 1024) 5) = w5 := ⟨_, rfl⟩
            rw [hw5] at hmk2
            have hk5 : Blk w5 wq.heap.size 5 (zrow 1024) := by rw [← hw5]; exact Blk.new wq _ _
            have hb5 : Below wq.heap.size wq w5 := by rw [← hw5]; exact (Below.refl _ _).alloc (Nat.le_refl _) _
            have HK5 := keepHid hk5
            have HB5 := keepHid hb5
            have hs5 : wq.heap.size < w5.heap.size := hk5.lt
            obtain ⟨gp, hgp⟩ : ∃ gp, wq.heap.size = gp := ⟨_, rfl⟩
            rw [hgp] at hmk2 HK5 hs5
            have HGP := keepHid hgp
            have hgdp : gd < gp := by have := HB3.out.size; omega
            have hne1 : ¬ gd = gp := by omega
            have hne2 : ¬ gp = gd := by omega
            clear hFat hFl hF hw5 hk5 hb5 hgp hrl
            go_wp2
            go_loopw [59] (fun i wi => ∃ k : Nat, k ≤ 1024 ∧ i = .int .i64 k ∧ Blk wi gp 5 (byteVals (pL F 1024 k)) ∧ Below gp wq wi) (fun i _ => 1024 - (intOf i).toNat)
            case atStart => exact ⟨0, Nat.zero_le _, rfl, by rw [pL_zero]; exact HK5.out, by rw [← HGP.out]; exact HB5.out⟩
            case round =>
              obtain ⟨k, hk, rfl, hbk, hbel⟩ := hrel
              have HKi := keepHid hbk
              have HBi := keepHid hbel
              by_cases hlt : k < 1024
              · obtain ⟨y, hy1, hy2⟩ := byteVals_at (cs := pL F 1024 k) (i := k) (by rw [pL_len HFL.out hk]; exact hlt)
                have hcell := (hbk.cell k).trans hy2
                have hfz := hbk.frozen k
                obtain ⟨q, hq⟩ : ∃ q, p + k = q := ⟨_, rfl⟩
                have hqi : (p : Int) + (k : Int) = (q : Int) := by omega
                by_cases hqM : q < M
                · obtain ⟨u, hu1, hu2⟩ := byteVals_at (cs := D) (i := q) (by rw [HD.out]; exact hqM)
                  have hdk : Blk wr gd 5 (byteVals D) := HK4.out.below hbel hgdp
                  have hdc := (hdk.cell q).trans hu2
                  have hFu : F[k]? = some u := by rw [HFAT.out k hlt, hq, if_pos hqM]; exact hu1
                  have HFU := keepHid hFu
                  have hlti : (q : Int) < (M : Int) := by omega
                  clear hy1 hy2 hbk hbel hq hu1 hu2 hdk hFu
                  go_wp2
                  go_roundw
                  case rel =>
                    refine ⟨k + 1, by omega, by go_num, ?_, (HBi.out.setCell (Nat.le_refl _) _).setCell (Nat.le_refl _) _⟩
                    have h1 := (HKi.out.put k (.int .u8 26)).put k (.int .u8 (u.toNat : Int))
                    have h2 : ((byteVals (pL F 1024 k)).setIfInBounds k (.int .u8 26)).setIfInBounds k (.int .u8 (u.toNat : Int)) = byteVals (pL F 1024 (k + 1)) := by
                      rw [show (Value.int .u8 26) = .int .u8 (((26 : UInt8).toNat : Nat) : Int) from rfl, byteVals_set, byteVals_set, List.set_set, pL_set HFL.out hlt HFU.out]
                    rw [h2] at h1
                    exact h1
                  case measure => simp [intOf]; omega
                · exfalso; omega
              · obtain rfl : k = 1024 := by omega
                have hkF : Blk wr gp 5 (byteVals F) := by rw [← pL_full HFL.out]; exact hbk
                have hbel' : Below wq.heap.size wq wr := by rw [HGP.out]; exact hbel
                obtain ⟨w6, hw6⟩ : ∃ w6, wr.alloc (.cells #[.slice (some ⟨gp, 0, none⟩) 1024 1024] 22) = w6 := ⟨_, rfl⟩
                have hb6 : Below wr.heap.size wr w6 := by rw [← hw6]; exact (Below.refl _ _).alloc (Nat.le_refl _) _
                have hk6 : Blk w6 wr.heap.size 22 #[.slice (some ⟨gp, 0, none⟩) 1024 1024] := by rw [← hw6]; exact Blk.new wr _ _
                have hbq6 : Below wq.heap.size wq w6 := hbel'.trans (hb6.mono hbel'.size)
                have HR6 := keepHid (HRW.out.below hbq6)
                have HF6 := keepHid ((((own_blk hkF (Nat.le_refl gp) HFL.out (by omega)).bys (by omega)).below hb6).more hb6.size)
                have HC6 := keepHid (hk6.cell 0)
                have HB6 := keepHid (HB3.out.trans (hbq6.mono HB3.out.size))
                have hcount : (done.length + 1) * 24 ≤ 140737488355328 := by omega
                clear hbk hbel hkF hbel' hb6 hk6 hbq6
                go_wp2_with (at_builtin; go_loud (refine wpList_append_part _ rfl _ _ rfl w3.heap.size _ done (by rfl) HR6.out wr.heap.size (by rfl) (some ⟨gp, 0, none⟩) 1024 F ?c1 ?c2 ?c3 (by omega) ?c5 ?c6 hcount HB6.out.size ?_))
                case c1 => rw [HFL.out]; exact HC6.out
                case c2 => rw [HFL.out]; omega
                case c3 => rw [HFL.out]; exact Nat.le_refl _
                case c5 => rw [HFL.out]; exact HF6.out
                case c6 =>
                  intro ad e
                  obtain rfl := Option.some.inj e
                  intro hh
                  have := (HRW.out.block hh).2
                  rw [HGP.out] at this
                  simp only at this
                  omega
                intro P7 cap7 w7 hr7 ht7
                have HB7 : Hid (Below w3.heap.size w3 w7) := keepHid (HB6.out.trans (ht7.below (fun i hi => (HRW.out.block hi).1) HB6.out.size))
                have HR7 := keepHid hr7
                clear hr7 ht7 hw6
                go_wp2
                go_roundw
                case rel =>
                  refine ⟨p + 1024, done ++ [F], P7, cap7, by go_num, by rw [List.length_append]; rfl, ?_, ?_, by omega, by rw [List.length_append, List.length_singleton]; omega, HB7.out⟩
                  · have := HR7.out
                    rw [List.length_append]
                    exact this
                  · have h1 := HST.out
                    rw [HPS.out, HF.out] at h1
                    have h2 : D.drop (p + 1024) = rest.drop 1024 := by rw [← HREST.out, List.drop_drop]
                    rw [h2, ← HEQ.out, HREST.out, h1, List.append_assoc]
                    rfl
                case measure => simp [intOf]; omega
          · have hps : psize x2 (M - p) = 128 := by unfold psize; rw [if_neg hL]
            have HPS := keepHid hps
            clear hps
            cases x2
            · clear hL
              have hrl : rest.length = M - p := by rw [← HREST.out, List.length_drop, HD.out]
              have hFl : (fill (rest.take 128) 128).length = 128 := fill_len (by rw [List.length_take]; omega)
              obtain ⟨F, hF⟩ : ∃ F, fill (rest.take 128) 128 = F := ⟨_, rfl⟩
              have hFat : ∀ k, k < 128 → F[k]? = if p + k < M then D[p + k]? else some 26 := by
                intro k hk
                rw [← hF, fill_at rest 128 k hk, hrl, ← HREST.out, List.getElem?_drop]
                by_cases h : p + k < M
                · rw [if_pos h, if_pos (by omega)]
                · rw [if_neg h, if_neg (by omega)]
              rw [hF] at hFl
              have HFAT := keepHid hFat
              have HFL := keepHid hFl
              have HF := keepHid hF
              have hmk2 := run_mkbs 128 128 128 128 rfl rfl (Nat.le_refl _) (by omega) wq
              obtain ⟨w5, hw5⟩ : ∃ w5, wq.alloc (.cells (zrow 128) 5) = w5 := ⟨_, rfl⟩
              rw [hw5] at hmk2
              have hk5 : Blk w5 wq.heap.size 5 (zrow 128) := by rw [← hw5]; exact Blk.new wq _ _
              have hb5 : Below wq.heap.size wq w5 := by rw [← hw5]; exact (Below.refl _ _).alloc (Nat.le_refl _) _
              have HK5 := keepHid hk5
              have HB5 := keepHid hb5
              have hs5 : wq.heap.size < w5.heap.size := hk5.lt
              obtain ⟨gp, hgp⟩ : ∃ gp, wq.heap.size = gp := ⟨_, rfl⟩
              rw [hgp] at hmk2 HK5 hs5
              have HGP := keepHid hgp
              have hgdp : gd < gp := by have := HB3.out.size; omega
              have hne1 : ¬ gd = gp := by omega
              have hne2 : ¬ gp = gd := by omega
              clear hFat hFl hF hw5 hk5 hb5 hgp hrl
              go_wp2
              go_loopw [59] (fun i wi => ∃ k : Nat, k ≤ 128 ∧ i = .int .i64 k ∧ Blk wi gp 5 (byteVals (pL F 128 k)) ∧ Below gp wq wi) (fun i _ => 128 - (intOf i).toNat)
              case atStart => exact ⟨0, Nat.zero_le _, rfl, by rw [pL_zero]; exact HK5.out, by rw [← HGP.out]; exact HB5.out⟩
              case round =>
                obtain ⟨k, hk, rfl, hbk, hbel⟩ := hrel
                have HKi := keepHid hbk
                have HBi := keepHid hbel
                by_cases hlt : k < 128
                · obtain ⟨y, hy1, hy2⟩ := byteVals_at (cs := pL F 128 k) (i := k) (by rw [pL_len HFL.out hk]; exact hlt)
                  have hcell := (hbk.cell k).trans hy2
                  have hfz := hbk.frozen k
                  obtain ⟨q, hq⟩ : ∃ q, p + k = q := ⟨_, rfl⟩
                  have hqi : (p : Int) + (k : Int) = (q : Int) := by omega
                  by_cases hqM : q < M
                  · obtain ⟨u, hu1, hu2⟩ := byteVals_at (cs := D) (i := q) (by rw [HD.out]; exact hqM)
                    have hdk : Blk wr gd 5 (byteVals D) := HK4.out.below hbel hgdp
                    have hdc := (hdk.cell q).trans hu2
                    have hFu : F[k]? = some u := by rw [HFAT.out k hlt, hq, if_pos hqM]; exact hu1
                    have HFU := keepHid hFu
                    have hlti : (q : Int) < (M : Int) := by omega
                    clear hy1 hy2 hbk hbel hq hu1 hu2 hdk hFu
                    go_wp2
                    go_roundw
                    case rel =>
                      refine ⟨k + 1, by omega, by go_num, ?_, (HBi.out.setCell (Nat.le_refl _) _).setCell (Nat.le_refl _) _⟩
                      have h1 := (HKi.out.put k (.int .u8 26)).put k (.int .u8 (u.toNat : Int))
                      have h2 : ((byteVals (pL F 128 k)).setIfInBounds k (.int .u8 26)).setIfInBounds k (.int .u8 (u.toNat : Int)) = byteVals (pL F 128 (k + 1)) := by
                        rw [show (Value.int .u8 26) = .int .u8 (((26 : UInt8).toNat : Nat) : Int) from rfl, byteVals_set, byteVals_set, List.set_set, pL_set HFL.out hlt HFU.out]
                      rw [h2] at h1
                      exact h1
                    case measure => simp [intOf]; omega
                  · have hFu : F[k]? = some 26 := by rw [HFAT.out k hlt, hq, if_neg hqM]
                    have HFU := keepHid hFu
                    have hlti : ¬ (q : Int) < (M : Int) := by omega
                    clear hy1 hy2 hbk hbel hq hFu
                    go_wp2
                    go_roundw
                    case rel =>
                      refine ⟨k + 1, by omega, by go_num, ?_, HBi.out.setCell (Nat.le_refl _) _⟩
                      have h1 := HKi.out.put k (.int .u8 26)
                      have h2 : (byteVals (pL F 128 k)).setIfInBounds k (.int .u8 26) = byteVals (pL F 128 (k + 1)) := by
                        rw [show (Value.int .u8 26) = .int .u8 (((26 : UInt8).toNat : Nat) : Int) from rfl, byteVals_set, pL_set HFL.out hlt HFU.out]
                      rw [h2] at h1
                      exact h1
                    case measure => simp [intOf]; omega
                · obtain rfl : k = 128 := by omega
                  have hkF : Blk wr gp 5 (byteVals F) := by rw [← pL_full HFL.out]; exact hbk
                  have hbel' : Below wq.heap.size wq wr := by rw [HGP.out]; exact hbel
                  obtain ⟨w6, hw6⟩ : ∃ w6, wr.alloc (.cells #[.slice (some ⟨gp, 0, none⟩) 128 128] 22) = w6 := ⟨_, rfl⟩
                  have hb6 : Below wr.heap.size wr w6 := by rw [← hw6]; exact (Below.refl _ _).alloc (Nat.le_refl _) _
                  have hk6 : Blk w6 wr.heap.size 22 #[.slice (some ⟨gp, 0, none⟩) 128 128] := by rw [← hw6]; exact Blk.new wr _ _
                  have hbq6 : Below wq.heap.size wq w6 := hbel'.trans (hb6.mono hbel'.size)
                  have HR6 := keepHid (HRW.out.below hbq6)
                  have HF6 := keepHid ((((own_blk hkF (Nat.le_refl gp) HFL.out (by omega)).bys (by omega)).below hb6).more hb6.size)
                  have HC6 := keepHid (hk6.cell 0)
                  have HB6 := keepHid (HB3.out.trans (hbq6.mono HB3.out.size))
                  have hcount : (done.length + 1) * 24 ≤ 140737488355328 := by omega
                  clear hbk hbel hkF hbel' hb6 hk6 hbq6
                  go_wp2_with (at_builtin; go_loud (refine wpList_append_part _ rfl _ _ rfl w3.heap.size _ done (by rfl) HR6.out wr.heap.size (by rfl) (some ⟨gp, 0, none⟩) 128 F ?c1 ?c2 ?c3 (by omega) ?c5 ?c6 hcount HB6.out.size ?_))
                  case c1 => rw [HFL.out]; exact HC6.out
                  case c2 => rw [HFL.out]; omega
                  case c3 => rw [HFL.out]; exact Nat.le_refl _
                  case c5 => rw [HFL.out]; exact HF6.out
                  case c6 =>
                    intro ad e
                    obtain rfl := Option.some.inj e
                    intro hh
                    have := (HRW.out.block hh).2
                    rw [HGP.out] at this
                    simp only at this
                    omega
                  intro P7 cap7 w7 hr7 ht7
                  have HB7 : Hid (Below w3.heap.size w3 w7) := keepHid (HB6.out.trans (ht7.below (fun i hi => (HRW.out.block hi).1) HB6.out.size))
                  have HR7 := keepHid hr7
                  clear hr7 ht7 hw6
                  go_wp2
                  go_roundw
                  case rel =>
                    refine ⟨p + 128, done ++ [F], P7, cap7, by go_num, by rw [List.length_append]; rfl, ?_, ?_, by omega, by rw [List.length_append, List.length_singleton]; omega, HB7.out⟩
                    · have := HR7.out
                      rw [List.length_append]
                      exact this
                    · have h1 := HST.out
                      rw [HPS.out, HF.out] at h1
                      have h2 : D.drop (p + 128) = rest.drop 128 := by rw [← HREST.out, List.drop_drop]
                      rw [h2, ← HEQ.out, HREST.out, h1, List.append_assoc]
                      rfl
                  case measure => simp [intOf]; omega
            · have hd24 : decide ((1024 : Int) ≤ (M : Int) - (p : Int)) = false := by
                have : ¬ 1024 ≤ M - p := fun hh => hL ⟨rfl, hh⟩
                simp; omega
              clear hL
              have hrl : rest.length = M - p := by rw [← HREST.out, List.length_drop, HD.out]
              have hFl : (fill (rest.take 128) 128).length = 128 := fill_len (by rw [List.length_take]; omega)
              obtain ⟨F, hF⟩ : ∃ F, fill (rest.take 128) 128 = F := ⟨_, rfl⟩
              have hFat : ∀ k, k < 128 → F[k]? = if p + k < M then D[p + k]? else some 26 := by
                intro k hk
                rw [← hF, fill_at rest 128 k hk, hrl, ← HREST.out, List.getElem?_drop]
                by_cases h : p + k < M
                · rw [if_pos h, if_pos (by omega)]
                · rw [if_neg h, if_neg (by omega)]
              rw [hF] at hFl
              have HFAT := keepHid hFat
              have HFL := keepHid hFl
              have HF := keepHid hF
              have hmk2 := run_mkbs 128 128 128 128 rfl rfl (Nat.le_refl _) (by omega) wq
              obtain ⟨w5, hw5⟩ : ∃ w5, wq.alloc (.cells (zrow 128) 5) = w5 := ⟨_, rfl⟩
              rw [hw5] at hmk2
              have hk5 : Blk w5 wq.heap.size 5 (zrow 128) := by rw [← hw5]; exact Blk.new wq _ _
              have hb5 : Below wq.heap.size wq w5 := by rw [← hw5]; exact (Below.refl _ _).alloc (Nat.le_refl _) _
              have HK5 := keepHid hk5
              have HB5 := keepHid hb5
              have hs5 : wq.heap.size < w5.heap.size := hk5.lt
              obtain ⟨gp, hgp⟩ : ∃ gp, wq.heap.size = gp := ⟨_, rfl⟩
              rw [hgp] at hmk2 HK5 hs5
              have HGP := keepHid hgp
              have hgdp : gd < gp := by have := HB3.out.size; omega
              have hne1 : ¬ gd = gp := by omega
              have hne2 : ¬ gp = gd := by omega
              clear hFat hFl hF hw5 hk5 hb5 hgp hrl
              go_wp2
              go_loopw [59] (fun i wi => ∃ k : Nat, k ≤ 128 ∧ i = .int .i64 k ∧ Blk wi gp 5 (byteVals (pL F 128 k)) ∧ Below gp wq wi) (fun i _ => 128 - (intOf i).toNat)
              case atStart => exact ⟨0, Nat.zero_le _, rfl, by rw [pL_zero]; exact HK5.out, by rw [← HGP.out]; exact HB5.out⟩
              case round =>
                obtain ⟨k, hk, rfl, hbk, hbel⟩ := hrel
                have HKi := keepHid hbk
                have HBi := keepHid hbel
                by_cases hlt : k < 128
                · obtain ⟨y, hy1, hy2⟩ := byteVals_at (cs := pL F 128 k) (i := k) (by rw [pL_len HFL.out hk]; exact hlt)
                  have hcell := (hbk.cell k).trans hy2
                  have hfz := hbk.frozen k
                  obtain ⟨q, hq⟩ : ∃ q, p + k = q := ⟨_, rfl⟩
                  have hqi : (p : Int) + (k : Int) = (q : Int) := by omega
                  by_cases hqM : q < M
                  · obtain ⟨u, hu1, hu2⟩ := byteVals_at (cs := D) (i := q) (by rw [HD.out]; exact hqM)
                    have hdk : Blk wr gd 5 (byteVals D) := HK4.out.below hbel hgdp
                    have hdc := (hdk.cell q).trans hu2
                    have hFu : F[k]? = some u := by rw [HFAT.out k hlt, hq, if_pos hqM]; exact hu1
                    have HFU := keepHid hFu
                    have hlti : (q : Int) < (M : Int) := by omega
                    clear hy1 hy2 hbk hbel hq hu1 hu2 hdk hFu
                    go_wp2
                    go_roundw
                    case rel =>
                      refine ⟨k + 1, by omega, by go_num, ?_, (HBi.out.setCell (Nat.le_refl _) _).setCell (Nat.le_refl _) _⟩
                      have h1 := (HKi.out.put k (.int .u8 26)).put k (.int .u8 (u.toNat : Int))
                      have h2 : ((byteVals (pL F 128 k)).setIfInBounds k (.int .u8 26)).setIfInBounds k (.int .u8 (u.toNat : Int)) = byteVals (pL F 128 (k + 1)) := by
                        rw [show (Value.int .u8 26) = .int .u8 (((26 : UInt8).toNat : Nat) : Int) from rfl, byteVals_set, byteVals_set, List.set_set, pL_set HFL.out hlt HFU.out]
                      rw [h2] at h1
                      exact h1
                    case measure => simp [intOf]; omega
                  · have hFu : F[k]? = some 26 := by rw [HFAT.out k hlt, hq, if_neg hqM]
                    have HFU := keepHid hFu
                    have hlti : ¬ (q : Int) < (M : Int) := by omega
                    clear hy1 hy2 hbk hbel hq hFu
                    go_wp2
                    go_roundw
                    case rel =>
                      refine ⟨k + 1, by omega, by go_num, ?_, HBi.out.setCell (Nat.le_refl _) _⟩
                      have h1 := HKi.out.put k (.int .u8 26)
                      have h2 : (byteVals (pL F 128 k)).setIfInBounds k (.int .u8 26) = byteVals (pL F 128 (k + 1)) := by
                        rw [show (Value.int .u8 26) = .int .u8 (((26 : UInt8).toNat : Nat) : Int) from rfl, byteVals_set, pL_set HFL.out hlt HFU.out]
                      rw [h2] at h1
                      exact h1
                    case measure => simp [intOf]; omega
                · obtain rfl : k = 128 := by omega
                  have hkF : Blk wr gp 5 (byteVals F) := by rw [← pL_full HFL.out]; exact hbk
                  have hbel' : Below wq.heap.size wq wr := by rw [HGP.out]; exact hbel
                  obtain ⟨w6, hw6⟩ : ∃ w6, wr.alloc (.cells #[.slice (some ⟨gp, 0, none⟩) 128 128] 22) = w6 := ⟨_, rfl⟩
                  have hb6 : Below wr.heap.size wr w6 := by rw [← hw6]; exact (Below.refl _ _).alloc (Nat.le_refl _) _
                  have hk6 : Blk w6 wr.heap.size 22 #[.slice (some ⟨gp, 0, none⟩) 128 128] := by rw [← hw6]; exact Blk.new wr _ _
                  have hbq6 : Below wq.heap.size wq w6 := hbel'.trans (hb6.mono hbel'.size)
                  have HR6 := keepHid (HRW.out.below hbq6)
                  have HF6 := keepHid ((((own_blk hkF (Nat.le_refl gp) HFL.out (by omega)).bys (by omega)).below hb6).more hb6.size)
                  have HC6 := keepHid (hk6.cell 0)
                  have HB6 := keepHid (HB3.out.trans (hbq6.mono HB3.out.size))
                  have hcount : (done.length + 1) * 24 ≤ 140737488355328 := by omega
                  clear hbk hbel hkF hbel' hb6 hk6 hbq6
                  go_wp2_with (at_builtin; go_loud (refine wpList_append_part _ rfl _ _ rfl w3.heap.size _ done (by rfl) HR6.out wr.heap.size (by rfl) (some ⟨gp, 0, none⟩) 128 F ?c1 ?c2 ?c3 (by omega) ?c5 ?c6 hcount HB6.out.size ?_))
                  case c1 => rw [HFL.out]; exact HC6.out
                  case c2 => rw [HFL.out]; omega
                  case c3 => rw [HFL.out]; exact Nat.le_refl _
                  case c5 => rw [HFL.out]; exact HF6.out
                  case c6 =>
                    intro ad e
                    obtain rfl := Option.some.inj e
                    intro hh
                    have := (HRW.out.block hh).2
                    rw [HGP.out] at this
                    simp only at this
                    omega
                  intro P7 cap7 w7 hr7 ht7
                  have HB7 : Hid (Below w3.heap.size w3 w7) := keepHid (HB6.out.trans (ht7.below (fun i hi => (HRW.out.block hi).1) HB6.out.size))
                  have HR7 := keepHid hr7
                  clear hr7 ht7 hw6
                  go_wp2
                  go_roundw
                  case rel =>
                    refine ⟨p + 128, done ++ [F], P7, cap7, by go_num, by rw [List.length_append]; rfl, ?_, ?_, by omega, by rw [List.length_append, List.length_singleton]; omega, HB7.out⟩
                    · have := HR7.out
                      rw [List.length_append]
                      exact this
                    · have h1 := HST.out
                      rw [HPS.out, HF.out] at h1
                      have h2 : D.drop (p + 128) = rest.drop 128 := by rw [← HREST.out, List.drop_drop]
                      rw [h2, ← HEQ.out, HREST.out, h1, List.append_assoc]
                      rfl
                  case measure => simp [intOf]; omega
        · have hnil : D.drop p = [] := List.drop_eq_nil_of_le (by rw [HD.out]; omega)
          have hdone : done = parts x2 D := by have := HEQ.out; rwa [hnil, parts_nil, List.append_nil] at this
          subst hdone
          have hcnt := parts_count x2 D.length D (Nat.le_refl _)
          rw [HD.out] at hcnt
          have hszs := parts_sizes x2 D.length D (Nat.le_refl _)
          obtain ⟨rows, hrows⟩ : ∃ rows, parts x2 D = rows := ⟨_, rfl⟩
          rw [hrows] at HRW hcnt hszs hdl ⊢
          have HROWS := keepHid hrows
          have HSZ := keepHid hszs
          have hpMi : ¬ (p : Int) < (M : Int) := by omega
          have hD4 := (own_blk HK4.out (Nat.le_refl gd) HD.out (by omega)).bys (by omega)
          have HD4 := keepHid hD4
          have HBw := keepHid (HB3w.out.trans (HB3.out.mono HB3w.out.size))
          clear hnil hrows hszs HEQ hD4
          go_wp2_with fail
          refine (split_any _ _ _ _ D x2 _ HD4.out (Nat.le_refl _) (Nat.le_refl _) (by omega) (by omega)).mono ?_
          rw [HROWS.out]
          rintro e w5 ⟨P5, cap5, rfl, hr5, hc51, hc52, hb5⟩
          have HR5 := keepHid hr5.rowsB
          have HW5 := keepHid (HRW.out.below hb5).rowsB
          have HB5 := keepHid (HBw.out.trans (hb5.mono HBw.out.size))
          clear hr5 hb5
          obtain ⟨K, hK⟩ : ∃ K, rows.length = K := ⟨_, rfl⟩
          have HK := keepHid hK
          have hKl : K * 128 < M + 128 := by omega
          rw [hK] at hc51 ⊢
          rw [hK] at HR5 HW5
          clear hcnt hdl hK
          go_wp2_with fail
          refine (number_any _ K _ rows _ HR5.out (by omega) (fun bs hb => by have := HSZ.out bs hb; omega)).mono ?_
          rintro e w6 ⟨g, cs, V, rfl, hg, hbk, hcs, hnum, hb6⟩
          rw [HK.out] at hcs hnum ⊢
          have HR6 := keepHid (rowsB_below HR5.out hb6)
          have HW6 := keepHid (rowsB_below HW5.out hb6)
          have HB6 := keepHid (HB5.out.trans (hb6.mono HB5.out.size))
          have HBK6 := keepHid hbk
          have HNUM6 := keepHid hnum
          clear hbk hcs hnum hb6
          go_wp2_with fail
          refine (same_any _ _ K _ _ rows _ HR6.out HW6.out (by omega)).mono ?_
          rintro e w7' ⟨rfl, m, rfl⟩
          have HB7 := keepHid (below_drewN HB6.out m)
          have HW7 : Hid (RowsB (w6.drewN m) P K rows) := keepHid HW6.out
          have HBK7 : Hid (Blk (w6.drewN m) g 28 cs) := keepHid HBK6.out
          have HNUM7 : Hid (Num (w6.drewN m) (g + 1) K cs rows V) := keepHid HNUM6.out
          clear HR6 HW6 HB6 HBK6 HNUM6
          generalize w6.drewN m = w7 at *
          go_wp2
          go_loopw [106] (fun i wr => ∃ k : Nat, k ≤ K ∧ i = .int .i64 k ∧ Below w7.heap.size w7 wr) (fun i _ => K - (intOf i).toNat)
          case atStart => exact ⟨0, Nat.zero_le _, rfl, Below.refl _ _⟩
          case round =>
            obtain ⟨k, hk, rfl, hbel⟩ := hrel
            have HB8 := keepHid hbel
            by_cases hlt : k < K
            · obtain ⟨bs, hrow⟩ : ∃ bs, rows[k]? = some bs := ⟨_, List.getElem?_eq_getElem (by rw [HK.out]; exact hlt)⟩
              obtain ⟨A, c, _, e2, e3, e4, e5, e6, _⟩ := HNUM7.out k bs hlt hrow
              obtain ⟨ad, Bk, dk, hP, had, hc1, hld, hdm, hbz⟩ := HW7.out.2 k bs hrow
              subst hP
              have hbk := HBK7.out.below hbel HBK7.out.lt
              have q0 : wr.cell? ⟨g, k * 2, none⟩ = some (.int .u8 (((k : Int) + 1) % 256)) := (hbk.cell (k * 2)).trans e2
              have q1 : wr.cell? ⟨g, k * 2 + 1, none⟩ = some (.slice A bs.length c) := (hbk.cell (k * 2 + 1)).trans e3
              obtain ⟨w8, hw8⟩ : ∃ w8, wr.alloc (.cells #[.int .u8 (((k : Int) + 1) % 256), .slice A bs.length c] 28) = w8 := ⟨_, rfl⟩
              have hb8 : Below w7.heap.size w7 w8 := by rw [← hw8]; exact hbel.alloc hbel.size _
              have hk8 : Blk w8 wr.heap.size 28 #[.int .u8 (((k : Int) + 1) % 256), .slice A bs.length c] := by rw [← hw8]; exact Blk.new wr _ _
              have x0 : w8.cell? ⟨wr.heap.size, 0, none⟩ = some (.int .u8 (((k : Int) + 1) % 256)) := hk8.cell 0
              have x1' : w8.cell? ⟨wr.heap.size, 1, none⟩ = some (.slice A bs.length c) := hk8.cell 1
              have y0 : w8.cell? (ad.add k) = some (.slice Bk bs.length dk) := (hb8.cell (by rw [ad_block]; exact had)).trans hc1
              have hcv1 : ∀ a, (convert 22 9 (.slice A bs.length c)).run Try.prog (w8.drewN a) = .ok (.string (strB bs)) (w8.drewN a) := fun a => run_str 22 5 9 Try.underlying22 Try.underlying5 Try.underlying9 (((e4.bys (by omega)).below hb8).drewN a)
              have hcv2 : ∀ a, (convert 22 9 (.slice Bk bs.length dk)).run Try.prog (w8.drewN a) = .ok (.string (strB bs)) (w8.drewN a) := fun a => run_str 22 5 9 Try.underlying22 Try.underlying5 Try.underlying9 ((hbz.below hb8).drewN a)
              have HB9 := keepHid hb8
              have hwr : IntKind.i64.wrap ((k : Int) + 1) = (k : Int) + 1 := IntWalk.i64_in _ (by omega)
              have hw8r : IntKind.u8.wrap ((k : Int) + 1) = ((k : Int) + 1) % 256 := by rw [IntKind.wrap_u8]
              generalize bs.length = nb at *
              clear hbel hrow e2 e3 e4 hc1 hbz hbk hb8 hk8
              go_wp2
              go_quiet (fail)
              go_wp2
              go_roundw
              case rel => exact ⟨k + 1, by omega, by go_num, below_drewN HB9.out nq⟩
              case measure => simp [intOf]; omega
            · go_wp2
              go_ret
              exact ⟨rfl, HB7.out.trans (HB8.out.mono HB7.out.size)⟩

set_option maxRecDepth 100000 in
theorem lifted (os : Os) (started : os.Started) (H : Type) (enc : TypeId × Value → H) :
    ReturnsInHanded {} Try.checked os 7 .any (Rows.blockSplitSpec.pre6 enc Try.prog Try.f7 Rows.blockSplitRow.domain false) (Rows.blockSplitSpec.post enc Try.prog Try.f7 false true false false) := by
  refine returnsInHanded_of_change_sized (C := Try.checked) own started (by kernel_rfl) Try.func7
    (ChangeSpec.witness6 (enc := enc) (C := Try.checked) false ⟨#[], #[.slice none 0 0, .int .u16 0, .bool false], []⟩ 8 (by kernel_rfl) (by kernel_rfl) (by kernel_rfl) (by kernel_rfl)) ?_
  intro W base args ds gs before hval0 hW hcnd hsz0 _
  have hsz : (DataW.weightsEach Try.prog (Try.f7.params.toList ++ Rows.blockSplitSpec.plain.varTypes Try.prog) (ds ++ gs)).all (· ≤ reachBytes) = true := hsz0
  clear hsz0
  have hval : ∀ (j : Nat) t v, Try.f7.params[j]? = some t → args[j]? = some v → Value.okWide Try.prog W .any base t v := hval0
  have hW' := hW
  obtain ⟨p, q, hA0, hV, rfl, hfz, hnd⟩ := hW
  have hA : DataW.TrodAll enc Try.prog W 0 (fun _ => true) true Try.f7.params.toList args.toList ds p := hA0
  rw [Try.params7] at hA hval hsz
  obtain ⟨v0, vs0, d0, ds0, p0, q0, hargs, rfl, rfl, h0, r0⟩ := trodAll_cons hA
  obtain ⟨v1, vs1, d1, ds1, p1, q1, rfl, rfl, rfl, h1, r1⟩ := trodAll_cons r0
  obtain ⟨v2, vs2, d2, ds2, p2, q2, rfl, rfl, rfl, h2, r2⟩ := trodAll_cons r1
  obtain ⟨rfl, rfl, rfl⟩ := trodAll_nil r2
  obtain rfl : args = #[v0, v1, v2] := by cases args; simp_all
  obtain ⟨rfl, rfl⟩ := trodVars_none hV
  have k0 := h0
  have lt0 : ∀ x ∈ p0, x.block < W.heap.size := by obtain ⟨m, hm⟩ := k0; exact DataW.trod_lt m _ _ _ hm
  have k1 := h1
  have lt1 : ∀ x ∈ p1, x.block < W.heap.size := by obtain ⟨m, hm⟩ := k1; exact DataW.trod_lt m _ _ _ hm
  have k2 := h2
  have lt2 : ∀ x ∈ p2, x.block < W.heap.size := by obtain ⟨m, hm⟩ := k2; exact DataW.trod_lt m _ _ _ hm
  obtain ⟨a0, n0, c0, b0, rfl, w0, l0, s0⟩ := open_bys Try.underlying22 Try.underlying5 (by kernel_rfl) (by kernel_rfl) (hval 0 22 v0 rfl rfl) (fun _ => rfl) h0 (fun el sp hd => sized_slice hsz (j := 0) (t := 22) (e := 5) rfl (by rw [hd]; rfl) Try.underlying22)
  obtain ⟨x1, rfl, rfl, rfl, w1⟩ := open_int Try.underlying32 (hval 1 32 v1 rfl rfl) h1
  obtain ⟨x2, rfl, rfl, rfl⟩ := open_bool Try.underlying4 (hval 2 4 v2 rfl rfl) h2
  clear hA0 hval0
  refine (walk a0 n0 c0 b0 x1 x2 W w0 l0 s0 (wf_u16 w1)).mono fun e W' ⟨he, bel⟩ => ?_
  subst he
  exact ⟨_, rfl, _, _, _, [], _, [], hW', trodAll_mk1 (shut_bool Try.underlying4 _), (trodAll_cons_mk (Below.trod laidOut (by kernel_rfl) (of_decide_eq_true (by kernel_rfl)) k0 bel lt0) (trodAll_cons_mk (Below.trod laidOut (by kernel_rfl) (of_decide_eq_true (by kernel_rfl)) k1 bel lt1) (trodAll_cons_mk (Below.trod laidOut (by kernel_rfl) (of_decide_eq_true (by kernel_rfl)) k2 bel lt2) trodAll_mk0))), rfl, bel.frame _, fun h => by cases h⟩

theorem over : Rows.blockSplitRow.holds Try.pinned (OpenSpec.ofChange Rows.blockSplitSpec) :=
  OpenClaim.holds_of_wide 7 Try.f7 rfl rfl rfl rfl rfl rfl rfl ⟨rfl, rfl, rfl, rfl, rfl⟩ rfl rfl rfl rfl rfl (by kernel_rfl) Try.func7 (by kernel_rfl)
    (of_decide_eq_true (by kernel_rfl)) (by unfold Func.isWrapper; first | (rw [if_pos (by decide +kernel)]; kernel_rfl) | (rw [if_neg (by decide +kernel)]; exact ⟨rfl, rfl⟩))
    (fun os started H enc _ => lifted os started H enc)

theorem proved : Rows.BlockSplitSaid := over
end Go.Proofs.Ytahlllkmjibbpaa.blockSplit
