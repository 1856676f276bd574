/-
  'lifelinelaw14.DemuxParts' answers true for every input of the row, and leaves its arguments as they were.
  Conditions: the arguments hold together at most 1048576 values and bytes, each counted each time that it is reached.
-/
import Derived.Test.YtadfchdcaenglaaRows
import Derived.Test.YtadfchdcaenglaaDemuxRun
import Derived.LoopTactic
import Derived.Deep.DeepCutAuto
import Derived.Test.YtadfchdcaenglaaFrame
import Derived.WalkKit
import Derived.ProofKit
import Derived.OpenShut
import Derived.ShutString
import Derived.ChangeOld
import Derived.Below
import Derived.JoinedCond
import Derived.Deep.CondSized
namespace Go.Proofs.Ytadfchdcaenglaa.demuxParts
open Go.ChangeShapes Go.WideShapes Go.ChangeAt Go.RowKit
open Go.ChangeMaps (open_string shut_string)
set_option linter.unusedVariables false

theorem own : ownKnob Try.prog.godebug = none := by kernel_rfl
theorem laidOut : laidOutB Try.prog = true := by kernel_rfl

set_option maxRecDepth 100000 in
set_option maxHeartbeats 4000000 in
theorem walk (x0 : Int) (a1 : Option Addr) (n1 c1 : Nat) (y1 : List Ac) (w : World) (h0 : -128 ≤ x0 ∧ x0 ≤ 127) (h1 : ActsD w a1 n1 y1) (l1 : n1 ≤ c1) (s1 : c1 ≤ 9223372036854775807) (hbulk : (y1.flatMap Ac.bs).length ≤ 1048576) :
    Calls Try.prog 4 #[.int .i8 x0, .slice a1 n1 c1] w fun e w' => e = .returned (.bool true) ∧ Below w.heap.size w w' := by
  have HA := keepHid h1
  have HLE : Hid (∀ k, (bsK y1 k).length ≤ 1048576) := keepHid (fun k => Nat.le_trans (bsK_le y1 k) hbulk)
  have HLP : Hid (∀ (k : Nat) (r : Ac), y1[k]? = some r → ∀ j, (bsK y1 k ++ r.bs.take j).length ≤ 1048576) := keepHid (fun k r hr j => Nat.le_trans (bsK_part hr j) hbulk)
  have hw0 : IntKind.i64.wrap x0 = x0 := by unfold IntKind.wrap; simp [IntKind.signed, IntKind.bits]; omega
  have HN := keepHid h1.1
  clear h1 hbulk
  go_enter Try.func4, Try.ntmps4
  go_wp2_with fail
  refine (awake_any _).mono ?_
  rintro e w1 ⟨rfl, hb1⟩
  have HB1 := keepHid hb1
  clear hb1
  go_wp2_with fail
  refine (of_at x0 HB1.out).mono ?_
  rintro e w2 ⟨g, rfl, h2⟩
  have H2 := keepHid h2
  clear h2
  go_wp2_with fail
  go_loopw [6, 22] (fun av i wr => ∃ (k md n c : Nat) (A : Option Addr) (ts : List Nat), k ≤ n1 ∧ i = .int .i64 k ∧ av = .slice A n c ∧ Hid (ts.length = (bsK y1 k).length) ∧ Hid (DAt w g md ts wr) ∧ Hid (OwnB wr w.heap.size 5 (.slice A n c) n (bsK y1 k))) (fun _ i _ => n1 - (intOf i).toNat)
  case atStart => exact ⟨0, knD x0, 0, 0, none, [], Nat.zero_le _, rfl, rfl, keepHid rfl, H2, keepHid (OwnB.nil _ _ _)⟩
  case round =>
    obtain ⟨k, md, n, c, A, ts, hk, rfl, rfl, HT, HD, HO⟩ := hrel
    by_cases hlt : k < n1
    · obtain ⟨r, hr⟩ : ∃ r, y1[k]? = some r := ⟨_, List.getElem?_eq_getElem (by rw [HN.out]; exact hlt)⟩
      obtain ⟨ad, Ak, ck, rfl, q0, q1, q2, hz, hm, hcm, hby⟩ := HA.out.at_ hr HD.out.b
      have HR := keepHid hr
      have HBY := keepHid hby
      have hln : (k : Int) < (n1 : Int) := by omega
      obtain ⟨sw, z, bs⟩ := r
      simp only at q0 q1 q2 hz hm hby HBY
      obtain ⟨m, hbm⟩ : ∃ m, bs.length = m := ⟨_, rfl⟩
      have HBM := keepHid hbm
      rw [hbm] at q2 hm HBY
      obtain ⟨w3, hw3⟩ : ∃ w3, wr.alloc (.cells #[.bool sw, .int .i8 z, .slice Ak m ck] 32) = w3 := ⟨_, rfl⟩
      have hb3 : Below wr.heap.size wr w3 := by rw [← hw3]; exact (Below.refl _ _).alloc (Nat.le_refl _) _
      have k3 : Blk w3 wr.heap.size 32 #[.bool sw, .int .i8 z, .slice Ak m ck] := by rw [← hw3]; exact Blk.new wr _ _
      have d0 : w3.cell? ⟨wr.heap.size, 0, none⟩ = some (.bool sw) := k3.cell 0
      have d1 : w3.cell? ⟨wr.heap.size, 1, none⟩ = some (.int .i8 z) := k3.cell 1
      have d2 : w3.cell? ⟨wr.heap.size, 2, none⟩ = some (.slice Ak m ck) := k3.cell 2
      have K3 := keepHid k3
      have HD3 := keepHid (HD.out.below hb3)
      have HO3 : Hid (OwnB w3 w.heap.size 5 (.slice A n c) n (bsK y1 k)) := keepHid (own_below HO.out hb3)
      have hwz : IntKind.i64.wrap z = z := by unfold IntKind.wrap; simp [IntKind.signed, IntKind.bits]; omega
      clear hr hby hbm hb3 k3 HD HO
      cases sw
      · go_wp2_with fail
        go_loopw [6, 36] (fun av i wq => ∃ (j n c : Nat) (A : Option Addr) (ts : List Nat), j ≤ m ∧ i = .int .i64 j ∧ av = .slice A n c ∧ Hid (ts.length = (bsK y1 k ++ bs.take j).length) ∧ Hid (DAt w g md ts wq) ∧ Hid (OwnB wq w.heap.size 5 (.slice A n c) n (bsK y1 k ++ bs.take j))) (fun _ i _ => m - (intOf i).toNat)
        case atStart => exact ⟨0, n, c, A, ts, Nat.zero_le _, rfl, rfl, keepHid (by rw [List.take_zero, List.append_nil]; exact HT.out), HD3, keepHid (by rw [List.take_zero, List.append_nil]; exact HO3.out)⟩
        case round =>
          obtain ⟨j, n, c, A, ts2, hj, rfl, rfl, HT2, HDj, HOj⟩ := hrel
          by_cases hjm : j < m
          · obtain ⟨b, hbj⟩ : ∃ b, bs[j]? = some b := ⟨_, List.getElem?_eq_getElem (by rw [HBM.out]; exact hjm)⟩
            obtain ⟨ad2, b', rfl, had2, hb2, hcell⟩ := (HBY.out.below HDj.out.b).at_ hjm
            obtain rfl : b = b' := by rw [hbj] at hb2; exact Option.some.inj hb2
            have hLj := HLP.out k _ HR.out (j + 1)
            have HSTEP := keepHid (take_one (bs0 := bsK y1 k) hbj)
            have hjm2 : (j : Int) < (m : Int) := by omega
            have hlen2 := HOj.out.len
            have hLj' := HLP.out k _ HR.out j
            simp only at hLj hLj'
            have HTL := keepHid HT2.out
            have htl : ts2.length ≤ 1048576 := by have := HT2.out; omega
            have hn7 : n ≤ 1048576 := by omega
            clear hbj hb2 hlen2 hLj'
            go_wp2_with fail
            refine (put_at HDj.out _ (by omega)).mono ?_
            rintro e w6 ⟨rfl, h6, ht6⟩
            have HD6 := keepHid h6
            have HO6 : Hid (OwnB w6 w.heap.size 5 (.slice A n c) n (bsK y1 k ++ bs.take j)) := keepHid (own_dt HOj.out noD_byte ht6)
            have hb7 : Below w6.heap.size w6 (w6.alloc (.cells #[.int .u8 (b.toNat : Int)] 5)) := (Below.refl _ _).alloc (Nat.le_refl _) _
            have HD7 := keepHid (HD6.out.below hb7)
            have HO7 : Hid (OwnB (w6.alloc (.cells #[.int .u8 (b.toNat : Int)] 5)) w.heap.size 5 (.slice A n c) n (bsK y1 k ++ bs.take j)) := keepHid (own_below HO6.out hb7)
            have HY7 : Hid (Bys (w6.alloc (.cells #[.int .u8 (b.toNat : Int)] 5)) (w6.heap.size + 1) (some ⟨w6.heap.size, 0, none⟩) 1 [b]) := keepHid (bys_new w6 _ [b] 1 rfl (by unfold maxLen; omega) _ rfl _ rfl)
            have HS7 := keepHid HD7.out.b.size
            clear h6 ht6 hb7 HDj HOj HD6 HO6
            go_wp2_with (at_builtin; refine wpList_append_bytes _ rfl _ _ 29 rfl w.heap.size 5 byteT (.slice A n c) n (bsK y1 k ++ bs.take j) (by rfl) HO7.out (w6.heap.size + 1) (some ⟨w6.heap.size, 0, none⟩) 1 1 [b] (by rfl) HY7.out (n + 1) rfl (by omega) HS7.out ?_)
            intro A4 c4 w8 u1 u2 u3 u4 u5
            have HD8 := keepHid (HD7.out.row HO7.out noD_byte (Nat.le_refl _) u2)
            rw [← List.append_assoc, HSTEP.out] at u1
            have HO8 := keepHid u1
            have HT8 : Hid ((ts2 ++ [md]).length = (bsK y1 k ++ bs.take (j + 1)).length) := keepHid (by rw [← HSTEP.out, List.length_append, List.length_append (bs := [b]), HTL.out]; rfl)
            clear u1 u2 u3 u4 u5 HD7 HO7 HY7 HS7
            go_wp2
            go_roundw
            case rel => exact ⟨j + 1, n + 1, c4, A4, _, by omega, by go_num, rfl, HT8, HD8, HO8⟩
            case measure => simp [intOf]; omega
          · obtain rfl : j = m := by omega
            have he : bsK y1 k ++ bs.take j = bsK y1 (k + 1) := by rw [bsK_succ HR.out, List.take_of_length_le (by rw [HBM.out]; exact Nat.le_refl _)]
            rw [he] at HT2 HOj
            clear he
            go_wp2
            go_roundw
            case rel => exact ⟨k + 1, _, n, c, A, ts2, by omega, by go_num, rfl, HT2, HDj, HOj⟩
            case measure => simp [intOf]; omega
      · go_wp2_with fail
        refine (switch_at HD3.out z).mono ?_
        rintro e w4 ⟨rfl, h4, ht4⟩
        have k4 := ht4.oth _ _ _ K3.out (by decide) (by decide)
        have d4 : w4.cell? ⟨wr.heap.size, 2, none⟩ = some (.slice Ak m ck) := k4.cell 2
        have HD4 := keepHid h4
        have HO4 : Hid (OwnB w4 w.heap.size 5 (.slice A n c) n (bsK y1 k)) := keepHid (own_dt HO3.out noD_byte ht4)
        clear h4 ht4 k4 HO3 HD3 d0 d1 d2 K3
        go_wp2_with fail
        go_loopw [6, 36] (fun av i wq => ∃ (j n c : Nat) (A : Option Addr) (ts : List Nat), j ≤ m ∧ i = .int .i64 j ∧ av = .slice A n c ∧ Hid (ts.length = (bsK y1 k ++ bs.take j).length) ∧ Hid (DAt w g (knD z) ts wq) ∧ Hid (OwnB wq w.heap.size 5 (.slice A n c) n (bsK y1 k ++ bs.take j))) (fun _ i _ => m - (intOf i).toNat)
        case atStart => exact ⟨0, n, c, A, ts, Nat.zero_le _, rfl, rfl, keepHid (by rw [List.take_zero, List.append_nil]; exact HT.out), HD4, keepHid (by rw [List.take_zero, List.append_nil]; exact HO4.out)⟩
        case round =>
          obtain ⟨j, n, c, A, ts2, hj, rfl, rfl, HT2, HDj, HOj⟩ := hrel
          by_cases hjm : j < m
          · obtain ⟨b, hbj⟩ : ∃ b, bs[j]? = some b := ⟨_, List.getElem?_eq_getElem (by rw [HBM.out]; exact hjm)⟩
            obtain ⟨ad2, b', rfl, had2, hb2, hcell⟩ := (HBY.out.below HDj.out.b).at_ hjm
            obtain rfl : b = b' := by rw [hbj] at hb2; exact Option.some.inj hb2
            have hLj := HLP.out k _ HR.out (j + 1)
            have HSTEP := keepHid (take_one (bs0 := bsK y1 k) hbj)
            have hjm2 : (j : Int) < (m : Int) := by omega
            have hlen2 := HOj.out.len
            have hLj' := HLP.out k _ HR.out j
            simp only at hLj hLj'
            have HTL := keepHid HT2.out
            have htl : ts2.length ≤ 1048576 := by have := HT2.out; omega
            have hn7 : n ≤ 1048576 := by omega
            clear hbj hb2 hlen2 hLj'
            go_wp2_with fail
            refine (put_at HDj.out _ (by omega)).mono ?_
            rintro e w6 ⟨rfl, h6, ht6⟩
            have HD6 := keepHid h6
            have HO6 : Hid (OwnB w6 w.heap.size 5 (.slice A n c) n (bsK y1 k ++ bs.take j)) := keepHid (own_dt HOj.out noD_byte ht6)
            have hb7 : Below w6.heap.size w6 (w6.alloc (.cells #[.int .u8 (b.toNat : Int)] 5)) := (Below.refl _ _).alloc (Nat.le_refl _) _
            have HD7 := keepHid (HD6.out.below hb7)
            have HO7 : Hid (OwnB (w6.alloc (.cells #[.int .u8 (b.toNat : Int)] 5)) w.heap.size 5 (.slice A n c) n (bsK y1 k ++ bs.take j)) := keepHid (own_below HO6.out hb7)
            have HY7 : Hid (Bys (w6.alloc (.cells #[.int .u8 (b.toNat : Int)] 5)) (w6.heap.size + 1) (some ⟨w6.heap.size, 0, none⟩) 1 [b]) := keepHid (bys_new w6 _ [b] 1 rfl (by unfold maxLen; omega) _ rfl _ rfl)
            have HS7 := keepHid HD7.out.b.size
            clear h6 ht6 hb7 HDj HOj HD6 HO6
            go_wp2_with (at_builtin; refine wpList_append_bytes _ rfl _ _ 29 rfl w.heap.size 5 byteT (.slice A n c) n (bsK y1 k ++ bs.take j) (by rfl) HO7.out (w6.heap.size + 1) (some ⟨w6.heap.size, 0, none⟩) 1 1 [b] (by rfl) HY7.out (n + 1) rfl (by omega) HS7.out ?_)
            intro A4 c4 w8 u1 u2 u3 u4 u5
            have HD8 := keepHid (HD7.out.row HO7.out noD_byte (Nat.le_refl _) u2)
            rw [← List.append_assoc, HSTEP.out] at u1
            have HO8 := keepHid u1
            have HT8 : Hid ((ts2 ++ [(knD z)]).length = (bsK y1 k ++ bs.take (j + 1)).length) := keepHid (by rw [← HSTEP.out, List.length_append, List.length_append (bs := [b]), HTL.out]; rfl)
            clear u1 u2 u3 u4 u5 HD7 HO7 HY7 HS7
            go_wp2
            go_roundw
            case rel => exact ⟨j + 1, n + 1, c4, A4, _, by omega, by go_num, rfl, HT8, HD8, HO8⟩
            case measure => simp [intOf]; omega
          · obtain rfl : j = m := by omega
            have he : bsK y1 k ++ bs.take j = bsK y1 (k + 1) := by rw [bsK_succ HR.out, List.take_of_length_le (by rw [HBM.out]; exact Nat.le_refl _)]
            rw [he] at HT2 HOj
            clear he
            go_wp2
            go_roundw
            case rel => exact ⟨k + 1, _, n, c, A, ts2, by omega, by go_num, rfl, HT2, HDj, HOj⟩
            case measure => simp [intOf]; omega
    · obtain rfl : k = n1 := by omega
      have hall : y1.take k = y1 := List.take_of_length_le (by rw [HN.out]; exact Nat.le_refl _)
      have hTL := HLE.out k
      obtain ⟨X, hX⟩ : ∃ X, bsK y1 k = X := ⟨_, rfl⟩
      rw [hX] at HT HO hTL
      have hlen := HT.out
      have hXn := HO.out.len
      obtain ⟨Af, cf, e9, hnc, hcc, _⟩ := HO.out.form
      obtain ⟨rfl, rfl⟩ : A = Af ∧ c = cf := by injection e9 with q1 q2 q3; exact ⟨q1, q3⟩
      have hts : ts.length ≤ 1099511627776 := by omega
      have HSUM : Hid ((keepD X ts 0).length + (keepD X ts 1).length + (keepD X ts 2).length = n) := keepHid (by rw [keepD_len X ts (by omega) HD.out.d.all2]; omega)
      have hmx : n ≤ 9223372036854775807 := by omega
      have HK : Hid (∀ m, partD X m (segs ts) = keepD X ts m) := keepHid (fun m => part_all X ts m (by omega))
      have hnn : ts.length = n := by omega
      have hn6 : n ≤ 1048576 := by omega
      clear hX hall e9 hlen hXn hTL
      have HP0 := keepHid (part_at HD.out hts A n c X (HO.out.bys hmx) hnc hcc 0)
      rw [HK.out 0] at HP0
      go_wp2_with fail
      refine HP0.out.mono ?_
      rintro e w5 ⟨A5, c5, rfl, _, hb5⟩
      have HD5 := keepHid (HD.out.below hb5)
      have HO5 : Hid (OwnB w5 w.heap.size 5 (.slice A n c) n X) := keepHid (own_below HO.out hb5)
      clear hb5 HP0 HD HO
      have HP1 := keepHid (part_at HD5.out hts A n c X (HO5.out.bys hmx) hnc hcc 1)
      rw [HK.out 1] at HP1
      go_wp2_with fail
      refine HP1.out.mono ?_
      rintro e w6 ⟨A6, c6, rfl, _, hb6⟩
      have HD6 := keepHid (HD5.out.below hb6)
      have HO6 : Hid (OwnB w6 w.heap.size 5 (.slice A n c) n X) := keepHid (own_below HO5.out hb6)
      clear hb6 HP1 HD5 HO5
      have HP2 := keepHid (part_at HD6.out hts A n c X (HO6.out.bys hmx) hnc hcc 2)
      rw [HK.out 2] at HP2
      obtain ⟨l0, hl0⟩ : ∃ l, (keepD X ts 0).length = l := ⟨_, rfl⟩
      obtain ⟨l1, hl1⟩ : ∃ l, (keepD X ts 1).length = l := ⟨_, rfl⟩
      obtain ⟨l2, hl2⟩ : ∃ l, (keepD X ts 2).length = l := ⟨_, rfl⟩
      have hsum := HSUM.out
      rw [hl0, hl1, hl2] at hsum
      have HL2 := keepHid hl2
      rw [hl0, hl1]
      have h01 : (l0 : Int) + (l1 : Int) ≤ 1048576 := by omega
      have h012 : (l0 : Int) + (l1 : Int) + (l2 : Int) = (n : Int) := by omega
      clear hl0 hl1 hl2 HSUM
      go_wp2_with fail
      refine HP2.out.mono ?_
      rintro e w7 ⟨A7, c7, rfl, _, hb7⟩
      rw [HL2.out]
      have HD7 := keepHid (HD6.out.below hb7)
      clear hb7 HP2 HD6 HO6 HL2 HK
      go_wp2_with fail
      refine (segs_at HD7.out hts).mono ?_
      rintro e w8 ⟨A8, c8, rfl, hs8, hb8⟩
      have HD8 := keepHid (HD7.out.below hb8)
      have HS8 := keepHid hs8
      have HEND : Hid (lenD (segs ts) = n) := keepHid (by rw [segs_len, hnn])
      have HOK := keepHid (segOk ts)
      have HLN := keepHid (fun wx (h : DAt w g md ts wx) => len_at h hts)
      rw [hnn] at HLN
      generalize hss : segs ts = ss at *
      obtain ⟨q, hq⟩ : ∃ q, ss.length = q := ⟨_, rfl⟩
      have HQ := keepHid hq
      have hqn : q ≤ n := by rw [← hq, ← hnn]; exact HOK.out.count
      rw [hq]
      clear hs8 hb8 HD7 hss hq hsum
      go_wp2_with fail
      go_loopw [12, 66] (fun sv i wr => ∃ (k : Nat), k ≤ q ∧ i = .int .i64 k ∧ sv = .int .i64 (lenD (ss.take k) : Nat) ∧ Hid (DAt w g md ts wr) ∧ Hid (SegsAt w ss A8 c8 wr)) (fun _ i _ => q - (intOf i).toNat)
      case atStart => exact ⟨0, Nat.zero_le _, rfl, rfl, HD8, HS8⟩
      case round =>
        obtain ⟨k2, hk2, rfl, rfl, HD9, HS9⟩ := hrel
        by_cases hkq : k2 < q
        · obtain ⟨s, hs⟩ : ∃ s, ss[k2]? = some s := ⟨_, List.getElem?_eq_getElem (by rw [HQ.out]; exact hkq)⟩
          obtain ⟨G, rfl, u0, u1, u2⟩ := HS9.out.cells hs
          have hat := HOK.out.at_ k2 s hs
          have HST := keepHid (lenD_take HOK.out hs)
          have hend := hat.end_
          rw [hat.from_, hnn] at hend
          have hkq2 : (k2 : Int) < (q : Int) := by omega
          obtain ⟨T, hT⟩ : ∃ T, lenD (ss.take k2) = T := ⟨_, rfl⟩
          rw [hT] at HST hend ⊢
          obtain ⟨sm, hsm⟩ : ∃ k, s.m = k := ⟨_, rfl⟩
          obtain ⟨sf, hsf⟩ : ∃ k, s.f = k := ⟨_, rfl⟩
          obtain ⟨sn, hsn⟩ : ∃ k, s.n = k := ⟨_, rfl⟩
          rw [hsm] at u0
          rw [hsf] at u1
          rw [hsn] at u2 HST hend
          obtain ⟨w10, hw10⟩ : ∃ w10, wr.alloc (.cells #[.int .i64 (sm : Int), .int .i64 (sf : Int), .int .i64 (sn : Int)] 40) = w10 := ⟨_, rfl⟩
          have hb10 : Below wr.heap.size wr w10 := by rw [← hw10]; exact (Below.refl _ _).alloc (Nat.le_refl _) _
          have k10 : Blk w10 wr.heap.size 40 #[.int .i64 (sm : Int), .int .i64 (sf : Int), .int .i64 (sn : Int)] := by rw [← hw10]; exact Blk.new wr _ _
          have v2 : w10.cell? ⟨wr.heap.size, 2, none⟩ = some (.int .i64 (sn : Int)) := k10.cell 2
          have HD10 := keepHid (HD9.out.below hb10)
          have HS10 := keepHid (HS9.out.below hb10)
          obtain ⟨T2, hT2⟩ : ∃ T2, T + sn = T2 := ⟨_, rfl⟩
          have hTT : (T : Int) + (sn : Int) = (T2 : Int) := by omega
          have hT3 : (T2 : Int) ≤ 1048576 := by omega
          rw [hT2] at HST
          clear hs hat hend hT hsm hsf hsn hb10 k10 HD9 HS9 hT2
          go_wp2
          go_roundw
          case rel => exact ⟨k2 + 1, by omega, by go_num, by rw [HST.out], HD10, HS10⟩
          case measure => simp [intOf]; omega
        · obtain rfl : k2 = q := by omega
          have he : lenD (ss.take k2) = n := by rw [List.take_of_length_le (by rw [HQ.out]; exact Nat.le_refl _), HEND.out]
          rw [he]
          clear he
          have HL3 := keepHid (HLN.out wr HD9.out)
          go_wp2_with fail
          refine HL3.out.mono ?_
          rintro e w11 ⟨rfl, hb11⟩
          have HB := keepHid (HD9.out.below hb11).b
          clear hb11
          go_wp2
          go_ret
          exact ⟨rfl, HB.out⟩

set_option maxRecDepth 100000 in
theorem lifted (os : Os) (started : os.Started) (H : Type) (enc : TypeId × Value → H) (F : Stop.Interp) :
    ReturnsInHanded {} Try.checked os 4 .any ((Rows.OpenSpec.upto Rows.demuxPartsSpec).pre6 enc Try.prog Try.f4 Rows.demuxPartsUptoRow.domain false) (((Rows.OpenSpec.upto Rows.demuxPartsSpec).at F).post enc Try.prog Try.f4 false true false false) := by
  refine returnsInHanded_of_cond_sized (C := Try.checked) (s := Rows.OpenSpec.upto Rows.demuxPartsSpec) (k := Rows.uptoSmall) rfl own started (by kernel_rfl) Try.func4
    (OpenSpec.witness (enc := enc) (C := Try.checked) (s := Rows.OpenSpec.upto Rows.demuxPartsSpec) (k := Rows.uptoSmall) rfl false ⟨#[], #[.int .i8 0, .slice none 0 0], []⟩ 8 (by kernel_rfl) (by kernel_rfl) (by kernel_rfl)
      (x := ([.lit (.int .i8 0), .nil], [], [])) (by kernel_rfl) rfl (by kernel_rfl)) ?_
  intro W base args ds gs before hval0 hW hcnd hsmall0 hsz0 _
  have hsz : (DataW.weightsEach Try.prog (Try.f4.params.toList ++ Rows.demuxPartsSpec.plain.varTypes Try.prog) (ds ++ gs)).all (· ≤ reachBytes) = true := hsz0
  clear hsz0
  have hsmall : Rows.uptoBulkAll (ds ++ gs) ≤ 1048576 := of_decide_eq_true hsmall0
  clear hsmall0
  have hval : ∀ (j : Nat) t v, Try.f4.params[j]? = some t → args[j]? = some v → Value.okWide Try.prog W .any base t v := hval0
  have hW' := hW
  obtain ⟨p, q, hA0, hV, rfl, hfz, hnd⟩ := hW
  have hA : DataW.TrodAll enc Try.prog W 0 (fun _ => true) true Try.f4.params.toList args.toList ds p := hA0
  rw [Try.params4] at hA hval hsz
  obtain ⟨v0, vs0, d0, ds0, p0, q0, hargs, rfl, rfl, h0, r0⟩ := trodAll_cons hA
  obtain ⟨v1, vs1, d1, ds1, p1, q1, rfl, rfl, rfl, h1, r1⟩ := trodAll_cons r0
  obtain ⟨rfl, rfl, rfl⟩ := trodAll_nil r1
  obtain rfl : args = #[v0, v1] := by cases args; simp_all
  obtain ⟨rfl, rfl⟩ := trodVars_none hV
  have k0 := h0
  have lt0 : ∀ x ∈ p0, x.block < W.heap.size := by obtain ⟨m, hm⟩ := k0; exact DataW.trod_lt m _ _ _ hm
  have k1 := h1
  have lt1 : ∀ x ∈ p1, x.block < W.heap.size := by obtain ⟨m, hm⟩ := k1; exact DataW.trod_lt m _ _ _ hm
  obtain ⟨x0, rfl, rfl, rfl, w0⟩ := open_int Try.underlying22 (hval 0 22 v0 rfl rfl) h0
  obtain ⟨a1, n1, c1, y1, rfl, w1, l1, s1, b1⟩ := open_act3 Try.underlying23 Try.underlying32 ⟨rfl, rfl⟩ ⟨rfl, rfl⟩ ⟨rfl, rfl⟩ Try.underlying4 Try.underlying22 Try.underlying29 Try.underlying5 (by kernel_rfl) (by kernel_rfl) (by kernel_rfl) (by kernel_rfl) (by kernel_rfl) (hval 1 23 v1 rfl rfl) h1
  clear hA0 hval0
  simp only [List.append_nil, Rows.uptoBulkAll] at hsmall
  have hbulk : (y1.flatMap Ac.bs).length ≤ 1048576 := by
    rcases b1 with ⟨_, hy⟩ | ⟨D, sp, hd, hD⟩
    · subst hy; simp
    · subst hd
      have := bulk_acts y1 D 0 (fun k r hk => by simpa using hD k r hk)
      simp only [Rows.uptoBulk] at hsmall
      rw [w1.1] at this
      simp only [Nat.zero_add] at this
      have h2 : (y1.flatMap Ac.bs).length ≤ Rows.uptoBulkAll ((List.range n1).map D) := this
      omega
  refine (walk x0 a1 n1 c1 y1 W (wf_i8 w0) w1 l1 s1 hbulk).mono fun e W' ⟨he, bel⟩ => ?_
  subst he
  exact ⟨_, rfl, _, _, _, [], _, [], hW', trodAll_mk1 (shut_bool Try.underlying4 _), (trodAll_cons_mk (Below.trod laidOut (by kernel_rfl) (of_decide_eq_true (by kernel_rfl)) k0 bel lt0) (trodAll_cons_mk (Below.trod laidOut (by kernel_rfl) (of_decide_eq_true (by kernel_rfl)) k1 bel lt1) trodAll_mk0)), rfl, bel.frame _, fun h => by cases h⟩

theorem over : Rows.demuxPartsUptoRow.holds Try.pinned (Rows.OpenSpec.upto Rows.demuxPartsSpec) :=
  OpenClaim.holds_of_cond 4 Try.f4 rfl rfl rfl rfl rfl rfl rfl ⟨rfl, rfl, rfl, rfl, rfl⟩ rfl rfl rfl rfl rfl (by kernel_rfl) Try.func4 (by kernel_rfl)
    (of_decide_eq_true (by kernel_rfl)) (by unfold Func.isWrapper; first | (rw [if_pos (by decide +kernel)]; kernel_rfl) | (rw [if_neg (by decide +kernel)]; exact ⟨rfl, rfl⟩))
    (fun os started H enc _ F => lifted os started H enc F)

theorem proved : Rows.DemuxPartsUptoSaid := over
end Go.Proofs.Ytadfchdcaenglaa.demuxParts
