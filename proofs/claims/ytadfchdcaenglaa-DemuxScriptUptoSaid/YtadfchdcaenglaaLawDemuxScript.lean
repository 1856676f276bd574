/-
  'lifelinelaw14.DemuxScript' answers true for every input of the row, and leaves its arguments as they were.
  Conditions: the arguments hold together at most 1048576 values and bytes, each counted each time that it is reached.
-/
import Derived.Test.YtadfchdcaenglaaRows
import Derived.Test.YtadfchdcaenglaaDemuxRun
import Derived.Lib.QuietBelow
import Derived.LoopTactic
import Derived.Deep.DeepCutAuto
import Derived.Test.YtadfchdcaenglaaFrame
import Derived.WalkKit
import Derived.ProofKit
import Derived.OpenShut
import Derived.ShutString
import Derived.ChangeOld
import Derived.Below
import Derived.JoinedCond
import Derived.Deep.CondSized
namespace Go.Proofs.Ytadfchdcaenglaa.demuxScript
open Go.ChangeShapes Go.WideShapes Go.ChangeAt Go.RowKit
open Go.ChangeMaps (open_string shut_string)
set_option linter.unusedVariables false

theorem own : ownKnob Try.prog.godebug = none := by kernel_rfl
theorem laidOut : laidOutB Try.prog = true := by kernel_rfl

theorem fit_any (x : Int) (w : World) : Calls Try.prog 10 #[.int .i8 x] w fun e w' => e = .returned (.int .i64 (knD x : Nat)) ∧ w = w' := by
  by_cases h1 : x = 1
  · subst h1
    go_enter Try.func10, Try.ntmps10
    go_wp2
    go_ret
    exact ⟨rfl, rfl⟩
  · by_cases h2 : x = 2
    · subst h2
      go_enter Try.func10, Try.ntmps10
      go_wp2
      go_ret
      exact ⟨rfl, rfl⟩
    · have e1 : (x == 1) = false := by simp; omega
      have e2 : (x == 2) = false := by simp; omega
      have HK : Hid (knD x = 0) := keepHid (by unfold knD; rw [if_neg h1, if_neg h2])
      clear h1 h2
      go_enter Try.func10, Try.ntmps10
      go_wp2
      go_ret
      exact ⟨by rw [HK.out]; rfl, rfl⟩
def modV (n : Nat) : Value := .int .i64 (n : Int)
theorem infoM : (Try.prog.info? 25).map (fun i => (i.zero, i.size, i.bytes)) = some (some (.int .i64 0), 1, 8) := by kernel_rfl
/-- A cell of a row of modes. -/
theorem mode_cell {w : World} {base n c j t : Nat} {A : Option Addr} {ts : List Nat} (h : w.ownsRow base 25 1 (.slice A n c) n (ts.map modV)) (ht : ts[j]? = some t) : ∃ G, A = some ⟨G, 0, none⟩ ∧ w.cell? ⟨G, j, none⟩ = some (.int .i64 (t : Int)) := by
  have hj := (List.getElem?_eq_some_iff.1 ht).1
  have hl := h.1
  rw [List.length_map] at hl
  rcases h.2 with ⟨_, h0⟩ | ⟨G, cap, cur, e, _⟩
  · omega
  · have e1 : A = some ⟨G, 0, none⟩ := by injection e
    subst e1
    have := World.ownsRow.cells h rfl j (modV t) (by rw [List.getElem?_map, ht]; rfl)
    have e : (⟨G, 0, none⟩ : Addr).add j = ⟨G, j, none⟩ := by unfold Addr.add; split <;> simp_all
    rw [e] at this
    exact ⟨G, rfl, this⟩
theorem keepD_small : ∀ (xs : List UInt8) (ts : List Nat) (m k n : Nat), k ≤ n → (keepD (xs.take k) (ts.take k) m).length ≤ n := by
  intro xs ts m k n h
  have key : ∀ (cs : List UInt8) (us : List Nat), (keepD cs us m).length ≤ cs.length := by
    intro cs
    induction cs with
    | nil => intro us; simp [keepD]
    | cons c cs ih =>
      intro us
      cases us with
      | nil => simp [keepD]
      | cons t us =>
        have := ih us
        simp only [keepD, List.length_append, List.length_cons]
        split <;> simp <;> omega
  have := key (xs.take k) (ts.take k)
  rw [List.length_take] at this
  omega
set_option maxRecDepth 100000 in
set_option maxHeartbeats 4000000 in
theorem walk (x0 : Int) (a1 : Option Addr) (n1 c1 : Nat) (y1 : List Ac) (w : World) (h0 : -128 ≤ x0 ∧ x0 ≤ 127) (h1 : ActsD w a1 n1 y1) (l1 : n1 ≤ c1) (s1 : c1 ≤ 9223372036854775807) (hbulk : (y1.flatMap Ac.bs).length ≤ 1048576) :
    Calls Try.prog 3 #[.int .i8 x0, .slice a1 n1 c1] w fun e w' => e = .returned (.bool true) ∧ Below w.heap.size w w' := by
  have HA := keepHid h1
  have HLE : Hid (∀ k, (bsK y1 k).length ≤ 1048576) := keepHid (fun k => Nat.le_trans (bsK_le y1 k) hbulk)
  have HLP : Hid (∀ (k : Nat) (r : Ac), y1[k]? = some r → ∀ j, (bsK y1 k ++ r.bs.take j).length ≤ 1048576) := keepHid (fun k r hr j => Nat.le_trans (bsK_part hr j) hbulk)
  have hw0 : IntKind.i64.wrap x0 = x0 := by unfold IntKind.wrap; simp [IntKind.signed, IntKind.bits]; omega
  have HN := keepHid h1.1
  clear h1 hbulk
  go_enter Try.func3, Try.ntmps3
  go_wp2_with fail
  refine (awake_any _).mono ?_
  rintro e w1 ⟨rfl, hb1⟩
  have HB1 := keepHid hb1
  clear hb1
  go_wp2_with fail
  refine (of_at x0 HB1.out).mono ?_
  rintro e w2 ⟨g, rfl, h2⟩
  have H2 := keepHid h2
  clear h2
  go_wp2_with fail
  refine (fit_any x0 _).mono ?_
  rintro e w' ⟨rfl, rfl⟩
  go_wp2_with fail
  go_loopw [7, 8, 9, 33] (fun tv av ov i wr => ∃ (k md n c nt ct : Nat) (A At : Option Addr) (ts : List Nat), k ≤ n1 ∧ i = .int .i64 k ∧ tv = .int .i64 md ∧ av = .slice A n c ∧ ov = .slice At nt ct ∧ Hid (ts.length = (bsK y1 k).length) ∧ Hid (DAt w g md ts wr) ∧ Hid (OwnB wr w.heap.size 5 (.slice A n c) n (bsK y1 k)) ∧ Hid (wr.ownsRow w.heap.size 25 1 (.slice At nt ct) nt (ts.map modV))) (fun _ _ _ i _ => n1 - (intOf i).toNat)
  case atStart => exact ⟨0, knD x0, 0, 0, 0, 0, none, none, [], Nat.zero_le _, rfl, rfl, rfl, rfl, keepHid rfl, H2, keepHid (OwnB.nil _ _ _), keepHid (World.ownsRow_nil _ _ _ _)⟩
  case round =>
    obtain ⟨k, md, n, c, nt, ct, A, At, ts, hk, rfl, rfl, rfl, rfl, HT, HD, HO, HM⟩ := hrel
    by_cases hlt : k < n1
    · obtain ⟨r, hr⟩ : ∃ r, y1[k]? = some r := ⟨_, List.getElem?_eq_getElem (by rw [HN.out]; exact hlt)⟩
      obtain ⟨ad, Ak, ck, rfl, q0, q1, q2, hz, hm, hcm, hby⟩ := HA.out.at_ hr HD.out.b
      have HR := keepHid hr
      have HBY := keepHid hby
      have hln : (k : Int) < (n1 : Int) := by omega
      obtain ⟨sw, z, bs⟩ := r
      simp only at q0 q1 q2 hz hm hby HBY
      obtain ⟨m, hbm⟩ : ∃ m, bs.length = m := ⟨_, rfl⟩
      have HBM := keepHid hbm
      rw [hbm] at q2 hm HBY
      obtain ⟨w3, hw3⟩ : ∃ w3, wr.alloc (.cells #[.bool sw, .int .i8 z, .slice Ak m ck] 32) = w3 := ⟨_, rfl⟩
      have hb3 : Below wr.heap.size wr w3 := by rw [← hw3]; exact (Below.refl _ _).alloc (Nat.le_refl _) _
      have k3 : Blk w3 wr.heap.size 32 #[.bool sw, .int .i8 z, .slice Ak m ck] := by rw [← hw3]; exact Blk.new wr _ _
      have d0 : w3.cell? ⟨wr.heap.size, 0, none⟩ = some (.bool sw) := k3.cell 0
      have d1 : w3.cell? ⟨wr.heap.size, 1, none⟩ = some (.int .i8 z) := k3.cell 1
      have d2 : w3.cell? ⟨wr.heap.size, 2, none⟩ = some (.slice Ak m ck) := k3.cell 2
      have K3 := keepHid k3
      have HD3 := keepHid (HD.out.below hb3)
      have HO3 : Hid (OwnB w3 w.heap.size 5 (.slice A n c) n (bsK y1 k)) := keepHid (own_below HO.out hb3)
      have HM3 := keepHid (own_below HM.out hb3)
      have hwz : IntKind.i64.wrap z = z := by unfold IntKind.wrap; simp [IntKind.signed, IntKind.bits]; omega
      clear hr hby hbm hb3 k3 HD HO HM
      cases sw
      · go_wp2_with fail
        go_loopw [8, 9, 51] (fun av ov i wq => ∃ (j n c nt ct : Nat) (A At : Option Addr) (ts : List Nat), j ≤ m ∧ i = .int .i64 j ∧ av = .slice A n c ∧ ov = .slice At nt ct ∧ Hid (ts.length = (bsK y1 k ++ bs.take j).length) ∧ Hid (DAt w g md ts wq) ∧ Hid (OwnB wq w.heap.size 5 (.slice A n c) n (bsK y1 k ++ bs.take j)) ∧ Hid (wq.ownsRow w.heap.size 25 1 (.slice At nt ct) nt (ts.map modV))) (fun _ _ i _ => m - (intOf i).toNat)
        case atStart => exact ⟨0, n, c, nt, ct, A, At, ts, Nat.zero_le _, rfl, rfl, rfl, keepHid (by rw [List.take_zero, List.append_nil]; exact HT.out), HD3, keepHid (by rw [List.take_zero, List.append_nil]; exact HO3.out), HM3⟩
        case round =>
          obtain ⟨j, n, c, nt, ct, A, At, ts2, hj, rfl, rfl, rfl, HT2, HDj, HOj, HMj⟩ := hrel
          have hlen2 := HOj.out.len
          have hlen3 : ts2.length = nt := by have := HMj.out.1; rw [List.length_map] at this; omega
          have hLj' := HLP.out k _ HR.out j
          simp only at hLj'
          have hT2 := HT2.out
          by_cases hjm : j < m
          · obtain ⟨b, hbj⟩ : ∃ b, bs[j]? = some b := ⟨_, List.getElem?_eq_getElem (by rw [HBM.out]; exact hjm)⟩
            obtain ⟨ad2, b', rfl, had2, hb2, hcell⟩ := (HBY.out.below HDj.out.b).at_ hjm
            obtain rfl : b = b' := by rw [hbj] at hb2; exact Option.some.inj hb2
            have HSTEP := keepHid (take_one (bs0 := bsK y1 k) hbj)
            have hjm2 : (j : Int) < (m : Int) := by omega
            have HTL := keepHid HT2.out
            have htl : ts2.length ≤ 1048576 := by omega
            have hn7 : n ≤ 1048576 := by omega
            have hn8 : nt ≤ 1048576 := by omega
            clear hbj hb2 hlen2 hlen3 hLj' hT2
            go_wp2_with fail
            refine (put_at HDj.out _ (by omega)).mono ?_
            rintro e w6 ⟨rfl, h6, ht6⟩
            have HD6 := keepHid h6
            have HO6 : Hid (OwnB w6 w.heap.size 5 (.slice A n c) n (bsK y1 k ++ bs.take j)) := keepHid (own_dt HOj.out noD_byte ht6)
            have HM6 := keepHid (own_dt HMj.out noD_mode ht6)
            have hb7 : Below w6.heap.size w6 (w6.alloc (.cells #[.int .u8 (b.toNat : Int)] 5)) := (Below.refl _ _).alloc (Nat.le_refl _) _
            have HD7 := keepHid (HD6.out.below hb7)
            have HO7 : Hid (OwnB (w6.alloc (.cells #[.int .u8 (b.toNat : Int)] 5)) w.heap.size 5 (.slice A n c) n (bsK y1 k ++ bs.take j)) := keepHid (own_below HO6.out hb7)
            have HM7 := keepHid (own_below HM6.out hb7)
            have HY7 : Hid (Bys (w6.alloc (.cells #[.int .u8 (b.toNat : Int)] 5)) (w6.heap.size + 1) (some ⟨w6.heap.size, 0, none⟩) 1 [b]) := keepHid (bys_new w6 _ [b] 1 rfl (by unfold maxLen; omega) _ rfl _ rfl)
            have HS7 := keepHid HD7.out.b.size
            clear h6 ht6 hb7 HDj HOj HMj HD6 HO6 HM6
            go_wp2_with (at_builtin; refine wpList_append_bytes _ rfl _ _ 29 rfl w.heap.size 5 byteT (.slice A n c) n (bsK y1 k ++ bs.take j) (by rfl) HO7.out (w6.heap.size + 1) (some ⟨w6.heap.size, 0, none⟩) 1 1 [b] (by rfl) HY7.out (n + 1) rfl (by omega) HS7.out ?_)
            intro A4 c4 w8 u1 u2 u3 u4 u5
            have HD8 := keepHid (HD7.out.row HO7.out noD_byte (Nat.le_refl _) u2)
            have HM8 := keepHid (own_turn HM7.out HO7.out (by decide) u2)
            rw [← List.append_assoc, HSTEP.out] at u1
            have HO8 : Hid (OwnB w8 w.heap.size 5 (.slice A4 (n + 1) c4) (n + 1) (bsK y1 k ++ bs.take (j + 1))) := keepHid u1
            have hb9 : Below w8.heap.size w8 (w8.alloc (.cells #[.int .i64 (md : Nat)] 25)) := (Below.refl _ _).alloc (Nat.le_refl _) _
            have HD9 := keepHid (HD8.out.below hb9)
            have HO9 := keepHid (own_below HO8.out hb9)
            have HM9 := keepHid (own_below HM8.out hb9)
            have HC9 : Hid ((w8.alloc (.cells #[.int .i64 (md : Nat)] 25)).cell? ⟨w8.heap.size, 0, none⟩ = some (.int .i64 (md : Nat))) := keepHid ((Blk.new w8 _ _).cell 0)
            have HS9 := keepHid HD9.out.b.size
            clear u1 u2 u3 u4 u5 hb9 HD7 HO7 HM7 HY7 HS7 HD8 HO8 HM8
            go_wp2_with (at_builtin; refine wpList_append_cell Try.underlying30 infoM rfl (by omega) _ rfl _ _ rfl w.heap.size (.slice At nt ct) nt (ts2.map modV) (by rfl) HM9.out w8.heap.size (by rfl) (.int .i64 (md : Nat)) HC9.out rfl (by omega) HS9.out ?_)
            intro P4 cap4 w10 v1 v2 v3
            have HD10 := keepHid (HD9.out.row HM9.out noD_mode (Nat.le_refl _) (turn_grown v2))
            have HO10 : Hid (OwnB w10 w.heap.size 5 (.slice A4 (n + 1) c4) (n + 1) (bsK y1 k ++ bs.take (j + 1))) := keepHid (own_turn HO9.out HM9.out (by decide) (turn_grown v2))
            have HM10 : Hid (w10.ownsRow w.heap.size 25 1 (.slice P4 (nt + 1) cap4) (nt + 1) ((ts2 ++ [md]).map modV)) := keepHid (by rw [List.map_append]; exact v1)
            have HT10 : Hid ((ts2 ++ [md]).length = (bsK y1 k ++ bs.take (j + 1)).length) := keepHid (by rw [← HSTEP.out, List.length_append, List.length_append (bs := [b]), HTL.out]; rfl)
            clear v1 v2 v3 HD9 HO9 HM9 HC9 HS9
            go_wp2
            go_roundw
            case rel => exact ⟨j + 1, n + 1, c4, nt + 1, cap4, A4, P4, _, by omega, by go_num, rfl, rfl, HT10, HD10, HO10, HM10⟩
            case measure => simp [intOf]; omega
          · obtain rfl : j = m := by omega
            have he : bsK y1 k ++ bs.take j = bsK y1 (k + 1) := by rw [bsK_succ HR.out, List.take_of_length_le (by rw [HBM.out]; exact Nat.le_refl _)]
            have hnn : ts2.length = n := by omega
            have htl : ts2.length ≤ 1099511627776 := by omega
            have HLN := keepHid (len_at HDj.out htl)
            rw [hnn] at HLN
            rw [he] at HT2 HOj
            clear he hnn hlen2 hlen3 hLj' hT2
            go_wp2_with fail
            refine (mode_at HDj.out).mono ?_
            rintro e w' ⟨rfl, rfl⟩
            go_wp2_with fail
            refine HLN.out.mono ?_
            rintro e w12 ⟨rfl, hb12⟩
            have HD12 := keepHid (HDj.out.below hb12)
            have HO12 : Hid (OwnB w12 w.heap.size 5 (.slice A n c) n (bsK y1 (k + 1))) := keepHid (own_below HOj.out hb12)
            have HM12 := keepHid (own_below HMj.out hb12)
            clear hb12 HDj HOj HMj HLN
            go_wp2
            go_roundw
            case rel => exact ⟨k + 1, _, n, c, nt, ct, A, At, ts2, by omega, by go_num, rfl, rfl, rfl, HT2, HD12, HO12, HM12⟩
            case measure => simp [intOf]; omega
      · go_wp2_with fail
        refine (switch_at HD3.out z).mono ?_
        rintro e w4 ⟨rfl, h4, ht4⟩
        have k4 := ht4.oth _ _ _ K3.out (by decide) (by decide)
        have d5 : w4.cell? ⟨wr.heap.size, 1, none⟩ = some (.int .i8 z) := k4.cell 1
        have d4 : w4.cell? ⟨wr.heap.size, 2, none⟩ = some (.slice Ak m ck) := k4.cell 2
        have HD4 := keepHid h4
        have HO4 : Hid (OwnB w4 w.heap.size 5 (.slice A n c) n (bsK y1 k)) := keepHid (own_dt HO3.out noD_byte ht4)
        have HM4 := keepHid (own_dt HM3.out noD_mode ht4)
        clear h4 ht4 k4 HO3 HD3 HM3 d0 d1 d2 K3
        go_wp2_with fail
        refine (fit_any z _).mono ?_
        rintro e w' ⟨rfl, rfl⟩
        go_wp2_with fail
        go_loopw [8, 9, 51] (fun av ov i wq => ∃ (j n c nt ct : Nat) (A At : Option Addr) (ts : List Nat), j ≤ m ∧ i = .int .i64 j ∧ av = .slice A n c ∧ ov = .slice At nt ct ∧ Hid (ts.length = (bsK y1 k ++ bs.take j).length) ∧ Hid (DAt w g (knD z) ts wq) ∧ Hid (OwnB wq w.heap.size 5 (.slice A n c) n (bsK y1 k ++ bs.take j)) ∧ Hid (wq.ownsRow w.heap.size 25 1 (.slice At nt ct) nt (ts.map modV))) (fun _ _ i _ => m - (intOf i).toNat)
        case atStart => exact ⟨0, n, c, nt, ct, A, At, ts, Nat.zero_le _, rfl, rfl, rfl, keepHid (by rw [List.take_zero, List.append_nil]; exact HT.out), HD4, keepHid (by rw [List.take_zero, List.append_nil]; exact HO4.out), HM4⟩
        case round =>
          obtain ⟨j, n, c, nt, ct, A, At, ts2, hj, rfl, rfl, rfl, HT2, HDj, HOj, HMj⟩ := hrel
          have hlen2 := HOj.out.len
          have hlen3 : ts2.length = nt := by have := HMj.out.1; rw [List.length_map] at this; omega
          have hLj' := HLP.out k _ HR.out j
          simp only at hLj'
          have hT2 := HT2.out
          by_cases hjm : j < m
          · obtain ⟨b, hbj⟩ : ∃ b, bs[j]? = some b := ⟨_, List.getElem?_eq_getElem (by rw [HBM.out]; exact hjm)⟩
            obtain ⟨ad2, b', rfl, had2, hb2, hcell⟩ := (HBY.out.below HDj.out.b).at_ hjm
            obtain rfl : b = b' := by rw [hbj] at hb2; exact Option.some.inj hb2
            have HSTEP := keepHid (take_one (bs0 := bsK y1 k) hbj)
            have hjm2 : (j : Int) < (m : Int) := by omega
            have HTL := keepHid HT2.out
            have htl : ts2.length ≤ 1048576 := by omega
            have hn7 : n ≤ 1048576 := by omega
            have hn8 : nt ≤ 1048576 := by omega
            clear hbj hb2 hlen2 hlen3 hLj' hT2
            go_wp2_with fail
            refine (put_at HDj.out _ (by omega)).mono ?_
            rintro e w6 ⟨rfl, h6, ht6⟩
            have HD6 := keepHid h6
            have HO6 : Hid (OwnB w6 w.heap.size 5 (.slice A n c) n (bsK y1 k ++ bs.take j)) := keepHid (own_dt HOj.out noD_byte ht6)
            have HM6 := keepHid (own_dt HMj.out noD_mode ht6)
            have hb7 : Below w6.heap.size w6 (w6.alloc (.cells #[.int .u8 (b.toNat : Int)] 5)) := (Below.refl _ _).alloc (Nat.le_refl _) _
            have HD7 := keepHid (HD6.out.below hb7)
            have HO7 : Hid (OwnB (w6.alloc (.cells #[.int .u8 (b.toNat : Int)] 5)) w.heap.size 5 (.slice A n c) n (bsK y1 k ++ bs.take j)) := keepHid (own_below HO6.out hb7)
            have HM7 := keepHid (own_below HM6.out hb7)
            have HY7 : Hid (Bys (w6.alloc (.cells #[.int .u8 (b.toNat : Int)] 5)) (w6.heap.size + 1) (some ⟨w6.heap.size, 0, none⟩) 1 [b]) := keepHid (bys_new w6 _ [b] 1 rfl (by unfold maxLen; omega) _ rfl _ rfl)
            have HS7 := keepHid HD7.out.b.size
            clear h6 ht6 hb7 HDj HOj HMj HD6 HO6 HM6
            go_wp2_with (at_builtin; refine wpList_append_bytes _ rfl _ _ 29 rfl w.heap.size 5 byteT (.slice A n c) n (bsK y1 k ++ bs.take j) (by rfl) HO7.out (w6.heap.size + 1) (some ⟨w6.heap.size, 0, none⟩) 1 1 [b] (by rfl) HY7.out (n + 1) rfl (by omega) HS7.out ?_)
            intro A4 c4 w8 u1 u2 u3 u4 u5
            have HD8 := keepHid (HD7.out.row HO7.out noD_byte (Nat.le_refl _) u2)
            have HM8 := keepHid (own_turn HM7.out HO7.out (by decide) u2)
            rw [← List.append_assoc, HSTEP.out] at u1
            have HO8 : Hid (OwnB w8 w.heap.size 5 (.slice A4 (n + 1) c4) (n + 1) (bsK y1 k ++ bs.take (j + 1))) := keepHid u1
            have hb9 : Below w8.heap.size w8 (w8.alloc (.cells #[.int .i64 ((knD z) : Nat)] 25)) := (Below.refl _ _).alloc (Nat.le_refl _) _
            have HD9 := keepHid (HD8.out.below hb9)
            have HO9 := keepHid (own_below HO8.out hb9)
            have HM9 := keepHid (own_below HM8.out hb9)
            have HC9 : Hid ((w8.alloc (.cells #[.int .i64 ((knD z) : Nat)] 25)).cell? ⟨w8.heap.size, 0, none⟩ = some (.int .i64 ((knD z) : Nat))) := keepHid ((Blk.new w8 _ _).cell 0)
            have HS9 := keepHid HD9.out.b.size
            clear u1 u2 u3 u4 u5 hb9 HD7 HO7 HM7 HY7 HS7 HD8 HO8 HM8
            go_wp2_with (at_builtin; refine wpList_append_cell Try.underlying30 infoM rfl (by omega) _ rfl _ _ rfl w.heap.size (.slice At nt ct) nt (ts2.map modV) (by rfl) HM9.out w8.heap.size (by rfl) (.int .i64 ((knD z) : Nat)) HC9.out rfl (by omega) HS9.out ?_)
            intro P4 cap4 w10 v1 v2 v3
            have HD10 := keepHid (HD9.out.row HM9.out noD_mode (Nat.le_refl _) (turn_grown v2))
            have HO10 : Hid (OwnB w10 w.heap.size 5 (.slice A4 (n + 1) c4) (n + 1) (bsK y1 k ++ bs.take (j + 1))) := keepHid (own_turn HO9.out HM9.out (by decide) (turn_grown v2))
            have HM10 : Hid (w10.ownsRow w.heap.size 25 1 (.slice P4 (nt + 1) cap4) (nt + 1) ((ts2 ++ [(knD z)]).map modV)) := keepHid (by rw [List.map_append]; exact v1)
            have HT10 : Hid ((ts2 ++ [(knD z)]).length = (bsK y1 k ++ bs.take (j + 1)).length) := keepHid (by rw [← HSTEP.out, List.length_append, List.length_append (bs := [b]), HTL.out]; rfl)
            clear v1 v2 v3 HD9 HO9 HM9 HC9 HS9
            go_wp2
            go_roundw
            case rel => exact ⟨j + 1, n + 1, c4, nt + 1, cap4, A4, P4, _, by omega, by go_num, rfl, rfl, HT10, HD10, HO10, HM10⟩
            case measure => simp [intOf]; omega
          · obtain rfl : j = m := by omega
            have he : bsK y1 k ++ bs.take j = bsK y1 (k + 1) := by rw [bsK_succ HR.out, List.take_of_length_le (by rw [HBM.out]; exact Nat.le_refl _)]
            have hnn : ts2.length = n := by omega
            have htl : ts2.length ≤ 1099511627776 := by omega
            have HLN := keepHid (len_at HDj.out htl)
            rw [hnn] at HLN
            rw [he] at HT2 HOj
            clear he hnn hlen2 hlen3 hLj' hT2
            go_wp2_with fail
            refine (mode_at HDj.out).mono ?_
            rintro e w' ⟨rfl, rfl⟩
            go_wp2_with fail
            refine HLN.out.mono ?_
            rintro e w12 ⟨rfl, hb12⟩
            have HD12 := keepHid (HDj.out.below hb12)
            have HO12 : Hid (OwnB w12 w.heap.size 5 (.slice A n c) n (bsK y1 (k + 1))) := keepHid (own_below HOj.out hb12)
            have HM12 := keepHid (own_below HMj.out hb12)
            clear hb12 HDj HOj HMj HLN
            go_wp2
            go_roundw
            case rel => exact ⟨k + 1, _, n, c, nt, ct, A, At, ts2, by omega, by go_num, rfl, rfl, rfl, HT2, HD12, HO12, HM12⟩
            case measure => simp [intOf]; omega
    · obtain rfl : k = n1 := by omega
      have hTL := HLE.out k
      obtain ⟨X, hX⟩ : ∃ X, bsK y1 k = X := ⟨_, rfl⟩
      rw [hX] at HT HO hTL
      have hlen := HT.out
      have hXn := HO.out.len
      have hlen3 : ts.length = nt := by have := HM.out.1; rw [List.length_map] at this; omega
      obtain ⟨Af, cf, e9, hnc, hcc, _⟩ := HO.out.form
      obtain ⟨rfl, rfl⟩ : A = Af ∧ c = cf := by injection e9 with q1 q2 q3; exact ⟨q1, q3⟩
      have hts : ts.length ≤ 1099511627776 := by omega
      have hmx : n ≤ 9223372036854775807 := by omega
      have HK : Hid (∀ m, partD X m (segs ts) = keepD X ts m) := keepHid (fun m => part_all X ts m (by omega))
      have hnn : ts.length = n := by omega
      have hn6 : n ≤ 1048576 := by omega
      obtain rfl : nt = n := by omega
      have HXL : Hid (X.length = ts.length) := keepHid (by omega)
      have HXN := keepHid hXn
      have HNN := keepHid hnn
      have HTS := keepHid hts
      clear hX e9 hlen hXn hTL hlen3
      go_wp2_with fail
      refine (segs_at HD.out hts).mono ?_
      rintro e w8 ⟨A8, c8, rfl, hs8, hb8⟩
      have HD8 := keepHid (HD.out.below hb8)
      have HO8 : Hid (OwnB w8 w.heap.size 5 (.slice A nt c) nt X) := keepHid (own_below HO.out hb8)
      have HM8 := keepHid (own_below HM.out hb8)
      have HS8 := keepHid hs8
      have HEND : Hid (lenD (segs ts) = nt) := keepHid (by rw [segs_len, hnn])
      have HOK := keepHid (segOk ts)
      obtain ⟨ss, hss⟩ : ∃ ss, segs ts = ss := ⟨_, rfl⟩
      rw [hss] at HS8 HEND HOK HK ⊢
      have HSS := keepHid hss
      obtain ⟨q, hq⟩ : ∃ q, ss.length = q := ⟨_, rfl⟩
      have HQ := keepHid hq
      have hqn : q ≤ nt := by rw [← hq, ← hnn]; exact HOK.out.count
      rw [hq]
      clear hs8 hb8 HD HO HM hss hq hnn hts
      go_wp2_with fail
      go_loopw [14, 85] (fun sv i wr => ∃ (k : Nat), k ≤ q ∧ i = .int .i64 k ∧ sv = .int .i64 (lenD (ss.take k) : Nat) ∧ Hid (Below w8.heap.size w8 wr)) (fun _ i _ => q - (intOf i).toNat)
      case atStart => exact ⟨0, Nat.zero_le _, rfl, rfl, keepHid (Below.refl _ _)⟩
      case round =>
        obtain ⟨k2, hk2, rfl, rfl, HB9⟩ := hrel
        generalize wr = wo at *
        by_cases hkq : k2 < q
        · obtain ⟨s, hs⟩ : ∃ s, ss[k2]? = some s := ⟨_, List.getElem?_eq_getElem (by rw [HQ.out]; exact hkq)⟩
          obtain ⟨G, hG, u0, u1, u2⟩ := (HS8.out.below HB9.out).cells hs
          have hat := HOK.out.at_ k2 s hs
          have HST := keepHid (lenD_take HOK.out hs)
          have hend := hat.end_
          rw [HNN.out] at hend
          have hkq2 : (k2 : Int) < (q : Int) := by omega
          obtain ⟨T, hT⟩ : ∃ T, lenD (ss.take k2) = T := ⟨_, rfl⟩
          have hfrom : s.f = T := by rw [← hT]; exact hat.from_
          have hpos := hat.pos
          rw [hT] at HST ⊢
          have HPV : Hid (∀ p, p + 1 = k2 → ∃ pm : Nat, (pm : Int) ≠ (s.m : Int) ∧ wo.cell? ⟨G, p * 3, none⟩ = some (.int .i64 (pm : Int))) := keepHid (fun p hp => by
            obtain ⟨r, hr⟩ : ∃ r, ss[p]? = some r := ⟨_, List.getElem?_eq_getElem (by rw [HQ.out]; omega)⟩
            obtain ⟨G', hG', u0', _, _⟩ := (HS8.out.below HB9.out).cells hr
            obtain rfl : G = G' := by rw [hG] at hG'; injection hG' with hG'; injection hG'
            have := hat.prev r (by omega) (by rw [show k2 - 1 = p by omega]; exact hr)
            exact ⟨r.m, by omega, u0'⟩)
          have HALL : Hid (∀ i, i < s.n → ts[T + i]? = some s.m) := keepHid (fun i hi => by rw [← hfrom]; exact hat.all i hi)
          obtain ⟨sm, hsm⟩ : ∃ k, s.m = k := ⟨_, rfl⟩
          obtain ⟨sn, hsn⟩ : ∃ k, s.n = k := ⟨_, rfl⟩
          rw [hsm] at u0 HPV HALL
          rw [hfrom] at u1 hend
          rw [hsn] at u2 HST hend hpos HALL
          subst hG
          obtain ⟨w10, hw10⟩ : ∃ w10, wo.alloc (.cells #[.int .i64 (sm : Int), .int .i64 (T : Int), .int .i64 (sn : Int)] 40) = w10 := ⟨_, rfl⟩
          have hb10 : Below wo.heap.size wo w10 := by rw [← hw10]; exact (Below.refl _ _).alloc (Nat.le_refl _) _
          have k10 : Blk w10 wo.heap.size 40 #[.int .i64 (sm : Int), .int .i64 (T : Int), .int .i64 (sn : Int)] := by rw [← hw10]; exact Blk.new wo _ _
          have v0 := cell_regrown (show w10.cell? ⟨wo.heap.size, 0, none⟩ = some (.int .i64 (sm : Int)) from k10.cell 0)
          have v1 := cell_regrown (show w10.cell? ⟨wo.heap.size, 1, none⟩ = some (.int .i64 (T : Int)) from k10.cell 1)
          have v2 := cell_regrown (show w10.cell? ⟨wo.heap.size, 2, none⟩ = some (.int .i64 (sn : Int)) from k10.cell 2)
          have r0 := show w10.cell? ⟨wo.heap.size, 0, none⟩ = some (.int .i64 (sm : Int)) from k10.cell 0
          have r1 := show w10.cell? ⟨wo.heap.size, 1, none⟩ = some (.int .i64 (T : Int)) from k10.cell 1
          have r2 := show w10.cell? ⟨wo.heap.size, 2, none⟩ = some (.int .i64 (sn : Int)) from k10.cell 2
          have K10 := keepHid k10
          have HBW := keepHid (HB9.out.trans (hb10.mono HB9.out.size))
          have HB10 := keepHid hb10
          obtain ⟨T2, hT2⟩ : ∃ T2, T + sn = T2 := ⟨_, rfl⟩
          have hTT : (T : Int) + (sn : Int) = (T2 : Int) := by omega
          have hT3 : (T2 : Int) ≤ 1048576 := by omega
          rw [hT2] at HST
          have z1 : decide ((sn : Int) < 1) = false := decide_eq_false (by omega)
          have z2 : decide (sn < 1) = false := decide_eq_false (by omega)
          have z3 : decide ((nt : Int) < (T2 : Int)) = false := decide_eq_false (by omega)
          have z4 : decide (nt < T2) = false := decide_eq_false (by omega)
          have hTnt : T + sn ≤ nt := hend
          clear hs hat hend hT hfrom hsm hsn hb10 k10 hT2
          rcases Nat.eq_zero_or_pos k2 with rfl | hkp
          · go_upto_region 28 with fail
            refine wp_region_quiet_below (by kernel_rfl) (by kernel_rfl) ?_
            repeat (go_big_quiet_step (fail))
            refine wpQuiet_nil ?_
            intro _ hw'
            obtain ⟨⟨dq, osq⟩, hw''⟩ := hw'
            subst hw''
            have hb11 := below_regrown w10 dq osq
            generalize Sort.grow (redrawn w10 dq) osq = w11 at *
            have HB11 := keepHid (HBW.out.trans (hb11.mono HBW.out.size))
            have k11 := K10.out.below hb11 K10.out.lt
            have x2 : w11.cell? ⟨wo.heap.size, 2, none⟩ = some (.int .i64 (sn : Int)) := k11.cell 2
            have K11 := keepHid k11
            clear hb11 k11 v0 v1 v2 r0 r1 r2
            go_wp2_with fail
            go_loopw [18] (fun i wq => ∃ j : Nat, j ≤ sn ∧ i = .int .i64 j ∧ Hid (Below w11.heap.size w11 wq)) (fun i _ => sn - (intOf i).toNat)
            case atStart => exact ⟨0, Nat.zero_le _, rfl, keepHid (Below.refl _ _)⟩
            case round =>
              obtain ⟨j, hj, rfl, HBQ⟩ := hrel
              have kq := K11.out.below HBQ.out K11.out.lt
              have y2 : wr.cell? ⟨wo.heap.size, 2, none⟩ = some (.int .i64 (sn : Int)) := kq.cell 2
              by_cases hjs : j < sn
              · obtain ⟨Gt, hGt, t0⟩ := mode_cell (own_below HM8.out (HB11.out.trans (HBQ.out.mono HB11.out.size))) (HALL.out j hjs)
                obtain ⟨x, hx⟩ : ∃ x, T + j = x := ⟨_, rfl⟩
                have hxx : (T : Int) + (j : Int) = (x : Int) := by omega
                have hxn : (x : Int) < (nt : Int) := by omega
                have hjs2 : (j : Int) < (sn : Int) := by omega
                rw [hx] at t0
                have s0 := cell_regrown t0
                have s1 := cell_regrown (show wr.cell? ⟨wo.heap.size, 0, none⟩ = some (.int .i64 (sm : Int)) from kq.cell 0)
                subst hGt
                clear hx kq t0
                go_upto_region 33 with fail
                refine wp_region_quiet_below (by kernel_rfl) (by kernel_rfl) ?_
                repeat (go_big_quiet_step (fail))
                refine wpQuiet_nil ?_
                intro _ hw'
                obtain ⟨⟨dq2, osq2⟩, hw''⟩ := hw'
                subst hw''
                have HBN := keepHid (HBQ.out.trans ((below_regrown wr dq2 osq2).mono HBQ.out.size))
                generalize Sort.grow (redrawn wr dq2) osq2 = wz at *
                clear s0 s1
                go_wp2
                go_roundw
                case rel => exact ⟨j + 1, by omega, by go_num, HBN⟩
                case measure => simp [intOf]; omega
              · obtain rfl : j = sn := by omega
                have HBN := keepHid (HB11.out.trans (HBQ.out.mono HB11.out.size))
                clear kq
                go_wp2
                go_roundw
                case rel => exact ⟨0 + 1, by omega, by go_num, by rw [HST.out], HBN⟩
                case measure => simp [intOf]; omega
          · obtain ⟨p, hp⟩ : ∃ p, p + 1 = k2 := ⟨k2 - 1, by omega⟩
            obtain ⟨pm, hpm, hpc⟩ := HPV.out p hp
            have hpi : (k2 : Int) - 1 = (p : Int) := by omega
            have hpq : (p : Int) < (q : Int) := by omega
            have hpp := cell_regrown ((HB10.out.cell (World.block_lt_of_cell? _ _ hpc)).trans hpc)
            have hpe : ((pm : Int) == (sm : Int)) = false := by simp; omega
            have z5 : decide ((0 : Int) < (k2 : Int)) = true := decide_eq_true (by omega)
            have z6 : decide (0 < k2) = true := decide_eq_true (by omega)
            clear hp hpm hpc
            go_upto_region 28 with fail
            refine wp_region_quiet_below (by kernel_rfl) (by kernel_rfl) ?_
            repeat (go_big_quiet_step (fail))
            refine wpQuiet_nil ?_
            intro _ hw'
            obtain ⟨⟨dq, osq⟩, hw''⟩ := hw'
            subst hw''
            have hb11 := below_regrown w10 dq osq
            generalize Sort.grow (redrawn w10 dq) osq = w11 at *
            have HB11 := keepHid (HBW.out.trans (hb11.mono HBW.out.size))
            have k11 := K10.out.below hb11 K10.out.lt
            have x2 : w11.cell? ⟨wo.heap.size, 2, none⟩ = some (.int .i64 (sn : Int)) := k11.cell 2
            have K11 := keepHid k11
            clear hb11 k11 v0 v1 v2 r0 r1 r2
            go_wp2_with fail
            go_loopw [18] (fun i wq => ∃ j : Nat, j ≤ sn ∧ i = .int .i64 j ∧ Hid (Below w11.heap.size w11 wq)) (fun i _ => sn - (intOf i).toNat)
            case atStart => exact ⟨0, Nat.zero_le _, rfl, keepHid (Below.refl _ _)⟩
            case round =>
              obtain ⟨j, hj, rfl, HBQ⟩ := hrel
              have kq := K11.out.below HBQ.out K11.out.lt
              have y2 : wr.cell? ⟨wo.heap.size, 2, none⟩ = some (.int .i64 (sn : Int)) := kq.cell 2
              by_cases hjs : j < sn
              · obtain ⟨Gt, hGt, t0⟩ := mode_cell (own_below HM8.out (HB11.out.trans (HBQ.out.mono HB11.out.size))) (HALL.out j hjs)
                obtain ⟨x, hx⟩ : ∃ x, T + j = x := ⟨_, rfl⟩
                have hxx : (T : Int) + (j : Int) = (x : Int) := by omega
                have hxn : (x : Int) < (nt : Int) := by omega
                have hjs2 : (j : Int) < (sn : Int) := by omega
                rw [hx] at t0
                have s0 := cell_regrown t0
                have s1 := cell_regrown (show wr.cell? ⟨wo.heap.size, 0, none⟩ = some (.int .i64 (sm : Int)) from kq.cell 0)
                subst hGt
                clear hx kq t0
                go_upto_region 33 with fail
                refine wp_region_quiet_below (by kernel_rfl) (by kernel_rfl) ?_
                repeat (go_big_quiet_step (fail))
                refine wpQuiet_nil ?_
                intro _ hw'
                obtain ⟨⟨dq2, osq2⟩, hw''⟩ := hw'
                subst hw''
                have HBN := keepHid (HBQ.out.trans ((below_regrown wr dq2 osq2).mono HBQ.out.size))
                generalize Sort.grow (redrawn wr dq2) osq2 = wz at *
                clear s0 s1
                go_wp2
                go_roundw
                case rel => exact ⟨j + 1, by omega, by go_num, HBN⟩
                case measure => simp [intOf]; omega
              · obtain rfl : j = sn := by omega
                have HBN := keepHid (HB11.out.trans (HBQ.out.mono HB11.out.size))
                clear kq
                go_wp2
                go_roundw
                case rel => exact ⟨k2 + 1, by omega, by go_num, by rw [HST.out], HBN⟩
                case measure => simp [intOf]; omega
        · obtain rfl : k2 = q := by omega
          have he : lenD (ss.take k2) = nt := by rw [List.take_of_length_le (by rw [HQ.out]; exact Nat.le_refl _), HEND.out]
          rw [he]
          clear he
          have hnil : (⟨#[]⟩ : ByteArray) = strB [] := rfl
          have HNIL := keepHid hnil
          clear hnil
          go_wp2_with fail
          go_loopw [19] (fun i wr => ∃ mm : Nat, mm ≤ 3 ∧ i = .int .i64 mm ∧ Hid (Below w8.heap.size w8 wr)) (fun i _ => 3 - (intOf i).toNat)
          case atStart => exact ⟨0, by omega, rfl, HB9⟩
          case round =>
            obtain ⟨mm, hmm, rfl, HBX⟩ := hrel
            by_cases hm3 : mm ≤ 2
            · have hm4 : (mm : Int) ≤ 2 := by omega
              go_wp2_with fail
              go_loopw [20, 149] (fun sv i wq => ∃ k3 : Nat, k3 ≤ nt ∧ i = .int .i64 k3 ∧ sv = .string (strB (keepD (X.take k3) (ts.take k3) mm)) ∧ Hid (Below w8.heap.size w8 wq)) (fun _ i _ => nt - (intOf i).toNat)
              case atStart => exact ⟨0, Nat.zero_le _, rfl, by rw [HNIL.out]; rfl, HBX⟩
              case round =>
                obtain ⟨k3, hk3, rfl, rfl, HBY2⟩ := hrel
                by_cases hk4 : k3 < nt
                · obtain ⟨tt, htt⟩ : ∃ t, ts[k3]? = some t := ⟨_, List.getElem?_eq_getElem (by rw [HNN.out]; exact hk4)⟩
                  obtain ⟨ad, b, had, hadl, hxb, hcell⟩ := (OwnB.bys (own_below HO8.out HBY2.out) hmx).at_ hk4
                  obtain ⟨Gt, hGt, t0⟩ := mode_cell (own_below HM8.out HBY2.out) htt
                  have hk5 : (k3 : Int) < (nt : Int) := by omega
                  have HKS := keepHid (keepD_step X ts mm k3 b tt HXL.out hxb htt)
                  have hkl : (keepD (X.take k3) (ts.take k3) mm).length ≤ 1048576 := by
                    refine Nat.le_trans ?_ hn6
                    exact keepD_small _ _ _ k3 nt (by omega)
                  obtain ⟨Z, hZ⟩ : ∃ Z, keepD (X.take k3) (ts.take k3) mm = Z := ⟨_, rfl⟩
                  rw [hZ] at HKS hkl ⊢
                  subst had hGt
                  clear hxb htt hZ hadl
                  by_cases htm : tt = mm
                  · subst htm
                    rw [if_pos rfl] at HKS
                    have hcv := conv_new wr wr.heap.size rfl #[.int .u8 (b.toNat : Int)] [b] 1 rfl rfl (by omega)
                    have hadd : ∀ W : World, (Op.stringOp .add (strB Z) (strB [b])).run Try.prog W = .ok (.string (strB (Z ++ [b]))) W := fun W => run_strAdd _ _ (by simp; omega) W
                    have HBZ := keepHid (HBY2.out.trans (((Below.refl wr.heap.size wr).alloc (Nat.le_refl _) (.cells #[.int .u8 (b.toNat : Int)] 5)).mono HBY2.out.size))
                    go_wp2
                    go_roundw
                    case rel => exact ⟨k3 + 1, by omega, by go_num, by rw [HKS.out], HBZ⟩
                    case measure => simp [intOf]; omega
                  · rw [if_neg htm, List.append_nil] at HKS
                    have hte : ((tt : Int) == (mm : Int)) = false := by simp; omega
                    clear htm
                    go_wp2
                    go_roundw
                    case rel => exact ⟨k3 + 1, by omega, by go_num, by rw [HKS.out], HBY2⟩
                    case measure => simp [intOf]; omega
                · obtain rfl : k3 = nt := by omega
                  rw [List.take_of_length_le (by rw [HXN.out]; exact Nat.le_refl _), List.take_of_length_le (by rw [HNN.out]; exact Nat.le_refl _)]
                  have HPT := keepHid (part_at (HD8.out.below HBY2.out) HTS.out A k3 c X (OwnB.bys (own_below HO8.out HBY2.out) hmx) hnc hcc mm)
                  rw [HSS.out, HK.out mm] at HPT
                  obtain ⟨Z, hZ⟩ : ∃ Z, keepD X ts mm = Z := ⟨_, rfl⟩
                  rw [hZ] at HPT ⊢
                  clear hZ
                  go_wp2_with fail
                  refine HPT.out.mono ?_
                  rintro e w12 ⟨A12, c12, rfl, hy12, hb12⟩
                  have hcv := run_str (P := Try.prog) (c := c12) 29 5 9 Try.underlying29 Try.underlying5 Try.underlying9 hy12
                  have hse : ((strB Z).toList == (strB Z).toList) = true := strB_same rfl
                  have HBN := keepHid (HBY2.out.trans (hb12.mono HBY2.out.size))
                  clear hy12 hb12 HPT
                  go_wp2
                  go_roundw
                  case rel => exact ⟨mm + 1, by omega, by go_num, HBN⟩
                  case measure => simp [intOf]; omega
            · obtain rfl : mm = 3 := by omega
              have HB := keepHid (HD8.out.below HBX.out).b
              go_wp2
              go_ret
              exact ⟨rfl, HB.out⟩

set_option maxRecDepth 100000 in
theorem lifted (os : Os) (started : os.Started) (H : Type) (enc : TypeId × Value → H) (F : Stop.Interp) :
    ReturnsInHanded {} Try.checked os 3 .any ((Rows.OpenSpec.upto Rows.demuxScriptSpec).pre6 enc Try.prog Try.f3 Rows.demuxScriptUptoRow.domain false) (((Rows.OpenSpec.upto Rows.demuxScriptSpec).at F).post enc Try.prog Try.f3 false true false false) := by
  refine returnsInHanded_of_cond_sized (C := Try.checked) (s := Rows.OpenSpec.upto Rows.demuxScriptSpec) (k := Rows.uptoSmall) rfl own started (by kernel_rfl) Try.func3
    (OpenSpec.witness (enc := enc) (C := Try.checked) (s := Rows.OpenSpec.upto Rows.demuxScriptSpec) (k := Rows.uptoSmall) rfl false ⟨#[], #[.int .i8 0, .slice none 0 0], []⟩ 8 (by kernel_rfl) (by kernel_rfl) (by kernel_rfl)
      (x := ([.lit (.int .i8 0), .nil], [], [])) (by kernel_rfl) rfl (by kernel_rfl)) ?_
  intro W base args ds gs before hval0 hW hcnd hsmall0 hsz0 _
  have hsz : (DataW.weightsEach Try.prog (Try.f3.params.toList ++ Rows.demuxScriptSpec.plain.varTypes Try.prog) (ds ++ gs)).all (· ≤ reachBytes) = true := hsz0
  clear hsz0
  have hsmall : Rows.uptoBulkAll (ds ++ gs) ≤ 1048576 := of_decide_eq_true hsmall0
  clear hsmall0
  have hval : ∀ (j : Nat) t v, Try.f3.params[j]? = some t → args[j]? = some v → Value.okWide Try.prog W .any base t v := hval0
  have hW' := hW
  obtain ⟨p, q, hA0, hV, rfl, hfz, hnd⟩ := hW
  have hA : DataW.TrodAll enc Try.prog W 0 (fun _ => true) true Try.f3.params.toList args.toList ds p := hA0
  rw [Try.params3] at hA hval hsz
  obtain ⟨v0, vs0, d0, ds0, p0, q0, hargs, rfl, rfl, h0, r0⟩ := trodAll_cons hA
  obtain ⟨v1, vs1, d1, ds1, p1, q1, rfl, rfl, rfl, h1, r1⟩ := trodAll_cons r0
  obtain ⟨rfl, rfl, rfl⟩ := trodAll_nil r1
  obtain rfl : args = #[v0, v1] := by cases args; simp_all
  obtain ⟨rfl, rfl⟩ := trodVars_none hV
  have k0 := h0
  have lt0 : ∀ x ∈ p0, x.block < W.heap.size := by obtain ⟨m, hm⟩ := k0; exact DataW.trod_lt m _ _ _ hm
  have k1 := h1
  have lt1 : ∀ x ∈ p1, x.block < W.heap.size := by obtain ⟨m, hm⟩ := k1; exact DataW.trod_lt m _ _ _ hm
  obtain ⟨x0, rfl, rfl, rfl, w0⟩ := open_int Try.underlying22 (hval 0 22 v0 rfl rfl) h0
  obtain ⟨a1, n1, c1, y1, rfl, w1, l1, s1, b1⟩ := open_act3 Try.underlying23 Try.underlying32 ⟨rfl, rfl⟩ ⟨rfl, rfl⟩ ⟨rfl, rfl⟩ Try.underlying4 Try.underlying22 Try.underlying29 Try.underlying5 (by kernel_rfl) (by kernel_rfl) (by kernel_rfl) (by kernel_rfl) (by kernel_rfl) (hval 1 23 v1 rfl rfl) h1
  clear hA0 hval0
  simp only [List.append_nil, Rows.uptoBulkAll] at hsmall
  have hbulk : (y1.flatMap Ac.bs).length ≤ 1048576 := by
    rcases b1 with ⟨_, hy⟩ | ⟨D, sp, hd, hD⟩
    · subst hy; simp
    · subst hd
      have := bulk_acts y1 D 0 (fun k r hk => by simpa using hD k r hk)
      simp only [Rows.uptoBulk] at hsmall
      rw [w1.1] at this
      simp only [Nat.zero_add] at this
      have h2 : (y1.flatMap Ac.bs).length ≤ Rows.uptoBulkAll ((List.range n1).map D) := this
      omega
  refine (walk x0 a1 n1 c1 y1 W (wf_i8 w0) w1 l1 s1 hbulk).mono fun e W' ⟨he, bel⟩ => ?_
  subst he
  exact ⟨_, rfl, _, _, _, [], _, [], hW', trodAll_mk1 (shut_bool Try.underlying4 _), (trodAll_cons_mk (Below.trod laidOut (by kernel_rfl) (of_decide_eq_true (by kernel_rfl)) k0 bel lt0) (trodAll_cons_mk (Below.trod laidOut (by kernel_rfl) (of_decide_eq_true (by kernel_rfl)) k1 bel lt1) trodAll_mk0)), rfl, bel.frame _, fun h => by cases h⟩

theorem over : Rows.demuxScriptUptoRow.holds Try.pinned (Rows.OpenSpec.upto Rows.demuxScriptSpec) :=
  OpenClaim.holds_of_cond 3 Try.f3 rfl rfl rfl rfl rfl rfl rfl ⟨rfl, rfl, rfl, rfl, rfl⟩ rfl rfl rfl rfl rfl (by kernel_rfl) Try.func3 (by kernel_rfl)
    (of_decide_eq_true (by kernel_rfl)) (by unfold Func.isWrapper; first | (rw [if_pos (by decide +kernel)]; kernel_rfl) | (rw [if_neg (by decide +kernel)]; exact ⟨rfl, rfl⟩))
    (fun os started H enc _ F => lifted os started H enc F)

theorem proved : Rows.DemuxScriptUptoSaid := over
end Go.Proofs.Ytadfchdcaenglaa.demuxScript
