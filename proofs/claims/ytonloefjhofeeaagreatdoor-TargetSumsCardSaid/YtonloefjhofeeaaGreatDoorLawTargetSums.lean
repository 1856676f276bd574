/-
  'lifelinelaw20.TargetSums' answers true for every input of the row, and leaves its arguments as they were.
  Conditions: the package-level variables that the row lists lie as the program's own text lays them (the card ties them to it; what is pinned is a constant of the library's).
-/
import Derived.Test.YtonloefjhofeeaaGreatDoorRows
import Derived.Test.YtonloefjhofeeaaGreatDoorBoardHex
import Derived.Test.YtonloefjhofeeaaGreatDoorFrame
import Derived.Test.YtonloefjhofeeaaGreatDoorFrameBoard
import Derived.Test.YtonloefjhofeeaaGreatDoorCards
import Derived.WalkKit
import Derived.ProofKit
import Derived.OpenShut
import Derived.ShutString
import Derived.ChangeOld
import Derived.Below
import Derived.StillTailTactics
namespace Go.Proofs.YtonloefjhofeeaaGreatDoor.targetSums
open Go.ChangeShapes Go.WideShapes Go.ChangeAt Go.RowKit
open Go.ChangeMaps (open_string shut_string)
set_option linter.unusedVariables false

theorem own : ownKnob Tryz.prog.godebug = none := by kernel_rfl
theorem laidOut : laidOutB Tryz.prog = true := by kernel_rfl


theorem eq_rp (a n q : Nat) (W : World) : (binOp .eql 54 (.agg #[.int .i64 (a : Int), .int .i64 (n : Int), .int .u32 (q : Int)]) (.agg #[.int .i64 (a : Int), .int .i64 (n : Int), .int .u32 (q : Int)])).run Tryz.prog W = .ok (.bool true) W := by
  rw [run_eql_struct, run_equalIn_agg W 9999 54 _ _ (by kernel_rfl) (by kernel_rfl)]
  go_simp
theorem tgtm_wrote {w0 w w' : World} {G GS : Nat} {κ : Nat → Nat} {p : BP Fl} {z1 z2 : Int} {lv iv rv : Value} {s : Bd} {st' : List UInt8} (h : TgtM w0 w G κ p z1 z2 GS lv iv rv s) (ht : Turn (fun i => i = GS) w w') (hs : Sto w' GS st') : TgtM w0 w' G κ p z1 z2 GS lv iv rv { s with st := st' } := by
  have hn : ∀ k, k ≠ 2 → ∀ i, κ i = k → ¬ i = GS := fun k hk i hi e => by rw [e, h.gs] at hi; exact hk hi.symm
  exact ⟨ht.blk h.blk (hn 1 (by omega) G h.g), h.g, h.gs, hs, h.line.turns ht (hn 3 (by omega)), h.reps.turns ht (hn 4 (by omega)), h.lod.turns ht (hn 5 (by omega)), fun i hi => ⟨(h.lt i hi).1, Nat.lt_of_lt_of_le (h.lt i hi).2 ht.size⟩, h.base.turns ht fun i hi => by rw [hi]; exact (h.lt GS (by rw [h.gs]; omega)).1⟩
def stB (st : List UInt8) : Bd := { new20 with st := st }
def stA (st : List UInt8) : Bd := { aw20 with st := st }
theorem stB_ok {st : List UInt8} (h : st.length = 16384) : Ok20 1 1 (stB st) := ⟨rfl, Nat.zero_le _, by show 0 < 4294967296; omega, h, trivial, trivial⟩
theorem stA_ok {st : List UInt8} (h : st.length = 16384) : Ok20 1 1 (stA st) := ⟨rfl, Nat.zero_le _, by show 0 < 4294967296; omega, h, trivial, trivial⟩
theorem lin_few {a n q : Nat} (ha : a < 4294967296) (hn : n < 4294967296) (hq : q < 4294967296) : (lin20 a n q ++ promptL).length ≤ 64 := by
  have l1 := dig_eight ha
  have l2 := dig_eight hn
  have l3 := dig_eight hq
  unfold lin20
  simp only [promptL, List.length_append, List.length_cons, List.length_nil]
  omega
set_option maxRecDepth 100000 in
set_option maxHeartbeats 8000000 in
theorem walk (x0 : Int) (a1 : Option Addr) (n1 c1 : Nat) (b1 : List UInt8) (x2 : Int) (w : World) (hS : Sup w) (h0 : 0 ≤ x0 ∧ x0 ≤ 65535) (h1 : Bys w w.heap.size a1 n1 b1) (l1 : n1 ≤ c1) (s1 : c1 ≤ 140737488351232) (h2 : 0 ≤ x2 ∧ x2 ≤ 65535) :
    Calls Tryz.prog 5 #[.int .u16 x0, .slice a1 n1 c1, .int .u16 x2] w fun e w' => e = .returned (.bool true) ∧ Below w.heap.size w w' := by
  obtain ⟨p, hp, hT, hW⟩ := bp_ex 0 0
  have HP := keepHid hp
  obtain ⟨xa, rfl⟩ : ∃ u : Nat, x0 = (u : Int) := ⟨x0.toNat, by omega⟩
  obtain ⟨xn, rfl⟩ : ∃ u : Nat, x2 = (u : Int) := ⟨x2.toNat, by omega⟩
  obtain ⟨a, ha⟩ : ∃ a, xa % 17000 = a := ⟨_, rfl⟩
  obtain ⟨q, hq⟩ : ∃ a, xa % 16000 = a := ⟨_, rfl⟩
  obtain ⟨n, hn⟩ : ∃ a, xn % 1000 = a := ⟨_, rfl⟩
  have ha2 : a < 17000 := by omega
  have hq2 : q < 16000 := by omega
  have hn2 : n < 1000 := by omega
  have m1 : Int.tmod (xa : Int) 17000 = (a : Int) := by rw [Int.tmod_eq_emod_of_nonneg (by omega)]; omega
  have m2 : Int.tmod (xa : Int) 16000 = (q : Int) := by rw [Int.tmod_eq_emod_of_nonneg (by omega)]; omega
  have m3 : Int.tmod (xn : Int) 1000 = (n : Int) := by rw [Int.tmod_eq_emod_of_nonneg (by omega)]; omega
  have v1 : IntKind.i64.wrap (xa : Int) = (xa : Int) := by rw [IntKind.wrap_i64]; omega
  have v2 : IntKind.i64.wrap (xn : Int) = (xn : Int) := by rw [IntKind.wrap_i64]; omega
  obtain ⟨m, hm⟩ : ∃ m, min n1 300 = m := ⟨_, rfl⟩
  have hm2 : m ≤ n1 ∧ m ≤ 300 := by omega
  have hmm : min (n1 : Int) 300 = (m : Int) := by omega
  have hmc : (m : Int) ≤ (c1 : Int) := by omega
  obtain ⟨st, hst⟩ : ∃ st, splice (zeros 16384) q (b1.take m) = st := ⟨_, rfl⟩
  have hbl : (b1.take m).length = m := by rw [List.length_take, h1.len]; omega
  have hsl : st.length = 16384 := by rw [← hst]; exact put_len (by rw [hbl]; omega) (zeros_len _)
  have HAW := keepHid (awake_any20 w hS)
  have HST : Hid (∀ wx, Below w.heap.size w wx → Stan w wx p 0 0) := keepHid (fun wx hx => ⟨hx, hS, hT, hW⟩)
  have HB1 := keepHid h1
  have HSTT := keepHid hst
  clear hT hW hS hp h1 hst hbl ha hq hn hm h0 h2
  go_enter Tryz.func5, Tryz.ntmps5
  go_wp2_with fail
  with_reducible refine HAW.out.mono ?_
  rintro e w2 ⟨rfl, hb2⟩
  have HOF := keepHid (of_any20 (HST.out w2 hb2))
  clear hb2 HAW
  go_wp2_with fail
  with_reducible refine HOF.out.mono ?_
  rintro e w3 ⟨G, κ3, rfl, hT3, hb3, _⟩
  obtain ⟨GS, lv, iv, rv, hM⟩ := hT3
  have c0' : w3.cell? ⟨G, 0, none⟩ = some (.pointer (some ⟨GS, 0, none⟩)) := hM.blk.cell 0
  have HWR : Hid (∀ wx, Below w3.heap.size w3 wx → Calls Tryz.prog 22 #[.pointer (some ⟨GS, 0, none⟩), .int .i64 (q : Int), .slice a1 m c1] wx fun e w' => e = .returned (.bool true) ∧ TgtM w w' G κ3 p 0 0 GS lv iv rv (stB st)) := keepHid (fun wx hx => by
    have hM2 := hM.below hx
    have hb := hM2.base.bel
    refine (swrite_z GS _ q _ rfl a1 m c1 wx.heap.size (b1.take m) wx hM2.sto (((HB1.out.below hb).more hb.size).head hm2.1) (by omega)).mono ?_
    rintro e w' ⟨rfl, h1, h2⟩
    have h3 := tgtm_wrote hM2 h2 h1
    have e2 : splice (new20).st q (b1.take m) = st := HSTT.out
    rw [e2] at h3
    exact ⟨rfl, h3⟩)
  clear hb3 HOF hM HB1 HSTT
  unfold ptV
  go_upto_region 5 with fail
  go_cut [44] (fun s wx => s = .bool false ∧ TgtM w wx G κ3 p 0 0 GS lv iv rv (stB st))
  case first =>
    go_still_tail 18, (by kernel_rfl)
    change wpList _ _ _ _ _ w3.drew
    have HWW := keepHid (HWR.out _ ((Below.refl _ _).drew))
    generalize w3.drew = w3d at *
    go_wp2_with fail
    with_reducible refine HWW.out.mono ?_
    rintro e w5 ⟨rfl, hp5⟩
    have HP5 := keepHid hp5
    clear hp5
    go_wp2_with fail
    go_meet
    case rel => exact ⟨rfl, HP5.out⟩
  case rest =>
  obtain ⟨rfl, hM⟩ := hcut
  clear HWR c0' m2 hmm
  generalize wc = w4 at *
  obtain ⟨w5, hw5⟩ : ∃ w5, w4.alloc (.cells #[.int .u8 0] 5) = w5 := ⟨_, rfl⟩
  have hb5 : Below w4.heap.size w4 w5 := by rw [← hw5]; exact (Below.refl _ _).alloc (Nat.le_refl _) _
  have hT4 : Tgt w w4 G κ3 p 0 0 (stB st) := ⟨_, _, _, _, hM⟩
  have hf5 : Fre w5 κ3 (some ⟨w4.heap.size, 0, none⟩) 1 [0] := by rw [← hw5]; exact Fre.new hT4 [0] 1 rfl (by omega) _ rfl
  have HPX := keepHid (put_lit HP.out (hT4.below hb5) (stB_ok hsl) (by omega) (by omega) _ 1 1 [0] hf5 (by omega) (Nat.le_refl _) (by omega) (by show 0 + 1 ≤ 1000000000; omega) readyL (stA st) (feed_wake 0 rfl rfl) 5 rfl (by omega))
  clear hM hT4 hb5 hf5
  go_wp2_with fail
  try rw [hw5]
  clear hw5
  with_reducible refine HPX.out.mono ?_
  rintro e w6 ⟨A6, c6, κ6, rfl, hf6, hT6, ht6, hk6, hc61, hc62⟩
  have HT6 := keepHid hT6
  have HAS := keepHid (ask_any20 a n (by omega) (by omega) w6 hT6.base.supw.four)
  clear hf6 hT6 ht6 hk6 hc61 hc62 HPX
  go_wp2_with fail
  with_reducible refine HAS.out.mono ?_
  rintro e w7 ⟨rfl, hb7⟩
  have hT7 := HT6.out.below hb7
  have hlen : (askL a n ++ [13]).length ≤ 100 := by
    have l1 := dig_eight (n := a) (by omega)
    have l2 := dig_eight (n := n) (by omega)
    unfold askL wSum
    simp only [List.length_append, List.length_cons, List.length_nil]
    omega
  obtain ⟨P, hP⟩ : ∃ P, prNum (prL (getL st a n)) = P := ⟨_, rfl⟩
  have hP32 : P < 4294967296 := by rw [← hP]; exact pr_u32 _
  have hfb := feed_ask (p := p) (s := stA st) (a := a) (n := n) (by omega) (by omega) rfl rfl rfl
  rw [show (stA st).st = st from rfl, hP] at hfb
  generalize askL a n ++ [13] = LL at *
  obtain ⟨cp, w8, hcv, hrow⟩ := run_str_bytes (P := Tryz.prog) w7 9 31 5 LL Tryz.underlying9 Tryz.underlying31 Tryz.underlying5 (by omega)
  obtain ⟨N, hN⟩ : ∃ N, LL.length = N := ⟨_, rfl⟩
  have hcap := hrow.cap
  have hby := hrow.bys
  rw [hN] at hcv hcap hby hlen
  have hfr : Fre w8 κ6 (some ⟨w7.heap.size, 0, none⟩) N LL := ⟨hby.more hrow.lt, fun ad e _ => by
    obtain rfl := Option.some.inj e
    show κ6 w7.heap.size = 0
    rcases Nat.eq_zero_or_pos (κ6 w7.heap.size) with q | q
    · exact q
    · have := (hT7.lt w7.heap.size (by omega)).2; omega⟩
  by_cases hfit : a + n ≤ 16384
  · rw [if_pos hfit] at hfb
    obtain ⟨n9, hn9⟩ : ∃ n9, (lin20 a n P ++ promptL).length = n9 := ⟨_, rfl⟩
    have hn9b : n9 ≤ 64 := by rw [← hn9]; exact lin_few (by omega) (by omega) hP32
    have HPX := keepHid (put_lit HP.out (hT7.below hrow.below) (stA_ok hsl) (by omega) (by omega) _ N cp LL hfr (by omega) hcap.1 hcap.2 (by show 0 + N ≤ 1000000000; omega) _ _ hfb n9 hn9 (by omega))
    clear hb7 hT7 hlen hfb hcap hby hN hfr hrow HAS HT6 hn9 hn9b
    go_wp2_with fail
    with_reducible refine HPX.out.mono ?_
    rintro e w9 ⟨A9, c9, κ9, rfl, hf9, hT9, ht9, hk9, hc91, hc92⟩
    have cv9 := hf9.str c9
    have HT9 := keepHid hT9
    obtain ⟨GS2, c0', hsto⟩ : ∃ GS, w9.cell? ⟨G, 0, none⟩ = some (.pointer (some ⟨GS, 0, none⟩)) ∧ Sto w9 GS st := by
      obtain ⟨GS, lv, iv, rv, hM⟩ := hT9
      exact ⟨GS, hM.blk.cell 0, hM.sto⟩
    have HRD := keepHid (sread_z GS2 st a n _ _ rfl rfl w9 hsto hfit)
    have hq : ((strB (lin20 a n P ++ promptL)).toList == (strB (lin20 a n P ++ promptL)).toList) = true := by rw [str_eqB]; exact decide_eq_true rfl
    have ka : ∀ w, (Op.stringOp .add (strB (lin20 a n P)) ⟨#[61, 62, 32]⟩).run Tryz.prog w = .ok (.string (strB (lin20 a n P ++ promptL))) w := fun w => run_strAdd _ promptL (by
      have := lin_few (a := a) (n := n) (q := P) (by omega) (by omega) hP32
      rw [List.length_append] at this
      simp only [promptL, List.length_cons, List.length_nil] at this ⊢
      omega) w
    have HLI := keepHid (fun w h => line_any20 a n P (by omega) (by omega) hP32 w h)
    generalize strB (lin20 a n P ++ promptL) = K2 at *
    generalize strB (lin20 a n P) = K3 at *
    clear hf9 hT9 ht9 hk9 hc91 hc92 HPX hcv hsto
    go_wp2_with fail
    with_reducible refine HRD.out.mono ?_
    rintro e w10 ⟨rfl, hk10, hb10⟩
    have hT10 := HT9.out.below hb10
    have hgl : (getL st a n).length = n := getL_len (by omega)
    have hby := (bys_blk hk10 hgl (by omega)).more hk10.lt
    have HPR := keepHid (print_any _ n n (getL st a n) w10 hby)
    rw [hP] at HPR
    have HT10 := keepHid hT10
    generalize w9.heap.size = g9 at *
    clear hk10 hb10 hT10 hgl hby HRD HT9 hP c0'
    go_wp2_with fail
    with_reducible refine HPR.out.mono ?_
    rintro e w11 ⟨rfl, hb11⟩
    have hT11 := HT10.out.below hb11
    obtain ⟨w12, hw12⟩ : ∃ w12, w11.alloc (.cells #[.int .i64 (a : Int), .int .i64 (n : Int), .int .u32 (P : Int)] 54) = w12 := ⟨_, rfl⟩
    have hb12 : Below w11.heap.size w11 w12 := by rw [← hw12]; exact (Below.refl _ _).alloc (Nat.le_refl _) _
    have hk12 : Blk w12 w11.heap.size 54 #[.int .i64 (a : Int), .int .i64 (n : Int), .int .u32 (P : Int)] := by rw [← hw12]; exact Blk.new w11 _ _
    have hT12 := hT11.below hb12
    obtain ⟨R, hR⟩ : ∃ R, w11.heap.size = R := ⟨_, rfl⟩
    rw [hR] at hk12
    have HT12 := keepHid hT12
    have HK12 := keepHid hk12
    have HBW := keepHid hT12.base.bel
    have t0 : w12.cell? ⟨R, 0, none⟩ = some (.int .i64 (a : Int)) := hk12.cell 0
    have t1 : w12.cell? ⟨R, 1, none⟩ = some (.int .i64 (n : Int)) := hk12.cell 1
    have t2 : w12.cell? ⟨R, 2, none⟩ = some (.int .u32 (P : Int)) := hk12.cell 2
    have CLI : Hid (∀ wx, Below w12.heap.size w12 wx → Calls Tryz.prog 19 #[.agg #[.int .i64 (a : Int), .int .i64 (n : Int), .int .u32 (P : Int)]] wx fun e w' => e = .returned (.string K3) ∧ Below w12.heap.size w12 w' ∧ w'.cell? ⟨R, 0, none⟩ = some (.int .i64 (a : Int)) ∧ w'.cell? ⟨R, 1, none⟩ = some (.int .i64 (n : Int)) ∧ w'.cell? ⟨R, 2, none⟩ = some (.int .u32 (P : Int))) := keepHid (fun wx hx => by
      refine (HLI.out wx (HT12.out.below hx).base.supw.four).mono ?_
      rintro e w' ⟨rfl, hb⟩
      have hb' := hx.trans (hb.mono hx.size)
      have hk := HK12.out.below hb' HK12.out.lt
      exact ⟨rfl, hb', hk.cell 0, hk.cell 1, hk.cell 2⟩)
    have CRP : Hid (∀ wx, Below w12.heap.size w12 wx → Calls Tryz.prog 24 #[.pointer (some ⟨G, 0, none⟩)] wx fun e w' => ∃ g c, e = .returned (.slice (some ⟨g, 0, none⟩) 1 c) ∧ Below w12.heap.size w12 w' ∧ w'.cell? ⟨R, 0, none⟩ = some (.int .i64 (a : Int)) ∧ w'.cell? ⟨R, 1, none⟩ = some (.int .i64 (n : Int)) ∧ w'.cell? ⟨R, 2, none⟩ = some (.int .u32 (P : Int)) ∧ w'.cell? ⟨g, 0, none⟩ = some (.int .i64 (a : Int)) ∧ w'.cell? ⟨g, 1, none⟩ = some (.int .i64 (n : Int)) ∧ w'.cell? ⟨g, 2, none⟩ = some (.int .u32 (P : Int)) ∧ (1 : Int) ≤ (c : Int)) := keepHid (fun wx hx => by
      refine (show Calls Tryz.prog 24 #[ptV G] wx _ from replies_any (HT12.out.below hx) (by show 1 ≤ _; omega)).mono ?_
      rintro e w' ⟨A6, c6, rfl, ho6, hb⟩
      obtain ⟨g6, c6', hv6, _, hg6, hc6⟩ := ho6.form (by show 0 < 1; omega)
      obtain ⟨rfl, rfl⟩ : A6 = some ⟨g6, 0, none⟩ ∧ c6 = c6' := by injection hv6 with q1 q2 q3; exact ⟨q1, q3⟩
      have hown : OwnR w' wx.heap.size (.slice (some ⟨g6, 0, none⟩) 1 c6) 1 [((a : Nat), (n : Nat), P)] := ho6
      have hb' := hx.trans (hb.mono hx.size)
      have hk := HK12.out.below hb' HK12.out.lt
      exact ⟨g6, c6, rfl, hb', hk.cell 0, hk.cell 1, hk.cell 2, hown.cell (j := 0) (s := (a, n, P)) rfl (r := 0) (by omega), hown.cell (j := 0) (s := (a, n, P)) rfl (r := 1) (by omega), hown.cell (j := 0) (s := (a, n, P)) rfl (r := 2) (by omega), by have : 1 ≤ c6 := hc6; omega⟩)
    have ke := fun W => eq_rp a n P W
    have hw12' : w11.alloc (.cells #[.int .i64 (a : Int), .int .i64 (n : Int), .int .u32 (P : Int)] 54) = w12 := hw12
    have HW12 := keepHid hw12'
    clear hb11 hT11 hb12 hk12 hT12 hw12 hw12' HPR HT10 HLI HP m1 m3 v1 v2 hP32 cv9 ha2 hq2 hn2 hfit hm2 hmc hsl
    go_upto_region 13 with fail
    rw [HW12.out]
    try rw [hR]
    clear HW12 hR
    go_region_with (first
      | (go_at_call 19; (with_reducible refine (CLI.out _ (by first | assumption | exact Below.refl _ _ | exact (Below.refl _ _).drew | exact Below.drew (by assumption) | exact below_drewN (Below.refl _ _) _ | exact below_drewN (by assumption) _)).mono ?_); rintro e wa ⟨rfl, hba, r0, r1, r2⟩)
      | (go_at_call 24; (with_reducible refine (CRP.out _ (by first | assumption | exact Below.refl _ _ | exact (Below.refl _ _).drew | exact Below.drew (by assumption) | exact below_drewN (Below.refl _ _) _ | exact below_drewN (by assumption) _)).mono ?_); rintro e wb ⟨gb, cb, rfl, hbb, r0, r1, r2, e0, e1, e2, hcb⟩))
    all_goals
      go_wp2
      go_ret
      refine ⟨rfl, HBW.out.trans (Below.mono ?_ HBW.out.size)⟩
      first | assumption | exact Below.drew (by assumption) | exact below_drewN (by assumption) _
  · rw [if_neg hfit] at hfb
    have HPX := keepHid (put_lit HP.out (hT7.below hrow.below) (stA_ok hsl) (by omega) (by omega) _ N cp LL hfr (by omega) hcap.1 hcap.2 (by show 0 + N ≤ 1000000000; omega) _ _ hfb 6 rfl (by omega))
    clear hb7 hT7 hlen hfb hcap hby hN hfr hrow HAS HT6
    go_wp2_with fail
    with_reducible refine HPX.out.mono ?_
    rintro e w9 ⟨A9, c9, κ9, rfl, hf9, hT9, ht9, hk9, hc91, hc92⟩
    have cv9 := hf9.str c9
    have HT9 := keepHid hT9
    obtain ⟨GS2, c0'⟩ : ∃ GS, w9.cell? ⟨G, 0, none⟩ = some (.pointer (some ⟨GS, 0, none⟩)) := by
      obtain ⟨GS, lv, iv, rv, hM⟩ := hT9
      exact ⟨GS, hM.blk.cell 0⟩
    have HRD := keepHid (fun w => sread_no (.pointer (some ⟨GS2, 0, none⟩)) (a : Int) (n : Int) w (by omega) (by omega) (by omega))
    have hq : ((strB noL).toList == [63, 13, 10, 61, 62, 32]) = true := by rw [strB_toList]; rfl
    generalize strB noL = KN at *
    clear hf9 hT9 ht9 hk9 hc91 hc92 HPX hcv
    go_wp2_with fail
    with_reducible refine (HRD.out _).mono ?_
    rintro e w10 ⟨rfl, rfl⟩
    have HRP := keepHid (replies_any HT9.out (by show 0 ≤ _; omega))
    unfold ptV at HRP
    clear HRD c0'
    go_wp2_with fail
    with_reducible refine HRP.out.mono ?_
    rintro e w11 ⟨A11, c11, rfl, ho11, hb11⟩
    have HB11 := keepHid (HT9.out.below hb11).base.bel
    rw [show (stA st).rp.length = 0 from rfl]
    clear ho11 hb11 HRP
    go_wp2
    go_ret
    exact ⟨rfl, HB11.out⟩

set_option maxRecDepth 100000 in
theorem lifted (os : Os) (started : os.Started) (H : Type) (enc : TypeId × Value → H) :
    ReturnsInHanded {} Tryz.checked os 5 .any (fun w args => (Rows.targetSumsSpec.pre enc Tryz.prog Tryz.f5 [] false w args ∧ laidMetH Tryz.prog laid7 w) ∧ sizedMet enc Tryz.prog Tryz.f5 (OpenSpec.ofChange Rows.targetSumsSpec) false w args) (Rows.targetSumsSpec.post enc Tryz.prog Tryz.f5 false true false false) := by
  refine returnsInHanded_of_change_and (C := Tryz.checked) (X := fun w _ => laidMetH Tryz.prog laid7 w) (fun _ _ _ hh h => h.of_heap hh) own started (by kernel_rfl) Tryz.func5
    (ChangeSpec.witness_shaped (enc := enc) (C := Tryz.checked) (os := os) (X := fun w _ => laidMetH Tryz.prog laid7 w) false (worldF os) #[.int .u16 0, .slice none 0 0, .int .u16 0] 8 (worldF_os os) (World.shaped_of_RefB (by kernel_rfl) (by kernel_rfl)) (by kernel_rfl) (by kernel_rfl) (by kernel_rfl) (door7 os _)) ?_
  intro W base args ds gs before hval0 hW hcnd hsz0 hL _
  have hsz : (DataW.weightsEach Tryz.prog (Tryz.f5.params.toList ++ Rows.targetSumsSpec.plain.varTypes Tryz.prog) (ds ++ gs)).all (· ≤ reachBytes) = true := hsz0
  clear hsz0
  have hval : ∀ (j : Nat) t v, Tryz.f5.params[j]? = some t → args[j]? = some v → Value.okWide Tryz.prog W .any base t v := hval0
  have hW' := hW
  obtain ⟨p, q, hA0, hV, rfl, hfz, hnd⟩ := hW
  have hA : DataW.TrodAll enc Tryz.prog W 0 (fun _ => true) true Tryz.f5.params.toList args.toList ds p := hA0
  rw [Tryz.params5] at hA hval hsz
  obtain ⟨v0, vs0, d0, ds0, p0, q0, hargs, rfl, rfl, h0, r0⟩ := trodAll_cons hA
  obtain ⟨v1, vs1, d1, ds1, p1, q1, rfl, rfl, rfl, h1, r1⟩ := trodAll_cons r0
  obtain ⟨v2, vs2, d2, ds2, p2, q2, rfl, rfl, rfl, h2, r2⟩ := trodAll_cons r1
  obtain ⟨rfl, rfl, rfl⟩ := trodAll_nil r2
  obtain rfl : args = #[v0, v1, v2] := by cases args; simp_all
  obtain ⟨rfl, rfl⟩ := trodVars_none hV
  have k0 := h0
  have lt0 : ∀ x ∈ p0, x.block < W.heap.size := by obtain ⟨m, hm⟩ := k0; exact DataW.trod_lt m _ _ _ hm
  have k1 := h1
  have lt1 : ∀ x ∈ p1, x.block < W.heap.size := by obtain ⟨m, hm⟩ := k1; exact DataW.trod_lt m _ _ _ hm
  have k2 := h2
  have lt2 : ∀ x ∈ p2, x.block < W.heap.size := by obtain ⟨m, hm⟩ := k2; exact DataW.trod_lt m _ _ _ hm
  obtain ⟨x0, rfl, rfl, rfl, w0⟩ := open_int Tryz.underlying38 (hval 0 38 v0 rfl rfl) h0
  obtain ⟨a1, n1, c1, b1, rfl, w1, l1, s1⟩ := open_bys Tryz.underlying31 Tryz.underlying5 (by kernel_rfl) (by kernel_rfl) (hval 1 31 v1 rfl rfl) (fun _ => rfl) h1 (fun el sp hd => sized_slice hsz (j := 1) (t := 31) (e := 5) rfl (by rw [hd]; rfl) Tryz.underlying31)
  obtain ⟨x2, rfl, rfl, rfl, w2⟩ := open_int Tryz.underlying38 (hval 2 38 v2 rfl rfl) h2
  clear hA0 hval0
  refine (walk x0 a1 n1 c1 b1 x2 W (sup7 hL) (wf_u16 w0) w1 l1 s1 (wf_u16 w2)).mono fun e W' ⟨he, bel⟩ => ?_
  subst he
  exact ⟨_, rfl, _, _, _, [], _, [], hW', trodAll_mk1 (shut_bool Tryz.underlying4 _), (trodAll_cons_mk (Below.trod laidOut (by kernel_rfl) (of_decide_eq_true (by kernel_rfl)) k0 bel lt0) (trodAll_cons_mk (Below.trod laidOut (by kernel_rfl) (of_decide_eq_true (by kernel_rfl)) k1 bel lt1) (trodAll_cons_mk (Below.trod laidOut (by kernel_rfl) (of_decide_eq_true (by kernel_rfl)) k2 bel lt2) trodAll_mk0))), rfl, bel.frame _, fun h => by cases h⟩

theorem over : Rows.targetSumsRow.holds Tryz.pinned (OpenSpec.ofChange Rows.targetSumsSpec) :=
  OpenClaim.holds_of_wide 5 Tryz.f5 rfl rfl rfl rfl rfl rfl rfl ⟨rfl, rfl, rfl, rfl, rfl⟩ rfl rfl rfl rfl rfl (by kernel_rfl) Tryz.func5 (by kernel_rfl)
    (of_decide_eq_true (by kernel_rfl)) (by unfold Func.isWrapper; first | (rw [if_pos (by decide +kernel)]; kernel_rfl) | (rw [if_neg (by decide +kernel)]; exact ⟨rfl, rfl⟩))
    (fun os started H enc _ => lifted os started H enc)

/-- The card: what the row lists is tied to the program's own text. -/
theorem proved : Rows.TargetSumsCardSaid :=
  Claim7.holds_tied_plain_at .later [] [.data, .data, .data, .data, .sentinel, .sentinel, .pinned] true Rows.targetSumsCard.stood.harness true
    over (fun _ h => by cases h) (by kernel_rfl) (fun _ h => by cases h) targetSums_row_tie rfl ⟨rfl, rfl⟩ (by kernel_rfl) rfl
    (fun f fn hf hfn => by
      obtain rfl : f = 5 := Option.some.inj ((show Tryz.prog.funcNamed "lifeline/lifelinelaw20.TargetSums" = some 5 by kernel_rfl).symm.trans hf) |>.symm
      obtain rfl : fn = Tryz.f5 := (Option.some.inj (Tryz.func5.symm.trans hfn)).symm
      exact ⟨by kernel_rfl, fun j t ht => by
        rw [Tryz.params5] at ht
        have hm : t ∈ [38, 31, 38] := by simpa using Array.mem_of_getElem? ht
        have hall : ([38, 31, 38].all fun u => !Tryz.prog.wantsStandIn u) = true := by kernel_rfl
        exact (show Tryz.prog.wantsStandIn t = false by simpa using List.all_eq_true.1 hall t hm)⟩)
    (by kernel_rfl)
end Go.Proofs.YtonloefjhofeeaaGreatDoor.targetSums
