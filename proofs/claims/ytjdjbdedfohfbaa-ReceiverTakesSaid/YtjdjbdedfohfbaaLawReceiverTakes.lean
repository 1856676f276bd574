/-
  'lifelinelaw11.ReceiverTakes' answers true for every input, and leaves its arguments as they were.
  Conditions: none but what the row itself says of its arguments (how much memory each may take).
-/
import Derived.Test.YtjdjbdedfohfbaaRows
import Derived.Test.YtjdjbdedfohfbaaReceiverLaw
import Derived.LoopTactic
import Derived.Deep.DeepCutAuto
import Derived.Deep.RegionWith
import Derived.Deep.DrawnRows
import Derived.Test.YtjdjbdedfohfbaaFrame
import Derived.Test.YtjdjbdedfohfbaaFrameRows
import Derived.WalkKit
import Derived.ProofKit
import Derived.OpenShut
import Derived.ShutString
import Derived.ChangeOld
import Derived.Below
namespace Go.Proofs.Ytjdjbdedfohfbaa.receiverTakes
open Go.ChangeShapes Go.WideShapes Go.ChangeAt Go.RowKit
open Go.ChangeMaps (open_string shut_string)
set_option linter.unusedVariables false

theorem own : ownKnob Try.prog.godebug = none := by kernel_rfl
theorem laidOut : laidOutB Try.prog = true := by kernel_rfl

theorem take_close (s : Rd) (num : UInt8) (d : List UInt8) (h : num = s.ex) : takeR true s num d = ([6], { s with da := s.da ++ d, ex := s.ex + 1, bl := s.bl - 1 }) := by
  unfold takeR
  rw [if_pos h]
  unfold finR
  rw [if_neg (fun e => by cases e.1)]
theorem u8_succ_ne (n : UInt8) : n ≠ n + 1 := fun h => by
  have e := congrArg UInt8.toNat h
  rw [UInt8.toNat_add] at e
  have := u8lt n
  simp at e
  omega
theorem u8_succ_sub (n : UInt8) : n + 1 - 1 = n := by
  apply UInt8.toNat_inj.1
  rw [UInt8.toNat_sub, UInt8.toNat_add]
  have := u8lt n
  simp
  omega
theorem take_again (s : Rd) (num : UInt8) (d : List UInt8) (h : s.ex = num + 1) (hd : s.da ≠ []) : takeR true s num d = ([6], s) := by
  unfold takeR
  rw [if_neg (by rw [h]; exact u8_succ_ne num), if_neg (by rw [h, u8_succ_sub]; exact fun e => e.elim (fun e => e rfl) hd)]
  unfold finR
  rw [if_neg (fun e => by cases e.1)]
theorem put_eot (crc : Bool) (W : Nat) (s : Rd) (h : s.ov = false) (hb : s.bu = []) : putR crc true W s [4] = ([6], stopR { s with tk := W, bu := [4] } 0) := by
  unfold putR
  rw [if_neg (by rw [h]; simp), hb]
  unfold seeR
  rw [if_pos ⟨rfl, rfl⟩]
  rfl
theorem cap_9_9 : capZ 9 9 = 9 := by decide
theorem cap_9_99 : capZ 9 99 = 9 := by decide
/-- The receiver behind k blocks. -/
structure Tk (num : UInt8) (k : Nat) (s : Rd) : Prop where
  bu : s.bu = []
  ov : s.ov = false
  er : s.er = 0
  ex : s.ex = num + UInt8.ofNat k
  bl : s.bl = 1 - (k : Int)
  da : s.da.length ≤ 1024 * k
theorem tk_step {num : UInt8} {k : Nat} {s : Rd} (h : Tk num k s) (crc : Bool) (nk : UInt8) (hnk : nk = num + UInt8.ofNat k) (d : List UInt8) (hd : d.length = 128 ∨ d.length = 1024) (r : Nat) (hr : r < (enc nk d crc).length) :
    ∃ s1 s2 s3, putR crc true 9 s ((enc nk d crc).take r) = ([], s1) ∧ putR crc true 9 s1 ((enc nk d crc).drop r) = ([6], s2) ∧ putR crc true 9 s2 (enc nk d crc) = ([6], s3) ∧ s1.da = s.da ∧ s1.bl = s.bl ∧ s1.bu.length = r ∧ s2.da = s.da ++ d ∧ s2.bu = [] ∧ s2.bl = s.bl - 1 ∧ s3.da = s.da ++ d ∧ Tk num (k + 1) s3 := by
  obtain ⟨tk, _, e1⟩ := put_part crc true 9 s nk d hd r hr h.ov h.bu
  have e2 := put_whole crc true 9 { s with tk := tk, bu := (enc nk d crc).take r } nk d hd r hr h.ov rfl
  have hex : nk = s.ex := by rw [hnk, h.ex]
  replace e2 := e2.trans (take_close _ nk d hex)
  have hne : s.da ++ d ≠ [] := by
    intro e
    rw [(List.append_eq_nil_iff.1 e).2] at hd
    simp at hd
  have e3 := put_block crc true 9 { s with tk := 9, bu := [], da := s.da ++ d, ex := s.ex + 1, bl := s.bl - 1 } nk d hd h.ov rfl
  replace e3 := e3.trans (take_again _ nk d (by show s.ex + 1 = nk + 1; rw [hex]) hne)
  refine ⟨_, _, _, e1, e2, e3, rfl, rfl, ?_, rfl, rfl, rfl, rfl, rfl, h.ov, h.er, ?_, ?_, ?_⟩
  · show ((enc nk d crc).take r).length = r
    rw [List.length_take]; omega
  · show s.ex + 1 = num + UInt8.ofNat (k + 1)
    rw [h.ex, UInt8.ofNat_add, ← UInt8.add_assoc]
    rfl
  · show s.bl - 1 = 1 - ((k + 1 : Nat) : Int)
    rw [h.bl]; omega
  · show (s.da ++ d).length ≤ _
    rw [List.length_append]
    have := h.da
    omega
set_option maxRecDepth 100000 in
set_option maxHeartbeats 4000000 in
theorem walk (x0 : Int) (a1 : Option Addr) (n1 c1 : Nat) (y1 : List (List UInt8)) (x2 : Bool) (x3 : Int) (w : World) (h0 : 0 ≤ x0 ∧ x0 ≤ 255) (h1 : RowsB w a1 n1 y1) (l1 : n1 ≤ c1) (s1 : c1 ≤ 9223372036854775807) (h3 : 0 ≤ x3 ∧ x3 ≤ 255) :
    Calls Try.prog 4 #[.int .u8 x0, .slice a1 n1 c1, .bool x2, .int .u8 x3] w fun e w' => e = .returned (.bool true) ∧ Below w.heap.size w w' := by
  obtain ⟨num, hnum⟩ : ∃ y : UInt8, x0 = (y.toNat : Int) := ⟨UInt8.ofNat x0.toNat, by rw [UInt8.toNat_ofNat', Nat.mod_eq_of_lt (by omega)]; omega⟩
  subst hnum
  obtain ⟨cut, rfl⟩ : ∃ m : Nat, x3 = (m : Int) := ⟨x3.toNat, by omega⟩
  have HAW := keepHid (awake11_any w)
  have HR := keepHid h1
  have HLEN := keepHid h1.1
  have hn63 : n1 ≤ 9223372036854775807 := by omega
  have HOF : Hid (∀ w', Below w.heap.size w w' → Calls Try.prog 8 #[.agg #[.int .i64 9, .int .i64 9], .int .u8 (num.toNat : Int), .bool x2, .bool true, .int .i64 1] w' fun e w'' => ∃ G, e = .returned (.pointer (some ⟨G, 0, none⟩)) ∧ ∃ O s, RAt w G O x2 true 9 s w'' ∧ Tk num 0 s ∧ s.da = []) := keepHid (fun w' hb => by
    refine (of_at 9 9 num x2 true 1 w w' (by omega) hb).mono ?_
    rintro e w'' ⟨G, O, rfl, k1, _⟩
    rw [cap_9_9, cap_9_99] at k1
    exact ⟨G, rfl, O, _, k1, ⟨rfl, rfl, rfl, (UInt8.toNat_inj.1 (by simp [newR])), rfl, by simp [newR]⟩, rfl⟩)
  clear h0 h1
  go_enter Try.func4, Try.ntmps4
  go_wp2_with fail
  with_reducible refine HAW.out.mono ?_
  rintro e w1 ⟨rfl, hb1⟩
  have HB1 := keepHid hb1
  clear hb1
  go_wp2_with fail
  with_reducible refine (HOF.out _ HB1.out).mono ?_
  rintro e w2 ⟨G, rfl, O2, s2, hs2, hm2, hd2⟩
  have HS2 := keepHid hs2
  have HM2 := keepHid hm2
  have HD2 := keepHid hd2
  clear hs2 hm2 hd2
  go_wp2_with fail
  go_loopw [10, 31] (fun wv kv wr => ∃ (k : Nat) (O : Nat → Prop) (s : Rd), k ≤ n1 ∧ k ≤ 6 ∧ kv = .int .i64 k ∧ wv = .string (strB s.da) ∧ RAt w G O x2 true 9 s wr ∧ Tk num k s) (fun _ kv _ => n1 - (intOf kv).toNat)
  case atStart => exact ⟨0, O2, s2, Nat.zero_le _, Nat.zero_le _, rfl, by rw [HD2.out]; rfl, HS2.out, HM2.out⟩
  case round =>
    obtain ⟨k, O, s, hk, hk6, rfl, rfl, hs, hm⟩ := hrel
    have HS := keepHid hs
    have HM := keepHid hm
    have HLST : Hid (Calls Try.prog 14 #[.pointer (some ⟨G, 0, none⟩), .slice (some ⟨wr.heap.size, 0, none⟩) 1 1] (wr.alloc (.cells #[.int .u8 4] 5)) fun e w7 => ∃ A7 c7, e = .returned (.slice A7 1 c7) ∧
        Calls Try.prog 19 #[.pointer (some ⟨G, 0, none⟩)] w7 fun e w8 => e = .returned (.tuple #[.bool true, .nilIface]) ∧ (convert 31 9 (.slice A7 1 c7)).run Try.prog w8 = .ok (.string ⟨#[6]⟩) w8 ∧
          Calls Try.prog 18 #[.pointer (some ⟨G, 0, none⟩)] w8 fun e w9 => ∃ A9 L9 c9, e = .returned (.slice A9 L9 c9) ∧ (convert 31 9 (.slice A9 L9 c9)).run Try.prog w9 = .ok (.string (strB s.da)) w9 ∧ Below w.heap.size w w9) := keepHid (by
      have hda := hm.da
      have hp := put_at (hs.alloc (.cells #[.int .u8 4] 5)) _ 1 1 _ (hs.lit [4] 1 rfl (by omega) #[.int .u8 4] rfl wr.heap.size rfl) (by omega) (by rw [hm.bl]; omega) (by rw [hm.bu]; simp)
      rw [put_eot x2 9 s hm.ov hm.bu] at hp
      refine hp.mono ?_
      rintro e w7 ⟨A7, c7, O7, rfl, k1, k2, k3, _⟩
      refine ⟨A7, c7, rfl, (done_at k1).mono ?_⟩
      rintro e w8 ⟨rfl, rfl⟩
      refine ⟨rfl, k2.drew.str c7, (data_at k1.drew (by show s.da.length ≤ _; omega)).mono ?_⟩
      rintro e w9 ⟨A9, c9, rfl, j1, j2, _⟩
      exact ⟨A9, _, c9, rfl, j2.str c9, j1.bel⟩)
    have hse := strB_same (xs := s.da) (bs := s.da) rfl
    by_cases hgo : k < n1 ∧ k < 6
    · obtain ⟨hlt, hlt6⟩ := hgo
      obtain ⟨bs, hrow⟩ : ∃ bs, y1[k]? = some bs := ⟨_, List.getElem?_eq_getElem (by rw [HLEN.out]; exact hlt)⟩
      obtain ⟨ad, Ak, ck, rfl, had, hcell, hbk, hck, hby⟩ := HR.out.2 k bs hrow
      have hcell' : wr.cell? (ad.add k) = some (.slice Ak bs.length ck) := (hs.bel.cell (by rw [ad_block]; exact had)).trans hcell
      have HBY := keepHid hby
      obtain ⟨nb, hnb⟩ : ∃ nb, bs.length = nb := ⟨_, rfl⟩
      rw [hnb] at hcell' HBY
      obtain ⟨lg, hlg⟩ : ∃ lg : Bool, ((k : Int).tmod 3 == 2) = lg := ⟨_, rfl⟩
      have hlg2 : ((k : Int) % 3 == 2) = lg := hlg
      obtain ⟨d, hd⟩ : ∃ d, dat bs (longN lg) = d := ⟨_, rfl⟩
      have hdl : d.length = 128 ∨ d.length = 1024 := by rw [← hd]; exact dat_len' bs lg
      obtain ⟨N, hN⟩ : ∃ N, d.length = N := ⟨_, rfl⟩
      have hNN : N = 128 ∨ N = 1024 := by omega
      obtain ⟨nk, hnk⟩ : ∃ nk, num + UInt8.ofNat k = nk := ⟨_, rfl⟩
      have hnki : ((num.toNat : Int) + (k : Int)) % 256 = (nk.toNat : Int) := by
        rw [← hnk, UInt8.toNat_add, UInt8.toNat_ofNat']
        simp
      have hki : IntKind.u8.wrap (k : Int) = (k : Int) := by show (k : Int) % 256 = _; omega
      have hki2 : (k : Int) % 256 = (k : Int) := by omega
      have hnki2 : IntKind.u8.wrap ((num.toNat : Int) + (k : Int)) = (nk.toNat : Int) := hnki
      have hT := szT_pos x2
      obtain ⟨L, hL⟩ : ∃ L, (enc nk d x2).length = L := ⟨_, rfl⟩
      have hLL : L = 3 + N + szT x2 := by rw [← hL, enc_len, hN]
      have hL0 : 0 < L := by omega
      have hLn : L ≤ 2000 := by omega
      obtain ⟨r, hr⟩ : ∃ r, cut % L = r := ⟨_, rfl⟩
      have hrL : r < L := by rw [← hr]; exact Nat.mod_lt _ hL0
      have hmod : (cut : Int).tmod (L : Int) = (r : Int) := by rw [← hr]; rfl
      have hmod2 : (cut : Int) % (L : Int) = (r : Int) := by rw [← hr]; rfl
      have hLz : ((L : Int) == 0) = false := by simp; omega
      obtain ⟨s1, s2', s3, e1, e2, e3, f1, f2, f3, f4, f5, f6, f7, hm3⟩ := tk_step hm x2 nk hnk.symm d hdl r (by rw [hL]; exact hrL)
      have HDT : Hid (Calls Try.prog 16 #[.slice Ak nb ck, .bool lg] wr fun e w3 => ∃ A3 c3, e = .returned (.slice A3 N c3) ∧ RAt w G O x2 true 9 s w3 ∧ Lies w3 O A3 N d) := keepHid (by
        refine (dat_at hs Ak nb ck bs lg HBY.out).mono ?_
        rintro e w3 ⟨A3, c3, rfl, j1, j2, _⟩
        rw [hd, hN] at j2 ⊢
        exact ⟨A3, c3, rfl, j1, j2⟩)
      have i1 : (k : Int) < (n1 : Int) := by omega
      have i6 : ((k : Int) == 6) = false := by simp; omega
      have hdak := hm.da
      have hblk := hm.bl
      have HE := keepHid (And.intro e1 (And.intro e2 e3))
      have HFF := keepHid (And.intro f1 (And.intro f2 (And.intro f3 (And.intro f4 (And.intro f5 (And.intro f6 f7))))))
      have HM3 := keepHid hm3
      have HLL := keepHid hL
      have HDAK := keepHid hdak
      have HBLK := keepHid hblk
      have HNL := keepHid hN
      clear hs hm e1 e2 e3 f1 f2 f3 f4 f5 f6 f7 hm3 hrow hcell hby hbk hck hnb hlg had hd hdl hnk hT hL hLL hr hdak hblk hN HLST HBY hse
      go_wp2_with fail
      with_reducible refine HDT.out.mono ?_
      rintro e w3 ⟨A3, c3, rfl, hs3, hl3⟩
      have HS3 := keepHid hs3
      have HL3 := keepHid hl3
      have HMK : Hid (Calls Try.prog 17 #[.agg #[.int .u8 (nk.toNat : Int), .slice A3 N c3], .bool x2] w3 fun e w4 => ∃ A4 c4, e = .returned (.tuple #[.slice A4 L c4, .bool true]) ∧ RAt w G O x2 true 9 s w4 ∧ Lies w4 O A4 L (enc nk d x2) ∧ Lies w4 O A3 N d ∧ L ≤ c4 ∧ c4 ≤ 9223372036854775807) := keepHid (by
        refine (make_at' hs3 nk A3 N c3 d x2 hNN hl3).mono ?_
        rintro e w4 ⟨A4, c4, rfl, j1, j2, j3, j4, j5⟩
        rw [HLL.out] at j2 j4 ⊢
        exact ⟨A4, c4, rfl, j1, j2, hl3.below j3, j4, j5⟩)
      clear hs3 hl3 hcell'
      go_wp2_with fail
      with_reducible refine HMK.out.mono ?_
      rintro e w4 ⟨A4, c4, rfl, hs4, hl4, hd4, hc4, hc4m⟩
      have HS4 := keepHid hs4
      have HL4 := keepHid hl4
      have HD4 := keepHid hd4
      clear hs4 hl4 hd4
      have hrc : (r : Int) ≤ (c4 : Int) := by omega
      have hrl : (r : Int) ≤ (L : Int) := by omega
      have hcut := HL4.out.cut (k := r) (cap := c4) (by omega) hc4
      rw [if_neg (by omega)] at hcut
      have HCUT := keepHid hcut
      have HPA : Hid (Calls Try.prog 14 #[.pointer (some ⟨G, 0, none⟩), .slice A4 r c4] w4 fun e w5 => ∃ A6 c6, e = .returned (.slice A6 0 c6) ∧
          Calls Try.prog 14 #[.pointer (some ⟨G, 0, none⟩), .slice (A4.map (·.add r)) (L - r) (c4 - r)] w5 fun e w6 => ∃ A7 c7, e = .returned (.slice A7 1 c7) ∧
            Calls Try.prog 14 #[.pointer (some ⟨G, 0, none⟩), .slice A4 L c4] w6 fun e w7 => ∃ A8 c8 O8, e = .returned (.slice A8 1 c8) ∧ RAt w G O8 x2 true 9 s3 w7 ∧ (convert 31 9 (.slice A3 N c3)).run Try.prog w7 = .ok (.string (strB d)) w7 ∧
              (convert 31 9 (.slice A7 1 c7)).run Try.prog w7 = .ok (.string ⟨#[6]⟩) w7 ∧ (convert 31 9 (.slice A8 1 c8)).run Try.prog w7 = .ok (.string ⟨#[6]⟩) w7 ∧
              Calls Try.prog 18 #[.pointer (some ⟨G, 0, none⟩)] w7 fun e w8 => ∃ A9 L9 c9, e = .returned (.slice A9 L9 c9) ∧ RAt w G O8 x2 true 9 s3 w8 ∧ (convert 31 9 (.slice A9 L9 c9)).run Try.prog w8 = .ok (.string (strB (s.da ++ d))) w8) := keepHid (by
        obtain ⟨e1, e2, e3⟩ := HE.out
        obtain ⟨f1, f2, f3, f4, f5, f6, f7⟩ := HFF.out
        have q1 := HDAK.out
        have q2 := HBLK.out
        have q3 : (s.da ++ d).length ≤ 100000 := by rw [List.length_append, HNL.out]; omega
        have p1 := put_at HS4.out A4 r c4 _ (HL4.out.head (k := r) (by omega)) (by omega) (by rw [q2]; omega) (by rw [HM.out.bu]; simp; omega)
        rw [e1] at p1
        refine p1.mono ?_
        rintro e w5 ⟨A6, c6, O6, rfl, j1, _, j3, _⟩
        refine ⟨A6, c6, rfl, ?_⟩
        have p2 := put_at j1 (A4.map (·.add r)) (L - r) (c4 - r) _ (j3 _ _ _ HCUT.out) (by show s1.da.length ≤ _; rw [f1]; omega) (by show _ ≤ s1.bl; rw [f2, q2]; omega) (by show s1.bu.length + (L - r) ≤ _; rw [f3]; omega)
        rw [e2] at p2
        refine p2.mono ?_
        rintro e w6 ⟨A7, c7, O7, rfl, k1, k2, k3, _⟩
        refine ⟨A7, c7, rfl, ?_⟩
        have p3 := put_at k1 A4 L c4 _ (k3 _ _ _ (j3 _ _ _ HL4.out)) (by show s2'.da.length ≤ _; rw [f4]; omega) (by show _ ≤ s2'.bl; rw [f6, q2]; omega) (by show s2'.bu.length + L ≤ _; rw [f5]; simp; omega)
        rw [e3] at p3
        refine p3.mono ?_
        rintro e w7 ⟨A8, c8, O8, rfl, l1, l2, l3, _⟩
        refine ⟨A8, c8, O8, rfl, l1, (l3 _ _ _ (k3 _ _ _ (j3 _ _ _ HD4.out))).str c3, (l3 _ _ _ k2).str c7, l2.str c8, (data_at l1 (by show s3.da.length ≤ _; rw [f7]; omega)).mono ?_⟩
        rintro e w8 ⟨A9, c9, rfl, n1, n2, _⟩
        have n3 := n2.str c9
        rw [show ([6], s3).2.da = s.da ++ d from f7] at n3
        exact ⟨A9, _, c9, rfl, n1, by rw [f7]; exact n3⟩)
      clear hcut HDT HMK
      go_wp2_with fail
      with_reducible refine HPA.out.mono ?_
      rintro e w5 ⟨A6, c6, rfl, hp5⟩
      have HP5 := keepHid hp5
      clear hp5
      go_wp2_with fail
      with_reducible refine HP5.out.mono ?_
      rintro e w6 ⟨A7, c7, rfl, hp6⟩
      have HP6 := keepHid hp6
      clear hp6
      go_wp2_with fail
      with_reducible refine HP6.out.mono ?_
      rintro e w7 ⟨A8, c8, O8, rfl, hs7, cd7, cv7, cv8, hdt⟩
      have HS7 := keepHid hs7
      have HDT7 := keepHid hdt
      have hse := strB_same (xs := s.da ++ d) (bs := s.da ++ d) rfl
      have hadd : ∀ w', (Op.stringOp .add (strB s.da) (strB d)).run Try.prog w' = .ok (.string (strB (s.da ++ d))) w' := fun w' => run_strAdd s.da d (by have := HDAK.out; rw [HNL.out]; omega) w'
      clear hs7 hdt HPA HP5 HP6 hrc hrl
      go_wp2_with fail
      with_reducible refine HDT7.out.mono ?_
      rintro e w8 ⟨A9, L9, c9, rfl, hs8, cv9⟩
      have HS8 := keepHid hs8
      clear hs8
      go_wp2
      go_roundw
      case rel => exact ⟨k + 1, O8, s3, by omega, by omega, by go_num, by rw [HFF.out.2.2.2.2.2.2], HS8.out, HM3.out⟩
      case measure => simp [intOf]; omega
    · clear hs hm
      have hsz : k = n1 ∨ (k < n1 ∧ k = 6) := by omega
      rcases hsz with rfl | ⟨hlt, hk66⟩
      · go_wp2_with fail
        with_reducible refine HLST.out.mono ?_
        rintro e w7 ⟨A7, c7, rfl, hdn⟩
        have HDN := keepHid hdn
        clear hdn
        go_wp2_with fail
        with_reducible refine HDN.out.mono ?_
        rintro e w8 ⟨rfl, cv7, hdt⟩
        have HDT := keepHid hdt
        clear hdt
        go_wp2_with fail
        with_reducible refine HDT.out.mono ?_
        rintro e w9 ⟨A9, L9, c9, rfl, cv9, hb9⟩
        have HB9 := keepHid hb9
        clear hb9
        go_wp2
        go_ret
        exact ⟨rfl, HB9.out⟩
      · obtain ⟨bs, hrow⟩ : ∃ bs, y1[k]? = some bs := ⟨_, List.getElem?_eq_getElem (by rw [HLEN.out]; exact hlt)⟩
        obtain ⟨ad, Ak, ck, rfl, had, hcell, hbk, hck, hby⟩ := HR.out.2 k bs hrow
        have hcell' : wr.cell? (ad.add k) = some (.slice Ak bs.length ck) := (HS.out.bel.cell (by rw [ad_block]; exact had)).trans hcell
        have i1 : (k : Int) < (n1 : Int) := by omega
        have i6 : ((k : Int) == 6) = true := by simp; omega
        clear hcell had hby hbk hck hrow hk66
        go_wp2_with fail
        with_reducible refine HLST.out.mono ?_
        rintro e w7 ⟨A7, c7, rfl, hdn⟩
        have HDN := keepHid hdn
        clear hdn
        go_wp2_with fail
        with_reducible refine HDN.out.mono ?_
        rintro e w8 ⟨rfl, cv7, hdt⟩
        have HDT := keepHid hdt
        clear hdt
        go_wp2_with fail
        with_reducible refine HDT.out.mono ?_
        rintro e w9 ⟨A9, L9, c9, rfl, cv9, hb9⟩
        have HB9 := keepHid hb9
        clear hb9
        go_wp2
        go_ret
        exact ⟨rfl, HB9.out⟩

set_option maxRecDepth 100000 in
theorem lifted (os : Os) (started : os.Started) (H : Type) (enc : TypeId × Value → H) :
    ReturnsInHanded {} Try.checked os 4 .any (Rows.receiverTakesSpec.pre6 enc Try.prog Try.f4 Rows.receiverTakesRow.domain false) (Rows.receiverTakesSpec.post enc Try.prog Try.f4 false true false false) := by
  refine returnsInHanded_of_change_sized (C := Try.checked) own started (by kernel_rfl) Try.func4
    (ChangeSpec.witness6 (enc := enc) (C := Try.checked) false ⟨#[], #[.int .u8 0, .slice none 0 0, .bool false, .int .u8 0], []⟩ 8 (by kernel_rfl) (by kernel_rfl) (by kernel_rfl) (by kernel_rfl)) ?_
  intro W base args ds gs before hval0 hW hcnd hsz0 _
  have hsz : (DataW.weightsEach Try.prog (Try.f4.params.toList ++ Rows.receiverTakesSpec.plain.varTypes Try.prog) (ds ++ gs)).all (· ≤ reachBytes) = true := hsz0
  clear hsz0
  have hval : ∀ (j : Nat) t v, Try.f4.params[j]? = some t → args[j]? = some v → Value.okWide Try.prog W .any base t v := hval0
  have hW' := hW
  obtain ⟨p, q, hA0, hV, rfl, hfz, hnd⟩ := hW
  have hA : DataW.TrodAll enc Try.prog W 0 (fun _ => true) true Try.f4.params.toList args.toList ds p := hA0
  rw [Try.params4] at hA hval hsz
  obtain ⟨v0, vs0, d0, ds0, p0, q0, hargs, rfl, rfl, h0, r0⟩ := trodAll_cons hA
  obtain ⟨v1, vs1, d1, ds1, p1, q1, rfl, rfl, rfl, h1, r1⟩ := trodAll_cons r0
  obtain ⟨v2, vs2, d2, ds2, p2, q2, rfl, rfl, rfl, h2, r2⟩ := trodAll_cons r1
  obtain ⟨v3, vs3, d3, ds3, p3, q3, rfl, rfl, rfl, h3, r3⟩ := trodAll_cons r2
  obtain ⟨rfl, rfl, rfl⟩ := trodAll_nil r3
  obtain rfl : args = #[v0, v1, v2, v3] := by cases args; simp_all
  obtain ⟨rfl, rfl⟩ := trodVars_none hV
  have k0 := h0
  have lt0 : ∀ x ∈ p0, x.block < W.heap.size := by obtain ⟨m, hm⟩ := k0; exact DataW.trod_lt m _ _ _ hm
  have k1 := h1
  have lt1 : ∀ x ∈ p1, x.block < W.heap.size := by obtain ⟨m, hm⟩ := k1; exact DataW.trod_lt m _ _ _ hm
  have k2 := h2
  have lt2 : ∀ x ∈ p2, x.block < W.heap.size := by obtain ⟨m, hm⟩ := k2; exact DataW.trod_lt m _ _ _ hm
  have k3 := h3
  have lt3 : ∀ x ∈ p3, x.block < W.heap.size := by obtain ⟨m, hm⟩ := k3; exact DataW.trod_lt m _ _ _ hm
  obtain ⟨x0, rfl, rfl, rfl, w0⟩ := open_int Try.underlying5 (hval 0 5 v0 rfl rfl) h0
  obtain ⟨a1, n1, c1, y1, rfl, w1, l1, s1, b1⟩ := open_rows Try.underlying45 Try.underlying31 Try.underlying5 (by kernel_rfl) (by kernel_rfl) (hval 1 45 v1 rfl rfl) h1
  obtain ⟨x2, rfl, rfl, rfl⟩ := open_bool Try.underlying4 (hval 2 4 v2 rfl rfl) h2
  obtain ⟨x3, rfl, rfl, rfl, w3⟩ := open_int Try.underlying5 (hval 3 5 v3 rfl rfl) h3
  clear hA0 hval0
  refine (walk x0 a1 n1 c1 y1 x2 x3 W (wf_u8 w0) w1 l1 s1 (wf_u8 w3)).mono fun e W' ⟨he, bel⟩ => ?_
  subst he
  exact ⟨_, rfl, _, _, _, [], _, [], hW', trodAll_mk1 (shut_bool Try.underlying4 _), (trodAll_cons_mk (Below.trod laidOut (by kernel_rfl) (of_decide_eq_true (by kernel_rfl)) k0 bel lt0) (trodAll_cons_mk (Below.trod laidOut (by kernel_rfl) (of_decide_eq_true (by kernel_rfl)) k1 bel lt1) (trodAll_cons_mk (Below.trod laidOut (by kernel_rfl) (of_decide_eq_true (by kernel_rfl)) k2 bel lt2) (trodAll_cons_mk (Below.trod laidOut (by kernel_rfl) (of_decide_eq_true (by kernel_rfl)) k3 bel lt3) trodAll_mk0)))), rfl, bel.frame _, fun h => by cases h⟩

theorem over : Rows.receiverTakesRow.holds Try.pinned (OpenSpec.ofChange Rows.receiverTakesSpec) :=
  OpenClaim.holds_of_wide 4 Try.f4 rfl rfl rfl rfl rfl rfl rfl ⟨rfl, rfl, rfl, rfl, rfl⟩ rfl rfl rfl rfl rfl (by kernel_rfl) Try.func4 (by kernel_rfl)
    (of_decide_eq_true (by kernel_rfl)) (by unfold Func.isWrapper; first | (rw [if_pos (by decide +kernel)]; kernel_rfl) | (rw [if_neg (by decide +kernel)]; exact ⟨rfl, rfl⟩))
    (fun os started H enc _ => lifted os started H enc)

theorem proved : Rows.ReceiverTakesSaid := over
end Go.Proofs.Ytjdjbdedfohfbaa.receiverTakes
