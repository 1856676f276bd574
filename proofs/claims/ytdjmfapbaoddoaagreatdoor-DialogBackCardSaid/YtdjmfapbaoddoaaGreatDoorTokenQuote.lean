/-
  A text in quotes: package token's Quote, and the law's own.
-/
import Derived.Test.YtdjmfapbaoddoaaGreatDoorTokenOps
import Derived.Test.YtdjmfapbaoddoaaGreatDoorTokenDig
import Derived.OwnWalk
import Derived.Deep.DeepCutAuto
namespace Go.Proofs.YtdjmfapbaoddoaaGreatDoor
open Go.RowKit
set_option linter.unusedVariables false

def quoV (l : List UInt8) : Value := match quoL l with
  | some q => .tuple #[.string (strB (34 :: (q ++ [34]))), .bool true]
  | none => .tuple #[.string ⟨#[]⟩, .bool false]
def qeOk (c : UInt8) : Bool := match qe c with
  | some d => decide (0 ≤ Lib.indexByte denL c) && decide (Lib.indexByte denL c < 4) && (escL[(Lib.indexByte denL c).toNat]? == some d)
  | none => decide (Lib.indexByte denL c < 0)
theorem qe_ix : ∀ n : Fin 256, qeOk (UInt8.ofNat n.val) = true := by decide +kernel
theorem qe_ix' (c : UInt8) : (∀ d, qe c = some d → ∃ k : Nat, Lib.indexByte denL c = (k : Int) ∧ escL[k]? = some d) ∧ (qe c = none → Lib.indexByte denL c < 0) := by
  have h := qe_ix ⟨c.toNat, u8lt c⟩
  have e : UInt8.ofNat c.toNat = c := by simp
  simp only [e] at h
  unfold qeOk at h
  cases hd : qe c with
  | none => rw [hd] at h; exact ⟨fun d k => by (cases k), fun _ => of_decide_eq_true h⟩
  | some d =>
    rw [hd] at h
    simp only [Bool.and_eq_true, decide_eq_true_eq, beq_iff_eq] at h
    exact ⟨fun d' k => by cases k; exact ⟨(Lib.indexByte denL c).toNat, by omega, h.2⟩, fun k => by (cases k)⟩
/-- So far it is quoted. -/
def Qux (l : List UInt8) (k : Nat) (acc : List UInt8) : Prop := quoL l = (quoL (l.drop k)).map (acc ++ ·)
theorem drop_at' {l : List UInt8} {k : Nat} {c : UInt8} (h : l[k]? = some c) : l.drop k = c :: l.drop (k + 1) := by
  obtain ⟨hk, hc⟩ := List.getElem?_eq_some_iff.1 h
  rw [List.drop_eq_getElem_cons hk, hc]
theorem qux_0 (l : List UInt8) : Qux l 0 [] := by unfold Qux; rw [List.drop_zero]; cases quoL l <;> rfl
theorem qux_go {l acc q : List UInt8} {k : Nat} {c : UInt8} (h : Qux l k acc) (hk : l[k]? = some c) (hq : quo1 c = some q) : Qux l (k + 1) (acc ++ q) := by
  unfold Qux at h ⊢
  rw [h, drop_at' hk, quoL, hq]
  cases quoL (l.drop (k + 1)) <;> simp
theorem qux_no {l acc : List UInt8} {k : Nat} {c : UInt8} (h : Qux l k acc) (hk : l[k]? = some c) (hq : quo1 c = none) : quoL l = none := by
  unfold Qux at h
  rw [h, drop_at' hk, quoL, hq]; rfl
theorem qux_end {l acc : List UInt8} {k : Nat} (h : Qux l k acc) (hk : l.length ≤ k) : quoL l = some acc := by
  unfold Qux at h
  rw [h, List.drop_of_length_le hk, quoL]; simp
theorem run_mkbs2 (v u : Int) (n N : Nat) (hu : u = (n : Int)) (hv : v = (N : Int)) (hn : n ≤ N) (hN : N ≤ 4194304) (W : World) :
    (Instr.makeSlice 55 (.int .i64 u) (.int .i64 v)).run Tryz.prog W = .ok (.slice (some ⟨W.heap.size, 0, none⟩) n N) (W.alloc (.cells (zrow N) 5)) := by
  subst hv hu
  obtain ⟨i, hi⟩ := Option.isSome_iff_exists.1 (show (Tryz.prog.info? 5).isSome = true by kernel_rfl)
  have h0 : (Tryz.prog.info? 5).map (fun i => (i.zero, i.bytes, i.size)) = some (some (.int .u8 0), 1, 1) := by kernel_rfl
  rw [hi] at h0
  simp only [Option.map_some, Option.some.injEq, Prod.mk.injEq] at h0
  obtain ⟨hz, hb, hs⟩ := h0
  have h := run_make (P := Tryz.prog) W 55 5 i (.int .u8 0) Tryz.underlying55 hi hz .i64 .i64 (n : Int) (N : Int) (by omega) (by omega) (by rw [hb]; omega) (by omega)
  rw [hs] at h
  simp only [Int.toNat_natCast] at h
  rw [← made_bytes]
  exact h
theorem own_room2 (w : World) (base g N : Nat) (hg : g = w.heap.size) (hb : base ≤ g) (hN : N ≤ 4194304) :
    OwnB (w.alloc (.cells (zrow N) 5)) base 5 (.slice (some ⟨g, 0, none⟩) 0 N) 0 [] := by
  subst hg
  exact ⟨rfl, .inr ⟨_, N, zrow N, rfl, hb, heap_alloc_new w _, Nat.zero_le _, by unfold maxLen; omega, by rw [zrow_size, Nat.mul_one], by simp⟩⟩
/-- What holds in the loop. -/
structure QuR (w : World) (l : List UInt8) (k : Nat) (v : Value) (n : Nat) (acc : List UInt8) (wr : World) : Prop where
  own : OwnB wr w.heap.size 5 v n (34 :: acc)
  bel : Below w.heap.size w wr
  qux : Qux l k acc
  len : n ≤ 2 * k + 1
theorem qur_step {w wq wa w' : World} {l acc q : List UInt8} {k n m c c' : Nat} {A A' : Option Addr} {ch : UInt8} (h : QuR w l k (.slice A n c) n acc wq) (hb : Below wq.heap.size wq wa) (ho : OwnB w' w.heap.size 5 (.slice A' (n + m) c') (n + m) (34 :: acc ++ q))
    (ht : Turn (fun i => (Value.slice A n c).ownBlock = some i) wa w') (hk : l[k]? = some ch) (hq : quo1 ch = some q) (hm : m ≤ 2) : QuR w l (k + 1) (.slice A' (n + m) c') (n + m) (acc ++ q) w' := by
  have hbase := own_base h.own
  refine ⟨ho, (h.bel.trans (hb.mono h.bel.size)).trans (ht.below (fun i hi => hbase _ hi) (Nat.le_trans h.bel.size hb.size)), qux_go h.qux hk hq, by have := h.len; omega⟩

set_option maxRecDepth 100000 in
set_option maxHeartbeats 8000000 in
theorem quote_any (l : List UInt8) (hl : l.length ≤ 1048576) (w : World) :
    Calls Tryz.prog 26 #[.string (strB l)] w fun e w' => e = .returned (quoV l) ∧ Below w.heap.size w w' := by
  have hlen : (strB l).size = l.length := strB_size l
  obtain ⟨N, hN⟩ : ∃ N, l.length = N := ⟨_, rfl⟩
  have HN := keepHid hN
  rw [hN] at hlen hl
  have hmk := run_mkbs2 ((N : Int) + 2) 0 0 (N + 2) rfl (by omega) (by omega) (by omega)
  have HNO : Hid (quoL l = none → quoV l = .tuple #[.string ⟨#[]⟩, .bool false]) := keepHid fun h => by unfold quoV; rw [h]
  have HYES : Hid (∀ q, quoL l = some q → quoV l = .tuple #[.string (strB (34 :: (q ++ [34]))), .bool true]) := keepHid fun q h => by unfold quoV; rw [h]
  obtain ⟨w1, hw1⟩ : ∃ w1, w.alloc (.cells (zrow (N + 2)) 5) = w1 := ⟨_, rfl⟩
  have HO1 : Hid (OwnB w1 w.heap.size 5 (.slice (some ⟨w.heap.size, 0, none⟩) 0 (N + 2)) 0 []) := keepHid (by rw [← hw1]; exact own_room2 w _ _ _ rfl (Nat.le_refl _) (by omega))
  have HBW1 : Hid (Below w.heap.size w w1) := keepHid (by rw [← hw1]; exact (Below.refl _ _).alloc (Nat.le_refl _) _)
  have HW1 := keepHid hw1
  have HO2 := keepHid (HO1.out.alloc (.cells #[.int .u8 34] 5))
  have HB2 : Hid (Bys (w1.alloc (.cells #[.int .u8 34] 5)) (w1.heap.size + 1) (some ⟨w1.heap.size, 0, none⟩) 1 [34]) := keepHid (bys_new w1 5 [34] 1 rfl (by decide) _ rfl _ rfl)
  have HBD2 : Hid (Below w1.heap.size w1 (w1.alloc (.cells #[.int .u8 34] 5))) := keepHid ((Below.refl _ _).alloc (Nat.le_refl _) _)
  have hs1 := HBW1.out.size
  clear hN
  go_enter Tryz.func26, Tryz.ntmps26
  go_wp2_with (at_builtin; refine wpList_append_bytes _ rfl _ _ 55 rfl w.heap.size 5 byteT (.slice (some ⟨w.heap.size, 0, none⟩) 0 (N + 2)) 0 [] (by rfl) HO2.out _ _ 1 1 [34] (by rfl) HB2.out 1 rfl (by omega) (by simp; omega) ?_)
  intro A0 c0 w3 q1 q2 q3 q4 q5
  have HQ0 : Hid (QuR w l 0 (.slice A0 1 c0) 1 [] w3) := keepHid ⟨q1, (HBW1.out.trans (HBD2.out.mono HBW1.out.size)).trans (q2.below (fun i hi => own_base HO1.out _ hi) (Nat.le_trans HBW1.out.size HBD2.out.size)), qux_0 l, by omega⟩
  clear q1 q2 q3 q4 q5 HO1 HO2 HB2 HBD2 HBW1 hs1 hmk hw1 HW1
  go_wp2_with fail
  go_loopw [4, 17] (fun qv iv wr => ∃ (k n : Nat) (A : Option Addr) (c : Nat) (acc : List UInt8), qv = .slice A n c ∧ iv = .int .i64 (k : Int) ∧ k ≤ N ∧ Hid (QuR w l k (.slice A n c) n acc wr)) (fun _ iv _ => N - (intOf iv).toNat)
  case atStart => exact ⟨0, 1, A0, c0, [], rfl, rfl, Nat.zero_le _, HQ0⟩
  case round =>
    obtain ⟨k, n, A, c, acc, rfl, rfl, hk, HX⟩ := hrel
    generalize wr = wq at *
    have hnk := HX.out.len
    by_cases hkN : k < N
    · obtain ⟨ch, hch⟩ : ∃ ch, l[k]? = some ch := ⟨_, List.getElem?_eq_getElem (by rw [HN.out]; exact hkN)⟩
      have hidx := fun w => run_idx hch (k : Int) rfl w
      have HCH := keepHid hch
      have HIX : Hid (∀ w, Calls Tryz.prog 35 #[.string ⟨#[34, 92, 13, 10]⟩, .int .u8 (ch.toNat : Int)] w fun e w' => e = .returned (.int .i64 (Lib.indexByte denL ch)) ∧ w' = w) := keepHid (ixb_any denL ch)
      have HPR := keepHid (printable_any ch)
      obtain ⟨cn, hcn⟩ : ∃ cn : Int, (ch.toNat : Int) = cn := ⟨_, rfl⟩
      rw [hcn] at hidx HIX HPR
      have HCN := keepHid hcn
      have hkI : (k : Int) < (N : Int) := by omega
      have hwb := HX.out.bel.size
      obtain ⟨y1, y2⟩ := qe_ix' ch
      cases hqe : qe ch with
      | some d =>
        obtain ⟨ix, hix, hesc⟩ := y1 d hqe
        rw [hix] at HIX
        have hq : quo1 ch = some [92, d] := by unfold quo1; rw [hqe]
        have hei : ∀ w, (Instr.index 9 (.string ⟨#[34, 92, 114, 110]⟩) (.int .i64 (ix : Int))).run Tryz.prog w = .ok (.int .u8 (d.toNat : Int)) w := fun w => run_idx (l := escL) hesc _ rfl w
        have hixp : (0 : Int) ≤ (ix : Int) := by omega
        have HB1 : Hid (Bys (wq.alloc (.cells #[.int .u8 92, .int .u8 (d.toNat : Int)] 5)) (wq.heap.size + 1) (some ⟨wq.heap.size, 0, none⟩) 2 [92, d]) := keepHid (bys_new wq 5 [92, d] 2 rfl (by decide) _ rfl _ rfl)
        have HO := keepHid (HX.out.own.alloc (.cells #[.int .u8 92, .int .u8 (d.toNat : Int)] 5))
        have HBD : Hid (Below wq.heap.size wq (wq.alloc (.cells #[.int .u8 92, .int .u8 (d.toNat : Int)] 5))) := keepHid ((Below.refl _ _).alloc (Nat.le_refl _) _)
        have HQ1 := keepHid hq
        generalize (d.toNat : Int) = dn at *
        generalize (ix : Int) = ixI at *
        clear y1 y2 hqe hix hesc hq hch hcn HNO HYES
        go_wp2_with (first | ((with_reducible refine (HIX.out _).mono ?_); rintro e w' ⟨rfl, rfl⟩) | (at_builtin; refine wpList_append_bytes _ rfl _ _ 55 rfl w.heap.size 5 byteT (.slice A n c) n (34 :: acc) (by rfl) HO.out _ _ 2 2 [92, d] (by rfl) HB1.out (n + 2) rfl (by omega) (by simp; omega) ?_))
        intro A2 c2 w4 q1 q2 q3 q4 q5
        have HX2 := keepHid (qur_step HX.out HBD.out q1 q2 HCH.out HQ1.out (Nat.le_refl _))
        clear q1 q2 q3 q4 q5 HX HBD HO HB1 HIX
        go_wp2
        go_roundw
        case rel => exact ⟨k + 1, n + 2, A2, c2, _, rfl, by go_num, by omega, HX2⟩
        case measure => simp [intOf]; omega
      | none =>
        have hneg := y2 hqe
        cases hp : prn ch with
        | true =>
          have hq : quo1 ch = some [ch] := by unfold quo1; rw [hqe]; simp [hp]
          rw [hp] at HPR
          have HB1 : Hid (Bys (wq.alloc (.cells #[.int .u8 cn] 5)) (wq.heap.size + 1) (some ⟨wq.heap.size, 0, none⟩) 1 [ch]) := keepHid (by rw [← hcn]; exact bys_new wq 5 [ch] 1 rfl (by decide) _ rfl _ rfl)
          have HO := keepHid (HX.out.own.alloc (.cells #[.int .u8 cn] 5))
          have HBD : Hid (Below wq.heap.size wq (wq.alloc (.cells #[.int .u8 cn] 5))) := keepHid ((Below.refl _ _).alloc (Nat.le_refl _) _)
          have HQ1 := keepHid hq
          generalize Lib.indexByte denL ch = z at *
          clear y1 y2 hqe hq hch hcn HNO HYES hp
          go_wp2_with (first | ((with_reducible refine (HIX.out _).mono ?_); rintro e w' ⟨rfl, rfl⟩) | ((with_reducible refine (HPR.out _).mono ?_); rintro e w' ⟨rfl, rfl⟩) | (at_builtin; refine wpList_append_bytes _ rfl _ _ 55 rfl w.heap.size 5 byteT (.slice A n c) n (34 :: acc) (by rfl) HO.out _ _ 1 1 [ch] (by rfl) HB1.out (n + 1) rfl (by omega) (by simp; omega) ?_))
          intro A2 c2 w4 q1 q2 q3 q4 q5
          have HX2 := keepHid (qur_step HX.out HBD.out q1 q2 HCH.out HQ1.out (by omega))
          clear q1 q2 q3 q4 q5 HX HBD HO HB1 HIX HPR
          go_wp2
          go_roundw
          case rel => exact ⟨k + 1, n + 1, A2, c2, _, rfl, by go_num, by omega, HX2⟩
          case measure => simp [intOf]; omega
        | false =>
          have hq : quo1 ch = none := by unfold quo1; rw [hqe]; simp [hp]
          have HV := keepHid (HNO.out (qux_no HX.out.qux hch hq))
          rw [hp] at HPR
          generalize Lib.indexByte denL ch = z at *
          clear y1 y2 hqe hq hch hcn HNO HYES hp
          go_wp2_with (first | ((with_reducible refine (HIX.out _).mono ?_); rintro e w' ⟨rfl, rfl⟩) | ((with_reducible refine (HPR.out _).mono ?_); rintro e w' ⟨rfl, rfl⟩))
          go_ret2
          exact ⟨by rw [HV.out]; rfl, HX.out.bel⟩
    · obtain rfl : k = N := by omega
      have HV := keepHid (HYES.out acc (qux_end HX.out.qux (by rw [HN.out]; exact Nat.le_refl _)))
      have HB1 : Hid (Bys (wq.alloc (.cells #[.int .u8 34] 5)) (wq.heap.size + 1) (some ⟨wq.heap.size, 0, none⟩) 1 [34]) := keepHid (bys_new wq 5 [34] 1 rfl (by decide) _ rfl _ rfl)
      have HO := keepHid (HX.out.own.alloc (.cells #[.int .u8 34] 5))
      have HBD : Hid (Below wq.heap.size wq (wq.alloc (.cells #[.int .u8 34] 5))) := keepHid ((Below.refl _ _).alloc (Nat.le_refl _) _)
      have hwb := HX.out.bel.size
      clear HNO HYES
      go_wp2_with (at_builtin; refine wpList_append_bytes _ rfl _ _ 55 rfl w.heap.size 5 byteT (.slice A n c) n (34 :: acc) (by rfl) HO.out _ _ 1 1 [34] (by rfl) HB1.out (n + 1) rfl (by omega) (by simp; omega) ?_)
      intro A2 c2 w4 q1 q2 q3 q4 q5
      have hstr := run_str (P := Tryz.prog) (c := c2) 55 5 9 Tryz.underlying55 Tryz.underlying5 Tryz.underlying9 (q1.bys (by omega))
      have HB4 := keepHid ((HX.out.bel.trans (HBD.out.mono HX.out.bel.size)).trans (q2.below (fun i hi => own_base HX.out.own _ hi) (Nat.le_trans HX.out.bel.size HBD.out.size)))
      generalize strB (34 :: (acc ++ [34])) = S at *
      clear q1 q2 q3 q4 q5 HX HBD HO HB1
      go_wp2
      go_ret2
      exact ⟨by rw [HV.out]; rfl, HB4.out⟩
end Go.Proofs.YtdjmfapbaoddoaaGreatDoor
