/-
  A String: what its reader answers.
-/
import Derived.Test.YtkhhcclomjfliaaGreatDoorTokenNumber
import Derived.Test.YtkhhcclomjfliaaGreatDoorTokenPlay
import Derived.OwnWalk
namespace Go.Proofs.YtkhhcclomjfliaaGreatDoor
open Go.RowKit
set_option linter.unusedVariables false

/-- So far the text has made this of it. -/
def Stx (l : List UInt8) (k : Nat) (acc : List UInt8) : Prop := strT (l.drop 1) = (strT (l.drop k)).map fun x => (acc ++ x.1, x.2 + (k - 1))
theorem stx_0 (l : List UInt8) : Stx l 1 [] := by
  unfold Stx
  cases strT (l.drop 1) <;> simp
theorem drop_at {l : List UInt8} {k : Nat} {c : UInt8} (h : l[k]? = some c) : l.drop k = c :: l.drop (k + 1) := by
  obtain ⟨hk, hc⟩ := List.getElem?_eq_some_iff.1 h
  rw [List.drop_eq_getElem_cons hk, hc]
theorem strT_bad {c : UInt8} {r : List UInt8} (h1 : c ≠ 34) (h2 : c ≠ 92) (h : prn c = false) : strT (c :: r) = none := by
  cases r with
  | nil => simp [strT, h1]
  | cons e r => rw [strT, if_neg h1, if_neg h2, if_neg (by rw [h]; decide)]
theorem stx_end {l acc : List UInt8} {k : Nat} (h : Stx l k acc) (hk : l.length ≤ k) : strT (l.drop 1) = none := by
  unfold Stx at h; rw [h, List.drop_of_length_le hk]; rfl
theorem stx_quote {l acc : List UInt8} {k : Nat} (h : Stx l k acc) (hk : l[k]? = some 34) (h1 : 1 ≤ k) : strT (l.drop 1) = some (acc, k) := by
  unfold Stx at h
  rw [h, drop_at hk, strT_quote]
  simp; omega
theorem stx_bad {l acc : List UInt8} {k : Nat} {c : UInt8} (h : Stx l k acc) (hk : l[k]? = some c) (h1 : c ≠ 34) (h2 : c ≠ 92) (hp : prn c = false) : strT (l.drop 1) = none := by
  unfold Stx at h
  rw [h, drop_at hk, strT_bad h1 h2 hp]; rfl
theorem stx_prn {l acc : List UInt8} {k : Nat} {c : UInt8} (h : Stx l k acc) (hk : l[k]? = some c) (h0 : 1 ≤ k) (h1 : c ≠ 34) (h2 : c ≠ 92) (hp : prn c = true) : Stx l (k + 1) (acc ++ [c]) := by
  unfold Stx at h ⊢
  rw [h, drop_at hk, strT_prn h1 h2 hp]
  cases strT (l.drop (k + 1)) with
  | none => rfl
  | some x => simp; omega
theorem stx_esc {l acc : List UInt8} {k : Nat} (h : Stx l k acc) (hk : l[k]? = some 92) (h0 : 1 ≤ k) :
    (escV (l.drop (k + 1)) = .tuple #[.int .u8 0, .bool false] ∧ strT (l.drop 1) = none) ∨
    ∃ d : UInt8, escV (l.drop (k + 1)) = .tuple #[.int .u8 (d.toNat : Int), .bool true] ∧ k + 1 < l.length ∧ Stx l (k + 2) (acc ++ [d]) := by
  unfold Stx at h ⊢
  rw [h, drop_at hk]
  cases hr : l.drop (k + 1) with
  | nil => exact .inl ⟨rfl, by simp [strT]⟩
  | cons e r =>
    have hlt : k + 1 < l.length := by
      rcases Nat.lt_or_ge (k + 1) l.length with hl | hl
      · exact hl
      · rw [List.drop_of_length_le hl] at hr; cases hr
    have hd2 : l.drop (k + 2) = r := by
      have : l.drop (k + 1 + 1) = (l.drop (k + 1)).drop 1 := by rw [List.drop_drop]
      rw [show k + 2 = k + 1 + 1 by omega, this, hr]; rfl
    cases hd : escD e with
    | none => exact .inl ⟨by simp only [escV, hd], by rw [strT, if_neg (by decide), if_pos rfl, hd]; rfl⟩
    | some d =>
      refine .inr ⟨d, by simp only [escV, hd], hlt, ?_⟩
      rw [hd2, strT, if_neg (by decide), if_pos rfl, hd]
      simp only
      cases strT r with
      | none => rfl
      | some x => simp; omega
/-- What holds in the loop. -/
structure TxR (w : World) (l : List UInt8) (k : Nat) (bv : Value) (n : Nat) (acc : List UInt8) (wr : World) : Prop where
  own : OwnB wr (w.heap.size + 1) 5 bv n acc
  res : Blk wr w.heap.size 52 #[.int .i64 0, .string ⟨#[]⟩, .int .i64 0, .int .i64 0]
  bel : Below w.heap.size w wr
  stx : Stx l k acc
  one : 1 ≤ k
  len : n < k
theorem txr_step {w wq wa w' : World} {l acc : List UInt8} {k k' n c c' : Nat} {A A' : Option Addr} {d : UInt8} (h : TxR w l k (.slice A n c) n acc wq) (hb : Below wq.heap.size wq wa) (ho : OwnB w' (w.heap.size + 1) 5 (.slice A' (n + 1) c') (n + 1) (acc ++ [d]))
    (ht : Turn (fun i => (Value.slice A n c).ownBlock = some i) wa w') (hst : Stx l k' (acc ++ [d])) (hk : k < k') : TxR w l k' (.slice A' (n + 1) c') (n + 1) (acc ++ [d]) w' := by
  have hg := h.res.lt
  have hbase := own_base h.own
  refine ⟨ho, ht.blk (h.res.below hb hg) (fun e => ?_), (h.bel.trans (hb.mono h.bel.size)).trans (ht.below (fun i hi => ?_) (Nat.le_trans h.bel.size hb.size)), hst, by have := h.one; omega, by have := h.len; omega⟩
  · have := hbase _ e; omega
  · have := hbase _ hi; omega
set_option maxRecDepth 100000 in
set_option maxHeartbeats 4000000 in
theorem text_any (l : List UInt8) (hl : l.length ≤ 4096) (hne : l ≠ []) (w : World) :
    Calls Tryz.prog 51 #[.string (strB l)] w fun e w' => e = .returned (resV (textT l)) ∧ Below w.heap.size w w' := by
  obtain ⟨w1, hw1⟩ : ∃ w1, w.alloc (.cells #[.int .i64 0, .string ⟨#[]⟩, .int .i64 0, .int .i64 0] 52) = w1 := ⟨_, rfl⟩
  have hsz1 : w1.heap.size = w.heap.size + 1 := by rw [← hw1]; simp
  have HR := keepHid (tok_new w w1 hw1)
  have hlen : (strB l).size = l.length := strB_size l
  have h1 : 1 ≤ l.length := by
    cases l with
    | nil => exact absurd rfl hne
    | cons a r => simp
  obtain ⟨N, hN⟩ : ∃ N, l.length = N := ⟨_, rfl⟩
  have HN := keepHid hN
  rw [hN] at hlen hl h1
  have HS0 : Hid (TxR w l 1 (.slice none 0 0) 0 [] w1) := keepHid ⟨OwnB.nil _ _ _, HR.out.1, HR.out.2, stx_0 l, Nat.le_refl _, by omega⟩
  have HNO : Hid (strT (l.drop 1) = none → resV (textT l) = .tuple #[.agg (tkA 0 ⟨#[]⟩ 0 0), .int .i64 0]) := keepHid fun h => by unfold textT; rw [h]; rfl
  have HYES : Hid (∀ acc k, strT (l.drop 1) = some (acc, k) → resV (textT l) = .tuple #[.agg (tkA 3 (strB acc) 0 0), .int .i64 ((k : Int) + 1)]) := keepHid fun acc k h => by unfold textT; rw [h]; rfl
  clear hN hne
  go_enter Tryz.func51, Tryz.ntmps51
  go_wp2
  clear hw1
  go_loopw [4, 5] (fun bv iv wr => ∃ (k n : Nat) (A : Option Addr) (c : Nat) (acc : List UInt8), k ≤ N ∧ bv = .slice A n c ∧ iv = .int .i64 (k : Int) ∧ Hid (TxR w l k (.slice A n c) n acc wr)) (fun _ iv _ => N - (intOf iv).toNat)
  case atStart => exact ⟨1, 0, none, 0, [], h1, rfl, rfl, HS0⟩
  case round =>
    obtain ⟨k, n, A, c, acc, hk, rfl, rfl, HX⟩ := hrel
    generalize wr = wq at *
    obtain ⟨c0, c1, c2, c3, cf⟩ := blk4 HX.out.res
    have hk1 := HX.out.one
    have hnk := HX.out.len
    by_cases hkN : k < N
    · obtain ⟨ch, hch⟩ : ∃ ch, l[k]? = some ch := ⟨_, List.getElem?_eq_getElem (by rw [HN.out]; exact hkN)⟩
      have hidx := fun w => run_idx hch (k : Int) rfl w
      have HCH := keepHid hch
      obtain ⟨cn, hcn⟩ : ∃ cn, ch.toNat = cn := ⟨_, rfl⟩
      have hc256 : cn < 256 := by rw [← hcn]; exact ch.toNat_lt
      have HEQ : Hid (∀ d : UInt8, (ch = d) ↔ cn = d.toNat) := keepHid fun d => by rw [← hcn]; exact ⟨fun h => by rw [h], fun h => UInt8.toNat_inj.1 h⟩
      have HPR := keepHid (printable_any ch)
      rw [hcn] at hidx HPR
      clear hch
      by_cases h34 : cn = 34
      · have hstr := run_str (P := Tryz.prog) (c := c) 62 5 9 Tryz.underlying62 Tryz.underlying5 Tryz.underlying9 (HX.out.own.bys (by omega))
        have HV := keepHid (HYES.out acc k (stx_quote HX.out.stx (by rw [HCH.out, (HEQ.out 34).2 h34]) HX.out.one))
        subst h34
        clear HPR HYES HNO HEQ
        generalize strB acc = S at *
        go_wp2
        refine bodyPost_ret (tok_res rfl _ _ w.heap.size 3 S 0 0 (put4 HX.out.res) rfl _ rfl) rfl ?_
        exact ⟨by rw [HV.out]; try rfl, set4 HX.out.bel (Nat.le_refl _) _ _ _ _⟩
      · by_cases h92 : cn = 92
        · have hfrom : ∀ w, (Instr.slice 9 (.string (strB l)) (some (.int .i64 ((k : Int) + 1))) none none).run Tryz.prog w = .ok (.string (strB (l.drop (k + 1)))) w := fun w => run_from (k := k + 1) (by rw [HN.out]; omega) _ (by omega) w
          have HESC := keepHid (escaped_any (l.drop (k + 1)))
          have hcase := stx_esc HX.out.stx (by rw [HCH.out, (HEQ.out 92).2 h92]) HX.out.one
          subst h92
          rcases hcase with ⟨hv, hno⟩ | ⟨d, hv, hlt, hst⟩
          · rw [hv] at HESC
            have HV := keepHid (HNO.out hno)
            clear HPR HYES HNO HEQ hv hno h34
            go_wp2_with (refine (HESC.out _).mono ?_; rintro e w' ⟨rfl, rfl⟩)
            refine bodyPost_ret (tok_res rfl _ _ w.heap.size 0 ⟨#[]⟩ 0 0 (put4 HX.out.res) rfl _ rfl) rfl ?_
            exact ⟨by rw [HV.out]; try rfl, set4 HX.out.bel (Nat.le_refl _) _ _ _ _⟩
          · rw [hv] at HESC
            have HST := keepHid hst
            rw [HN.out] at hlt
            clear HPR HYES HNO HEQ hv hst h34
            have hbn : w.heap.size + 1 ≤ wq.heap.size := HX.out.res.lt
            have hbd : Below wq.heap.size wq (wq.alloc (.cells #[.int .u8 (d.toNat : Int)] 5)) := (Below.refl _ _).alloc (Nat.le_refl _) _
            have HB1 : Hid (Bys (wq.alloc (.cells #[.int .u8 (d.toNat : Int)] 5)) (wq.heap.size + 1) (some ⟨wq.heap.size, 0, none⟩) 1 [d]) := keepHid (bys_new wq 5 [d] 1 rfl (by decide) _ rfl _ rfl)
            have HO1 := keepHid (HX.out.own.alloc (.cells #[.int .u8 (d.toNat : Int)] 5))
            have HBD := keepHid hbd
            clear hbd
            go_wp2_with (first | (refine (HESC.out _).mono ?_; rintro e w' ⟨rfl, rfl⟩) | (at_builtin; refine wpList_append_bytes _ rfl _ _ 62 rfl (w.heap.size + 1) 5 byteT (.slice A n c) n acc (by rfl) HO1.out _ _ 1 1 [d] (by rfl) HB1.out (n + 1) rfl (by omega) (by simp; omega) ?_))
            intro A2 c2' w4 q1 q2 q3 q4 q5
            have HX2 := keepHid (txr_step HX.out HBD.out q1 q2 HST.out (by omega))
            clear q1 q2 q3 q4 q5 HX HBD HO1 HB1 HST HESC
            go_wp2
            go_roundw
            case rel => exact ⟨k + 2, n + 1, A2, c2', _, by omega, rfl, by go_num, HX2⟩
            case measure => simp [intOf]; omega
        · have hn1 : ch ≠ 34 := fun e => h34 ((HEQ.out 34).1 e)
          have hn2 : ch ≠ 92 := fun e => h92 ((HEQ.out 92).1 e)
          have i34 : ((cn : Int) == 34) = false := by simp; omega
          have i92 : ((cn : Int) == 92) = false := by simp; omega
          cases hp : prn ch with
          | false =>
            have HV := keepHid (HNO.out (stx_bad HX.out.stx HCH.out hn1 hn2 hp))
            rw [hp] at HPR
            clear HYES HNO HEQ hp hn1 hn2
            go_wp2_with (refine (HPR.out _).mono ?_; rintro e w' ⟨rfl, rfl⟩)
            refine bodyPost_ret (tok_res rfl _ _ w.heap.size 0 ⟨#[]⟩ 0 0 (put4 HX.out.res) rfl _ rfl) rfl ?_
            exact ⟨by rw [HV.out]; try rfl, set4 HX.out.bel (Nat.le_refl _) _ _ _ _⟩
          | true =>
            have HST := keepHid (stx_prn HX.out.stx HCH.out HX.out.one hn1 hn2 hp)
            rw [hp] at HPR
            have hbn : w.heap.size + 1 ≤ wq.heap.size := HX.out.res.lt
            have HCN := keepHid hcn
            have HB1 : Hid (Bys (wq.alloc (.cells #[.int .u8 (cn : Int)] 5)) (wq.heap.size + 1) (some ⟨wq.heap.size, 0, none⟩) 1 [ch]) := keepHid (by rw [← hcn]; exact bys_new wq 5 [ch] 1 rfl (by decide) _ rfl _ rfl)
            have HO1 := keepHid (HX.out.own.alloc (.cells #[.int .u8 (cn : Int)] 5))
            have HBD : Hid (Below wq.heap.size wq (wq.alloc (.cells #[.int .u8 (cn : Int)] 5))) := keepHid ((Below.refl _ _).alloc (Nat.le_refl _) _)
            clear HYES HNO HEQ hp hn1 hn2 hcn
            go_wp2_with (first | (refine (HPR.out _).mono ?_; rintro e w' ⟨rfl, rfl⟩) | (at_builtin; refine wpList_append_bytes _ rfl _ _ 62 rfl (w.heap.size + 1) 5 byteT (.slice A n c) n acc (by rfl) HO1.out _ _ 1 1 [ch] (by rfl) HB1.out (n + 1) rfl (by omega) (by simp; omega) ?_))
            intro A2 c2' w4 q1 q2 q3 q4 q5
            have HX2 := keepHid (txr_step HX.out HBD.out q1 q2 HST.out (by omega))
            clear q1 q2 q3 q4 q5 HX HBD HO1 HB1 HST HPR
            go_wp2
            go_roundw
            case rel => exact ⟨k + 1, n + 1, A2, c2', _, by omega, rfl, by go_num, HX2⟩
            case measure => simp [intOf]; omega
    · obtain rfl : k = N := by omega
      have HV := keepHid (HNO.out (stx_end HX.out.stx (by rw [HN.out]; exact Nat.le_refl _)))
      clear HYES HNO
      go_wp2
      refine bodyPost_ret (tok_res rfl _ _ w.heap.size 0 ⟨#[]⟩ 0 0 (put4 HX.out.res) rfl _ rfl) rfl ?_
      exact ⟨by rw [HV.out]; try rfl, set4 HX.out.bel (Nat.le_refl _) _ _ _ _⟩
end Go.Proofs.YtkhhcclomjfliaaGreatDoor
