/-
  A Number: what the library reads, and what the token is.
-/
import Derived.Test.YtkhhcclomjfliaaGreatDoorTokenNum
import Derived.Test.YtkhhcclomjfliaaGreatDoorTokenPlay
import Derived.Test.YtkhhcclomjfliaaGreatDoorTokenOps
import Derived.Deep.DeepCutAuto
namespace Go.Proofs.YtkhhcclomjfliaaGreatDoor
open Go.RowKit
set_option linter.unusedVariables false

def PPost (b : Nat) (bs : List UInt8) (w : World) (e : Ending) (w' : World) : Prop :=
  ((bs ≠ [] ∧ valB b bs 0 < 4294967296 ∧ e = .returned (.tuple #[.int .u64 (valB b bs 0 : Int), .nilIface])) ∨
   ((bs = [] ∨ 4294967296 ≤ valB b bs 0) ∧ ∃ (x : Int) (N : Nat), e = .returned (.tuple #[.int .u64 x, .iface 158 (.pointer (some ⟨N, 0, none⟩))]))) ∧ Below w.heap.size w w'

set_option maxRecDepth 100000 in
theorem pparse10 (bs : List UInt8) (hl : bs.length ≤ 65536) (hc : ∀ c ∈ bs, decL.contains c = true) (w : World) (hE : Errs w) :
    Calls Tryz.prog 67 #[.string (strB bs), .int .i64 10, .int .i64 32] w (PPost 10 bs w) := by
  have HE := keepHid hE
  have HU := keepHid (uparse10 bs hl hc)
  clear hE hc
  go_enter Tryz.func67, Tryz.ntmps67
  go_wp2_with fail
  refine (HU.out _).mono ?_
  rintro e w1 ⟨⟨rfl, rfl⟩ | ⟨hne, hv, rfl⟩ | ⟨hne, hv, rfl⟩, hb⟩
  · have HB := keepHid hb
    obtain ⟨⟨te, pe, h2⟩, tr, pr, h3⟩ := HE.out.below hb (Nat.le_refl _)
    clear hb
    have hlim : (strB []).size ≤ 281474976710656 := by rw [strB_size]; simp
    go_wp2_with fail
    refine (Tryz.strconv_toError_syntax _ _ _ _ _ _ hlim h2 (.inr ⟨_, _, rfl⟩)).mono ?_
    rintro e w2 ⟨N, rfl, _, _, hb2⟩
    have HB2 := keepHid (HB.out.trans (hb2.mono HB.out.size))
    clear hb2
    go_wp2
    go_ret2
    exact ⟨.inr ⟨.inl rfl, _, _, rfl⟩, HB2.out⟩
  · have HB := keepHid hb
    have HV := keepHid hv
    obtain ⟨⟨te, pe, h2⟩, tr, pr, h3⟩ := HE.out.below hb (Nat.le_refl _)
    clear hb hv hne
    have hlim : (strB bs).size ≤ 281474976710656 := by rw [strB_size]; omega
    go_wp2_with fail
    refine (Tryz.strconv_toError_range _ _ _ _ _ _ hlim h3 (.inr ⟨_, _, rfl⟩)).mono ?_
    rintro e w2 ⟨N, rfl, _, _, hb2⟩
    have HB2 := keepHid (HB.out.trans (hb2.mono HB.out.size))
    clear hb2
    go_wp2
    go_ret2
    exact ⟨.inr ⟨.inr HV.out, _, _, rfl⟩, HB2.out⟩
  · have HB := keepHid hb
    have HV := keepHid hv
    have HNE := keepHid hne
    clear hb hv hne
    go_wp2
    go_ret2
    exact ⟨.inl ⟨HNE.out, HV.out, rfl⟩, HB.out⟩

set_option maxRecDepth 100000 in
theorem pparse16 (bs : List UInt8) (hl : bs.length ≤ 65536) (hc : ∀ c ∈ bs, hexL.contains c = true) (w : World) (hE : Errs w) :
    Calls Tryz.prog 67 #[.string (strB bs), .int .i64 16, .int .i64 32] w (PPost 16 bs w) := by
  have HE := keepHid hE
  have HU := keepHid (uparse16 bs hl hc)
  clear hE hc
  go_enter Tryz.func67, Tryz.ntmps67
  go_wp2_with fail
  refine (HU.out _).mono ?_
  rintro e w1 ⟨⟨rfl, rfl⟩ | ⟨hne, hv, rfl⟩ | ⟨hne, hv, rfl⟩, hb⟩
  · have HB := keepHid hb
    obtain ⟨⟨te, pe, h2⟩, tr, pr, h3⟩ := HE.out.below hb (Nat.le_refl _)
    clear hb
    have hlim : (strB []).size ≤ 281474976710656 := by rw [strB_size]; simp
    go_wp2_with fail
    refine (Tryz.strconv_toError_syntax _ _ _ _ _ _ hlim h2 (.inr ⟨_, _, rfl⟩)).mono ?_
    rintro e w2 ⟨N, rfl, _, _, hb2⟩
    have HB2 := keepHid (HB.out.trans (hb2.mono HB.out.size))
    clear hb2
    go_wp2
    go_ret2
    exact ⟨.inr ⟨.inl rfl, _, _, rfl⟩, HB2.out⟩
  · have HB := keepHid hb
    have HV := keepHid hv
    obtain ⟨⟨te, pe, h2⟩, tr, pr, h3⟩ := HE.out.below hb (Nat.le_refl _)
    clear hb hv hne
    have hlim : (strB bs).size ≤ 281474976710656 := by rw [strB_size]; omega
    go_wp2_with fail
    refine (Tryz.strconv_toError_range _ _ _ _ _ _ hlim h3 (.inr ⟨_, _, rfl⟩)).mono ?_
    rintro e w2 ⟨N, rfl, _, _, hb2⟩
    have HB2 := keepHid (HB.out.trans (hb2.mono HB.out.size))
    clear hb2
    go_wp2
    go_ret2
    exact ⟨.inr ⟨.inr HV.out, _, _, rfl⟩, HB2.out⟩
  · have HB := keepHid hb
    have HV := keepHid hv
    have HNE := keepHid hne
    clear hb hv hne
    go_wp2
    go_ret2
    exact ⟨.inl ⟨HNE.out, HV.out, rfl⟩, HB.out⟩

/-- What a token's reader answers. -/
def resV : Option (Tk × Nat) → Value
  | none => .tuple #[.agg (tkA 0 ⟨#[]⟩ 0 0), .int .i64 0]
  | some x => .tuple #[.agg (tkA x.1.kind (strB x.1.text) x.1.val x.1.pos), .int .i64 (x.2 : Int)]
theorem asc_dec : ∀ c ∈ decL, c.toNat < 128 := by decide
theorem asc_hex : ∀ c ∈ hexL, c.toNat < 128 := by decide
theorem asc_word : ∀ c ∈ wordL, c.toNat < 128 := by decide
theorem body_take (l : List UInt8) : (l.drop (leadN l)).take (bodyN l).length = bodyN l := runOf_take _ _
theorem run_head {set l : List UInt8} (h : runOf set l ≠ []) : (runOf set l).head? = l.head? := by
  unfold runOf at h ⊢
  cases l with
  | nil => simp at h
  | cons a r =>
    by_cases ha : set.contains a = true
    · rw [List.takeWhile_cons_of_pos (by simpa using ha)]; rfl
    · rw [List.takeWhile_cons_of_neg (by simpa using ha)] at h; exact absurd rfl h
/-- Its first sign. -/
theorem body_head {l : List UInt8} (h : bodyN l ≠ []) : ∃ c, l[leadN l]? = some c ∧ okN (bodyN l) = !(decide (c.toNat = 48) && decide (1 < (bodyN l).length)) := by
  have h1 := run_head h
  have h2 : (bodyN l).head? = l[leadN l]? := by
    have e : (l.drop (leadN l)).head? = l[leadN l]? := by rw [List.head?_drop]
    rw [← e]; exact h1
  cases hb : bodyN l with
  | nil => exact absurd hb h
  | cons a r =>
    rw [hb] at h2
    refine ⟨a, by simpa using h2.symm, ?_⟩
    unfold okN
    have e : ((a :: r).head? == some 48) = decide (a.toNat = 48) := by
      rw [Bool.eq_iff_iff, beq_iff_eq, decide_eq_true_eq]
      simp only [List.head?_cons, Option.some.injEq]
      exact ⟨fun h => by rw [h]; rfl, fun h => UInt8.toNat_inj.1 h⟩
    rw [e]; rfl
theorem let_at_lt {l : List UInt8} {i : Nat} {d : UInt8} (h : l[i]? = some d) : letAt l i = letL.contains d := by unfold letAt; rw [h]
theorem let_at_ge {l : List UInt8} {i : Nat} (h : l.length ≤ i) : letAt l i = false := by unfold letAt; rw [List.getElem?_eq_none h]

set_option maxRecDepth 100000 in
set_option maxHeartbeats 8000000 in
theorem number10 (l : List UInt8) (hl : l.length ≤ 4096) (hx : isHex l = false) (w : World) (hE : Errs w) :
    Calls Tryz.prog 50 #[.string (strB l)] w fun e w' => e = .returned (resV (numT l)) ∧ Below w.heap.size w w' := by
  have hlead : leadN l = 0 := by unfold leadN; rw [hx]; rfl
  have hbase : baseN l = 10 := by unfold baseN; rw [hx]; rfl
  have hset : digN l = decL := by unfold digN; rw [hx]; rfl
  have hle : 0 ≤ l.length := by have := lead_le l; omega
  have hhd := @body_head l
  rw [hlead] at hhd
  obtain ⟨B, hB⟩ : ∃ B, bodyN l = B := ⟨_, rfl⟩
  obtain ⟨N, hN⟩ : ∃ N, B.length = N := ⟨_, rfl⟩
  have HN := keepHid hN
  rw [hB, hN] at hhd
  have HHD := keepHid hhd
  have hsize : sizeN l = 0 + N := by unfold sizeN; rw [hlead, hB, hN]
  have hszl := size_le l
  have hBr : runOf decL l = B := by have := hB; unfold bodyN at this; rw [hset, hlead] at this; exact this
  have hall : ∀ c ∈ B, decL.contains c = true := fun c hc => by rw [← hBr] at hc; exact runOf_mem hc
  have hBl : B.length ≤ 65536 := by omega
  have HPF : Hid (∀ w, Calls Tryz.prog 66 #[.string (strB l), .string ⟨#[48, 120]⟩] w fun e w' => e = .returned (.bool false) ∧ w' = w) := keepHid fun w => (Tryz.strings_HasPrefix (strB l) (strB [48, 120]) w).mono fun e w' ⟨he, hw⟩ => ⟨by rw [he]; exact ret_bool hx, hw⟩
  have hfrom : ∀ w, (Instr.slice 9 (.string (strB l)) (some (.int .i64 0)) none none).run Tryz.prog w = .ok (.string (strB l)) w := fun w => run_from (k := 0) hle 0 rfl w
  have HRUN : Hid (∀ w, Calls Tryz.prog 49 #[.string (strB l), .string ⟨#[48, 49, 50, 51, 52, 53, 54, 55, 56, 57]⟩] w fun e w' => e = .returned (.int .i64 (N : Int)) ∧ Below w.heap.size w w') := keepHid fun w => by
    have := run_any l decL (by decide) asc_dec (by first | omega | (simp; omega)) w
    rw [hBr, hN] at this
    exact this
  have hmid : ∀ w, (Instr.slice 9 (.string (strB l)) (some (.int .i64 0)) (some (.int .i64 (N : Int))) none).run Tryz.prog w = .ok (.string (strB B)) w := fun w => by
    have := run_mid (l := l) (i := 0) (j := 0 + N) (by omega) (by omega) .i64 .i64 0 (N : Int) rfl (by omega) w
    rw [this, show 0 + N - 0 = N by omega]
    have h2 := body_take l
    rw [hlead, hB, hN] at h2
    rw [h2]
  have HPU := keepHid (pparse10 B hBl hall)
  have HP : Hid (∀ w, Calls Tryz.prog 48 #[.int .i64 2, .string (strB l), .int .i64 (N : Int)] w fun e w' => e = .returned (.tuple #[.agg #[.int .i64 2, .string (strB (l.take (0 + N))), .int .i64 0, .int .i64 0], .int .i64 (N : Int)]) ∧ Below w.heap.size w w') := keepHid fun w => by
    have := plain_any 2 l (0 + N) (by omega) (by omega) w
    have e : ((0 + N : Nat) : Int) = (N : Int) := by omega
    rw [e] at this
    exact this
  have HNB : Hid (numBad l = (!okN B || decide (4294967296 ≤ valB 10 B 0) || letAt l (0 + N))) := keepHid (by rw [numBad_is, hB, hbase, hsize])
  have hlen : (strB l).size = l.length := strB_size l
  obtain ⟨M, hM⟩ : ∃ M, l.length = M := ⟨_, rfl⟩
  have HM := keepHid hM
  rw [hM] at hlen hl hszl
  rw [hsize] at hszl
  have HVAL : Hid (∀ S, S = strB (l.take (0 + N)) → numBad l = false → ∀ v : Int, v = (valB 10 B 0 : Int) → resV (numT l) = .tuple #[.agg (tkA 2 S v 0), .int .i64 (N : Int)]) := keepHid fun S hS hb v hv => by
    rw [num_good hb, hbase, hsize, hB, hv, hS]
    have e : ((0 + N : Nat) : Int) = (N : Int) := by omega
    simp only [resV, e]
    rfl
  obtain ⟨S, hS⟩ : ∃ S, strB (l.take (0 + N)) = S := ⟨_, rfl⟩
  rw [hS] at HP
  have HS := keepHid hS.symm
  obtain ⟨w1, hw1⟩ : ∃ w1, w.alloc (.cells #[.int .i64 0, .string ⟨#[]⟩, .int .i64 0, .int .i64 0] 52) = w1 := ⟨_, rfl⟩
  have HR := keepHid (tok_new w w1 hw1)
  have HE := keepHid (hE.below HR.out.2 (Nat.le_refl _))
  clear hS hE hx hlead hbase hset hsize hBr hall hhd hB hN hM hBl
  go_enter Tryz.func50, Tryz.ntmps50
  go_wp2_with fail
  refine (HPF.out _).mono ?_; rintro e w' ⟨rfl, rfl⟩
  clear hw1
  go_wp2_with fail
  refine (HRUN.out _).mono ?_
  rintro e w2 ⟨rfl, hb2⟩
  have HK2 := keepHid (HR.out.1.below hb2 HR.out.1.lt)
  have HB2 := keepHid (HR.out.2.trans (hb2.mono HR.out.2.size))
  have HE2 := keepHid (HE.out.below hb2 (Nat.le_refl _))
  clear hb2 HRUN HPF HR HE
  go_wp2_with fail
  refine (HPU.out _ HE2.out).mono ?_
  rintro e w3 ⟨hcase, hb3⟩
  have HK3 := keepHid (HK2.out.below hb3 HK2.out.lt)
  have HB3 := keepHid (HB2.out.trans (hb3.mono HB2.out.size))
  obtain ⟨c0, c1, c2, c3, cf⟩ := blk4 HK3.out
  clear hb3 HPU hfrom hmid HK2 HB2 HE2
  rcases hcase with ⟨hne, hv, rfl⟩ | ⟨hbad, x, N2, rfl⟩
  · obtain ⟨c, hc, hok⟩ := HHD.out (by first | exact hne | (intro e; exact hne e))
    have HV0 := keepHid hv
    have h1N : 1 ≤ N := by
      rcases Nat.eq_zero_or_pos N with h | h
      · exact absurd (List.eq_nil_of_length_eq_zero (by rw [HN.out]; exact h)) hne
      · exact h
    have hix := fun w => run_idx hc 0 rfl w
    have HOK0 := keepHid hok
    obtain ⟨cn, hcn⟩ : ∃ cn, c.toNat = cn := ⟨_, rfl⟩
    rw [hcn] at hix HOK0
    have hvb : (valB 10 B 0 : Int) < 4294967296 := by omega
    have hvg : (0 : Int) ≤ (valB 10 B 0 : Int) := by omega
    have HDV : Hid (decide (4294967296 ≤ valB 10 B 0) = false) := keepHid (decide_eq_false (by have := HV0.out; omega))
    obtain ⟨V, hV⟩ : ∃ V, (valB 10 B 0 : Int) = V := ⟨_, rfl⟩
    rw [hV] at hvb hvg ⊢
    have HVV := keepHid hV
    have HVAL' : Hid (∀ S, S = strB (l.take (0 + N)) → numBad l = false → ∀ v : Int, v = V → resV (numT l) = .tuple #[.agg (tkA 2 S v 0), .int .i64 (N : Int)]) := keepHid fun S h1 h2 v h3 => HVAL.out S h1 h2 v (by rw [h3, HVV.out])
    clear HVAL hV hcn hc hok hv hne
    have HVAL := HVAL'
    clear HVAL'
    by_cases h48 : cn = 48
    · have i48 : (cn : Int) = 48 := by omega
      by_cases hgt : 1 < N
      · have igt : (1 : Int) < (N : Int) := by omega
        have HBAD : Hid (numBad l = true) := keepHid (by rw [HNB.out, HOK0.out, decide_eq_true h48, decide_eq_true hgt, HDV.out]; first | rfl | simp)
        clear HHD HNB HOK0 HVAL
        go_wp2
        refine bodyPost_ret (tok_res rfl _ _ w.heap.size 0 ⟨#[]⟩ 0 0 (put4 HK3.out) rfl _ rfl) rfl ?_
        exact ⟨by rw [num_bad HBAD.out]; rfl, set4 HB3.out (Nat.le_refl _) _ _ _ _⟩
      · have igt : ¬ (1 : Int) < (N : Int) := by omega
        have HOK : Hid (numBad l = letAt l (0 + N)) := keepHid (by rw [HNB.out, HOK0.out, decide_eq_false hgt, HDV.out]; simp)
        clear HHD HNB HOK0
        rcases Nat.lt_or_ge (0 + N) M with hlt | hlt
        · obtain ⟨d, hd⟩ : ∃ d, l[0 + N]? = some d := ⟨_, List.getElem?_eq_getElem (by rw [HM.out]; exact hlt)⟩
          have hi1 : (N : Int) < (M : Int) := by omega
          have hdx : ∀ w, (Instr.index 9 (.string (strB l)) (.int .i64 (N : Int))).run Tryz.prog w = .ok (.int .u8 (d.toNat : Int)) w := fun w => run_idx hd _ (by omega) w
          have HH : Hid (∀ w, Calls Tryz.prog 27 #[.string ⟨#[97, 98, 99, 100, 101, 102, 103, 104, 105, 106, 107, 108, 109, 110, 111, 112, 113, 114, 115, 116, 117, 118, 119, 120, 121, 122]⟩, .int .u8 (d.toNat : Int)] w fun e w' => e = .returned (.bool (letL.contains d)) ∧ w' = w) := keepHid (has_any letL d)
          have HLA := keepHid (let_at_lt hd)
          obtain ⟨la, hla⟩ : ∃ la, letL.contains d = la := ⟨_, rfl⟩
          rw [hla] at HH HLA
          clear hla hd
          generalize d.toNat = dn at *
          cases la
          · have HGOOD : Hid (numBad l = false) := keepHid (HOK.out.trans HLA.out)
            have HV := keepHid (HVAL.out S HS.out HGOOD.out _ rfl)
            clear HVAL HGOOD
            go_wp2_with (go_at_call 27; refine (HH.out _).mono ?_; rintro e w' ⟨rfl, rfl⟩)
            refine (HP.out _).mono ?_
            rintro e w5 ⟨rfl, hb5⟩
            have HK5 := keepHid (HK3.out.below hb5 HK3.out.lt)
            have HB5 := keepHid (HB3.out.trans (hb5.mono HB3.out.size))
            clear hb5 HP
            go_upto_region 9 with (fail)
            obtain ⟨w7, hw7⟩ : ∃ w7, w5.alloc (.cells #[.int .i64 2, .string S, .int .i64 0, .int .i64 0] 52) = w7 := ⟨_, rfl⟩
            rw [hw7]
            have hbw : Below w5.heap.size w5 w7 := by rw [← hw7]; exact (Below.refl _ _).alloc (Nat.le_refl _) _
            have HK7 : Hid (Blk w7 w5.heap.size 52 #[.int .i64 2, .string S, .int .i64 0, .int .i64 0]) := keepHid (by rw [← hw7]; exact Blk.new w5 _ _)
            have HK7r := keepHid (HK5.out.below hbw HK5.out.lt)
            have HB7 := keepHid (HB5.out.trans (hbw.mono HB5.out.size))
            have HL6 : Hid (w.heap.size < w5.heap.size) := keepHid HK5.out.lt
            clear hw7 hbw HK5 HB5
            generalize w5.heap.size = g2 at *
            obtain ⟨a0, a1, a2, a3, af⟩ := blk4 HK7.out
            go_upto_region 10 with (fail)
            obtain ⟨w8, hw8⟩ : ∃ w8, w7.setCell ⟨g2, 2, none⟩ (.int .i64 V) = w8 := ⟨_, rfl⟩
            rw [hw8]
            have HK8 : Hid (Blk w8 g2 52 #[.int .i64 2, .string S, .int .i64 V, .int .i64 0]) := keepHid (by rw [← hw8]; exact HK7.out.put 2 _)
            have HK8r : Hid (Blk w8 w.heap.size 52 #[.int .i64 0, .string ⟨#[]⟩, .int .i64 0, .int .i64 0]) := keepHid (by rw [← hw8]; exact HK7r.out.far (p := ⟨g2, 2, none⟩) (by have := HL6.out; show _ ≠ g2; omega) _)
            have HB8 : Hid (Below w.heap.size w w8) := keepHid (by rw [← hw8]; exact HB7.out.setCell (Nat.le_of_lt HL6.out) _)
            clear hw8 a0 a1 a2 a3 af HK7 HK7r HB7
            obtain ⟨a0, a1, a2, a3, af⟩ := blk4 HK8.out
            obtain ⟨b0, b1, b2, b3, bf⟩ := blk4 HK8r.out
            go_wp2
            refine bodyPost_ret (tok_res rfl _ _ w.heap.size 2 S V 0 (put4 HK8r.out) rfl _ rfl) rfl ?_
            exact ⟨by rw [HV.out]; rfl, set4 HB8.out (Nat.le_refl _) _ _ _ _⟩
          · have HBAD : Hid (numBad l = true) := keepHid (HOK.out.trans HLA.out)
            go_wp2_with (refine (HH.out _).mono ?_; rintro e w' ⟨rfl, rfl⟩)
            refine bodyPost_ret (tok_res rfl _ _ w.heap.size 0 ⟨#[]⟩ 0 0 (put4 HK3.out) rfl _ rfl) rfl ?_
            exact ⟨by rw [num_bad HBAD.out]; rfl, set4 HB3.out (Nat.le_refl _) _ _ _ _⟩
        · have hi1 : (M : Int) ≤ (N : Int) := by omega
          have HGOOD : Hid (numBad l = false) := keepHid (HOK.out.trans (let_at_ge (by rw [HM.out]; exact hlt)))
          have HV := keepHid (HVAL.out S HS.out HGOOD.out _ rfl)
          clear HVAL HGOOD
          go_wp2_with (fail)
          refine (HP.out _).mono ?_
          rintro e w5 ⟨rfl, hb5⟩
          have HK5 := keepHid (HK3.out.below hb5 HK3.out.lt)
          have HB5 := keepHid (HB3.out.trans (hb5.mono HB3.out.size))
          clear hb5 HP
          go_upto_region 9 with (fail)
          obtain ⟨w7, hw7⟩ : ∃ w7, w5.alloc (.cells #[.int .i64 2, .string S, .int .i64 0, .int .i64 0] 52) = w7 := ⟨_, rfl⟩
          rw [hw7]
          have hbw : Below w5.heap.size w5 w7 := by rw [← hw7]; exact (Below.refl _ _).alloc (Nat.le_refl _) _
          have HK7 : Hid (Blk w7 w5.heap.size 52 #[.int .i64 2, .string S, .int .i64 0, .int .i64 0]) := keepHid (by rw [← hw7]; exact Blk.new w5 _ _)
          have HK7r := keepHid (HK5.out.below hbw HK5.out.lt)
          have HB7 := keepHid (HB5.out.trans (hbw.mono HB5.out.size))
          have HL6 : Hid (w.heap.size < w5.heap.size) := keepHid HK5.out.lt
          clear hw7 hbw HK5 HB5
          generalize w5.heap.size = g2 at *
          obtain ⟨a0, a1, a2, a3, af⟩ := blk4 HK7.out
          go_upto_region 10 with (fail)
          obtain ⟨w8, hw8⟩ : ∃ w8, w7.setCell ⟨g2, 2, none⟩ (.int .i64 V) = w8 := ⟨_, rfl⟩
          rw [hw8]
          have HK8 : Hid (Blk w8 g2 52 #[.int .i64 2, .string S, .int .i64 V, .int .i64 0]) := keepHid (by rw [← hw8]; exact HK7.out.put 2 _)
          have HK8r : Hid (Blk w8 w.heap.size 52 #[.int .i64 0, .string ⟨#[]⟩, .int .i64 0, .int .i64 0]) := keepHid (by rw [← hw8]; exact HK7r.out.far (p := ⟨g2, 2, none⟩) (by have := HL6.out; show _ ≠ g2; omega) _)
          have HB8 : Hid (Below w.heap.size w w8) := keepHid (by rw [← hw8]; exact HB7.out.setCell (Nat.le_of_lt HL6.out) _)
          clear hw8 a0 a1 a2 a3 af HK7 HK7r HB7
          obtain ⟨a0, a1, a2, a3, af⟩ := blk4 HK8.out
          obtain ⟨b0, b1, b2, b3, bf⟩ := blk4 HK8r.out
          go_wp2
          refine bodyPost_ret (tok_res rfl _ _ w.heap.size 2 S V 0 (put4 HK8r.out) rfl _ rfl) rfl ?_
          exact ⟨by rw [HV.out]; rfl, set4 HB8.out (Nat.le_refl _) _ _ _ _⟩
    · have i48 : ¬ (cn : Int) = 48 := by omega
      have HOK : Hid (numBad l = letAt l (0 + N)) := keepHid (by rw [HNB.out, HOK0.out, decide_eq_false h48, HDV.out]; simp)
      clear HHD HNB HOK0
      rcases Nat.lt_or_ge (0 + N) M with hlt | hlt
      · obtain ⟨d, hd⟩ : ∃ d, l[0 + N]? = some d := ⟨_, List.getElem?_eq_getElem (by rw [HM.out]; exact hlt)⟩
        have hi1 : (N : Int) < (M : Int) := by omega
        have hdx : ∀ w, (Instr.index 9 (.string (strB l)) (.int .i64 (N : Int))).run Tryz.prog w = .ok (.int .u8 (d.toNat : Int)) w := fun w => run_idx hd _ (by omega) w
        have HH : Hid (∀ w, Calls Tryz.prog 27 #[.string ⟨#[97, 98, 99, 100, 101, 102, 103, 104, 105, 106, 107, 108, 109, 110, 111, 112, 113, 114, 115, 116, 117, 118, 119, 120, 121, 122]⟩, .int .u8 (d.toNat : Int)] w fun e w' => e = .returned (.bool (letL.contains d)) ∧ w' = w) := keepHid (has_any letL d)
        have HLA := keepHid (let_at_lt hd)
        obtain ⟨la, hla⟩ : ∃ la, letL.contains d = la := ⟨_, rfl⟩
        rw [hla] at HH HLA
        clear hla hd
        generalize d.toNat = dn at *
        cases la
        · have HGOOD : Hid (numBad l = false) := keepHid (HOK.out.trans HLA.out)
          have HV := keepHid (HVAL.out S HS.out HGOOD.out _ rfl)
          clear HVAL HGOOD
          go_wp2_with (go_at_call 27; refine (HH.out _).mono ?_; rintro e w' ⟨rfl, rfl⟩)
          refine (HP.out _).mono ?_
          rintro e w5 ⟨rfl, hb5⟩
          have HK5 := keepHid (HK3.out.below hb5 HK3.out.lt)
          have HB5 := keepHid (HB3.out.trans (hb5.mono HB3.out.size))
          clear hb5 HP
          go_upto_region 9 with (fail)
          obtain ⟨w7, hw7⟩ : ∃ w7, w5.alloc (.cells #[.int .i64 2, .string S, .int .i64 0, .int .i64 0] 52) = w7 := ⟨_, rfl⟩
          rw [hw7]
          have hbw : Below w5.heap.size w5 w7 := by rw [← hw7]; exact (Below.refl _ _).alloc (Nat.le_refl _) _
          have HK7 : Hid (Blk w7 w5.heap.size 52 #[.int .i64 2, .string S, .int .i64 0, .int .i64 0]) := keepHid (by rw [← hw7]; exact Blk.new w5 _ _)
          have HK7r := keepHid (HK5.out.below hbw HK5.out.lt)
          have HB7 := keepHid (HB5.out.trans (hbw.mono HB5.out.size))
          have HL6 : Hid (w.heap.size < w5.heap.size) := keepHid HK5.out.lt
          clear hw7 hbw HK5 HB5
          generalize w5.heap.size = g2 at *
          obtain ⟨a0, a1, a2, a3, af⟩ := blk4 HK7.out
          go_upto_region 10 with (fail)
          obtain ⟨w8, hw8⟩ : ∃ w8, w7.setCell ⟨g2, 2, none⟩ (.int .i64 V) = w8 := ⟨_, rfl⟩
          rw [hw8]
          have HK8 : Hid (Blk w8 g2 52 #[.int .i64 2, .string S, .int .i64 V, .int .i64 0]) := keepHid (by rw [← hw8]; exact HK7.out.put 2 _)
          have HK8r : Hid (Blk w8 w.heap.size 52 #[.int .i64 0, .string ⟨#[]⟩, .int .i64 0, .int .i64 0]) := keepHid (by rw [← hw8]; exact HK7r.out.far (p := ⟨g2, 2, none⟩) (by have := HL6.out; show _ ≠ g2; omega) _)
          have HB8 : Hid (Below w.heap.size w w8) := keepHid (by rw [← hw8]; exact HB7.out.setCell (Nat.le_of_lt HL6.out) _)
          clear hw8 a0 a1 a2 a3 af HK7 HK7r HB7
          obtain ⟨a0, a1, a2, a3, af⟩ := blk4 HK8.out
          obtain ⟨b0, b1, b2, b3, bf⟩ := blk4 HK8r.out
          go_wp2
          refine bodyPost_ret (tok_res rfl _ _ w.heap.size 2 S V 0 (put4 HK8r.out) rfl _ rfl) rfl ?_
          exact ⟨by rw [HV.out]; rfl, set4 HB8.out (Nat.le_refl _) _ _ _ _⟩
        · have HBAD : Hid (numBad l = true) := keepHid (HOK.out.trans HLA.out)
          go_wp2_with (refine (HH.out _).mono ?_; rintro e w' ⟨rfl, rfl⟩)
          refine bodyPost_ret (tok_res rfl _ _ w.heap.size 0 ⟨#[]⟩ 0 0 (put4 HK3.out) rfl _ rfl) rfl ?_
          exact ⟨by rw [num_bad HBAD.out]; rfl, set4 HB3.out (Nat.le_refl _) _ _ _ _⟩
      · have hi1 : (M : Int) ≤ (N : Int) := by omega
        have HGOOD : Hid (numBad l = false) := keepHid (HOK.out.trans (let_at_ge (by rw [HM.out]; exact hlt)))
        have HV := keepHid (HVAL.out S HS.out HGOOD.out _ rfl)
        clear HVAL HGOOD
        go_wp2_with (fail)
        refine (HP.out _).mono ?_
        rintro e w5 ⟨rfl, hb5⟩
        have HK5 := keepHid (HK3.out.below hb5 HK3.out.lt)
        have HB5 := keepHid (HB3.out.trans (hb5.mono HB3.out.size))
        clear hb5 HP
        go_upto_region 9 with (fail)
        obtain ⟨w7, hw7⟩ : ∃ w7, w5.alloc (.cells #[.int .i64 2, .string S, .int .i64 0, .int .i64 0] 52) = w7 := ⟨_, rfl⟩
        rw [hw7]
        have hbw : Below w5.heap.size w5 w7 := by rw [← hw7]; exact (Below.refl _ _).alloc (Nat.le_refl _) _
        have HK7 : Hid (Blk w7 w5.heap.size 52 #[.int .i64 2, .string S, .int .i64 0, .int .i64 0]) := keepHid (by rw [← hw7]; exact Blk.new w5 _ _)
        have HK7r := keepHid (HK5.out.below hbw HK5.out.lt)
        have HB7 := keepHid (HB5.out.trans (hbw.mono HB5.out.size))
        have HL6 : Hid (w.heap.size < w5.heap.size) := keepHid HK5.out.lt
        clear hw7 hbw HK5 HB5
        generalize w5.heap.size = g2 at *
        obtain ⟨a0, a1, a2, a3, af⟩ := blk4 HK7.out
        go_upto_region 10 with (fail)
        obtain ⟨w8, hw8⟩ : ∃ w8, w7.setCell ⟨g2, 2, none⟩ (.int .i64 V) = w8 := ⟨_, rfl⟩
        rw [hw8]
        have HK8 : Hid (Blk w8 g2 52 #[.int .i64 2, .string S, .int .i64 V, .int .i64 0]) := keepHid (by rw [← hw8]; exact HK7.out.put 2 _)
        have HK8r : Hid (Blk w8 w.heap.size 52 #[.int .i64 0, .string ⟨#[]⟩, .int .i64 0, .int .i64 0]) := keepHid (by rw [← hw8]; exact HK7r.out.far (p := ⟨g2, 2, none⟩) (by have := HL6.out; show _ ≠ g2; omega) _)
        have HB8 : Hid (Below w.heap.size w w8) := keepHid (by rw [← hw8]; exact HB7.out.setCell (Nat.le_of_lt HL6.out) _)
        clear hw8 a0 a1 a2 a3 af HK7 HK7r HB7
        obtain ⟨a0, a1, a2, a3, af⟩ := blk4 HK8.out
        obtain ⟨b0, b1, b2, b3, bf⟩ := blk4 HK8r.out
        go_wp2
        refine bodyPost_ret (tok_res rfl _ _ w.heap.size 2 S V 0 (put4 HK8r.out) rfl _ rfl) rfl ?_
        exact ⟨by rw [HV.out]; rfl, set4 HB8.out (Nat.le_refl _) _ _ _ _⟩
  · have HBAD : Hid (numBad l = true) := keepHid (by
      rw [HNB.out]
      rcases hbad with h | h
      · rw [h]; rfl
      · rw [decide_eq_true h]; simp)
    clear HHD HNB HVAL hbad
    go_wp2
    refine bodyPost_ret (tok_res rfl _ _ w.heap.size 0 ⟨#[]⟩ 0 0 (put4 HK3.out) rfl _ rfl) rfl ?_
    exact ⟨by rw [num_bad HBAD.out]; rfl, set4 HB3.out (Nat.le_refl _) _ _ _ _⟩

set_option maxRecDepth 100000 in
set_option maxHeartbeats 8000000 in
theorem number16 (l : List UInt8) (hl : l.length ≤ 4096) (hx : isHex l = true) (w : World) (hE : Errs w) :
    Calls Tryz.prog 50 #[.string (strB l)] w fun e w' => e = .returned (resV (numT l)) ∧ Below w.heap.size w w' := by
  have hlead : leadN l = 2 := by unfold leadN; rw [hx]; rfl
  have hbase : baseN l = 16 := by unfold baseN; rw [hx]; rfl
  have hset : digN l = hexL := by unfold digN; rw [hx]; rfl
  have hle : 2 ≤ l.length := by have := lead_le l; omega
  have hhd := @body_head l
  rw [hlead] at hhd
  obtain ⟨B, hB⟩ : ∃ B, bodyN l = B := ⟨_, rfl⟩
  obtain ⟨N, hN⟩ : ∃ N, B.length = N := ⟨_, rfl⟩
  have HN := keepHid hN
  rw [hB, hN] at hhd
  have HHD := keepHid hhd
  have hsize : sizeN l = 2 + N := by unfold sizeN; rw [hlead, hB, hN]
  have hszl := size_le l
  have hBr : runOf hexL (l.drop 2) = B := by have := hB; unfold bodyN at this; rw [hset, hlead] at this; exact this
  have hall : ∀ c ∈ B, hexL.contains c = true := fun c hc => by rw [← hBr] at hc; exact runOf_mem hc
  have hBl : B.length ≤ 65536 := by omega
  have HPF : Hid (∀ w, Calls Tryz.prog 66 #[.string (strB l), .string ⟨#[48, 120]⟩] w fun e w' => e = .returned (.bool true) ∧ w' = w) := keepHid fun w => (Tryz.strings_HasPrefix (strB l) (strB [48, 120]) w).mono fun e w' ⟨he, hw⟩ => ⟨by rw [he]; exact ret_bool hx, hw⟩
  have hfrom : ∀ w, (Instr.slice 9 (.string (strB l)) (some (.int .i64 2)) none none).run Tryz.prog w = .ok (.string (strB (l.drop 2))) w := fun w => run_from (k := 2) hle 2 rfl w
  have HRUN : Hid (∀ w, Calls Tryz.prog 49 #[.string (strB (l.drop 2)), .string ⟨#[48, 49, 50, 51, 52, 53, 54, 55, 56, 57, 97, 98, 99, 100, 101, 102]⟩] w fun e w' => e = .returned (.int .i64 (N : Int)) ∧ Below w.heap.size w w') := keepHid fun w => by
    have := run_any (l.drop 2) hexL (by decide) asc_hex (by first | omega | (simp; omega)) w
    rw [hBr, hN] at this
    exact this
  have hmid : ∀ w, (Instr.slice 9 (.string (strB l)) (some (.int .i64 2)) (some (.int .i64 (2 + (N : Int)))) none).run Tryz.prog w = .ok (.string (strB B)) w := fun w => by
    have := run_mid (l := l) (i := 2) (j := 2 + N) (by omega) (by omega) .i64 .i64 2 (2 + (N : Int)) rfl (by omega) w
    rw [this, show 2 + N - 2 = N by omega]
    have h2 := body_take l
    rw [hlead, hB, hN] at h2
    rw [h2]
  have HPU := keepHid (pparse16 B hBl hall)
  have HP : Hid (∀ w, Calls Tryz.prog 48 #[.int .i64 2, .string (strB l), .int .i64 (2 + (N : Int))] w fun e w' => e = .returned (.tuple #[.agg #[.int .i64 2, .string (strB (l.take (2 + N))), .int .i64 0, .int .i64 0], .int .i64 (2 + (N : Int))]) ∧ Below w.heap.size w w') := keepHid fun w => by
    have := plain_any 2 l (2 + N) (by omega) (by omega) w
    have e : ((2 + N : Nat) : Int) = (2 + (N : Int)) := by omega
    rw [e] at this
    exact this
  have HNB : Hid (numBad l = (!okN B || decide (4294967296 ≤ valB 16 B 0) || letAt l (2 + N))) := keepHid (by rw [numBad_is, hB, hbase, hsize])
  have hlen : (strB l).size = l.length := strB_size l
  obtain ⟨M, hM⟩ : ∃ M, l.length = M := ⟨_, rfl⟩
  have HM := keepHid hM
  rw [hM] at hlen hl hszl
  rw [hsize] at hszl
  have HVAL : Hid (∀ S, S = strB (l.take (2 + N)) → numBad l = false → ∀ v : Int, v = (valB 16 B 0 : Int) → resV (numT l) = .tuple #[.agg (tkA 2 S v 0), .int .i64 (2 + (N : Int))]) := keepHid fun S hS hb v hv => by
    rw [num_good hb, hbase, hsize, hB, hv, hS]
    have e : ((2 + N : Nat) : Int) = (2 + (N : Int)) := by omega
    simp only [resV, e]
    rfl
  obtain ⟨S, hS⟩ : ∃ S, strB (l.take (2 + N)) = S := ⟨_, rfl⟩
  rw [hS] at HP
  have HS := keepHid hS.symm
  obtain ⟨w1, hw1⟩ : ∃ w1, w.alloc (.cells #[.int .i64 0, .string ⟨#[]⟩, .int .i64 0, .int .i64 0] 52) = w1 := ⟨_, rfl⟩
  have HR := keepHid (tok_new w w1 hw1)
  have HE := keepHid (hE.below HR.out.2 (Nat.le_refl _))
  clear hS hE hx hlead hbase hset hsize hBr hall hhd hB hN hM hBl
  go_enter Tryz.func50, Tryz.ntmps50
  go_wp2_with fail
  refine (HPF.out _).mono ?_; rintro e w' ⟨rfl, rfl⟩
  clear hw1
  go_wp2_with fail
  refine (HRUN.out _).mono ?_
  rintro e w2 ⟨rfl, hb2⟩
  have HK2 := keepHid (HR.out.1.below hb2 HR.out.1.lt)
  have HB2 := keepHid (HR.out.2.trans (hb2.mono HR.out.2.size))
  have HE2 := keepHid (HE.out.below hb2 (Nat.le_refl _))
  clear hb2 HRUN HPF HR HE
  go_wp2_with fail
  refine (HPU.out _ HE2.out).mono ?_
  rintro e w3 ⟨hcase, hb3⟩
  have HK3 := keepHid (HK2.out.below hb3 HK2.out.lt)
  have HB3 := keepHid (HB2.out.trans (hb3.mono HB2.out.size))
  obtain ⟨c0, c1, c2, c3, cf⟩ := blk4 HK3.out
  clear hb3 HPU hfrom hmid HK2 HB2 HE2
  rcases hcase with ⟨hne, hv, rfl⟩ | ⟨hbad, x, N2, rfl⟩
  · obtain ⟨c, hc, hok⟩ := HHD.out (by first | exact hne | (intro e; exact hne e))
    have HV0 := keepHid hv
    have h1N : 1 ≤ N := by
      rcases Nat.eq_zero_or_pos N with h | h
      · exact absurd (List.eq_nil_of_length_eq_zero (by rw [HN.out]; exact h)) hne
      · exact h
    have hix := fun w => run_idx hc 2 rfl w
    have HOK0 := keepHid hok
    obtain ⟨cn, hcn⟩ : ∃ cn, c.toNat = cn := ⟨_, rfl⟩
    rw [hcn] at hix HOK0
    have hvb : (valB 16 B 0 : Int) < 4294967296 := by omega
    have hvg : (0 : Int) ≤ (valB 16 B 0 : Int) := by omega
    have HDV : Hid (decide (4294967296 ≤ valB 16 B 0) = false) := keepHid (decide_eq_false (by have := HV0.out; omega))
    obtain ⟨V, hV⟩ : ∃ V, (valB 16 B 0 : Int) = V := ⟨_, rfl⟩
    rw [hV] at hvb hvg ⊢
    have HVV := keepHid hV
    have HVAL' : Hid (∀ S, S = strB (l.take (2 + N)) → numBad l = false → ∀ v : Int, v = V → resV (numT l) = .tuple #[.agg (tkA 2 S v 0), .int .i64 (2 + (N : Int))]) := keepHid fun S h1 h2 v h3 => HVAL.out S h1 h2 v (by rw [h3, HVV.out])
    clear HVAL hV hcn hc hok hv hne
    have HVAL := HVAL'
    clear HVAL'
    by_cases h48 : cn = 48
    · have i48 : (cn : Int) = 48 := by omega
      by_cases hgt : 1 < N
      · have igt : (1 : Int) < (N : Int) := by omega
        have HBAD : Hid (numBad l = true) := keepHid (by rw [HNB.out, HOK0.out, decide_eq_true h48, decide_eq_true hgt, HDV.out]; first | rfl | simp)
        clear HHD HNB HOK0 HVAL
        go_wp2
        refine bodyPost_ret (tok_res rfl _ _ w.heap.size 0 ⟨#[]⟩ 0 0 (put4 HK3.out) rfl _ rfl) rfl ?_
        exact ⟨by rw [num_bad HBAD.out]; rfl, set4 HB3.out (Nat.le_refl _) _ _ _ _⟩
      · have igt : ¬ (1 : Int) < (N : Int) := by omega
        have HOK : Hid (numBad l = letAt l (2 + N)) := keepHid (by rw [HNB.out, HOK0.out, decide_eq_false hgt, HDV.out]; simp)
        clear HHD HNB HOK0
        rcases Nat.lt_or_ge (2 + N) M with hlt | hlt
        · obtain ⟨d, hd⟩ : ∃ d, l[2 + N]? = some d := ⟨_, List.getElem?_eq_getElem (by rw [HM.out]; exact hlt)⟩
          have hi1 : (2 + (N : Int)) < (M : Int) := by omega
          have hdx : ∀ w, (Instr.index 9 (.string (strB l)) (.int .i64 (2 + (N : Int)))).run Tryz.prog w = .ok (.int .u8 (d.toNat : Int)) w := fun w => run_idx hd _ (by omega) w
          have HH : Hid (∀ w, Calls Tryz.prog 27 #[.string ⟨#[97, 98, 99, 100, 101, 102, 103, 104, 105, 106, 107, 108, 109, 110, 111, 112, 113, 114, 115, 116, 117, 118, 119, 120, 121, 122]⟩, .int .u8 (d.toNat : Int)] w fun e w' => e = .returned (.bool (letL.contains d)) ∧ w' = w) := keepHid (has_any letL d)
          have HLA := keepHid (let_at_lt hd)
          obtain ⟨la, hla⟩ : ∃ la, letL.contains d = la := ⟨_, rfl⟩
          rw [hla] at HH HLA
          clear hla hd
          generalize d.toNat = dn at *
          cases la
          · have HGOOD : Hid (numBad l = false) := keepHid (HOK.out.trans HLA.out)
            have HV := keepHid (HVAL.out S HS.out HGOOD.out _ rfl)
            clear HVAL HGOOD
            go_wp2_with (go_at_call 27; refine (HH.out _).mono ?_; rintro e w' ⟨rfl, rfl⟩)
            refine (HP.out _).mono ?_
            rintro e w5 ⟨rfl, hb5⟩
            have HK5 := keepHid (HK3.out.below hb5 HK3.out.lt)
            have HB5 := keepHid (HB3.out.trans (hb5.mono HB3.out.size))
            clear hb5 HP
            go_upto_region 9 with (fail)
            obtain ⟨w7, hw7⟩ : ∃ w7, w5.alloc (.cells #[.int .i64 2, .string S, .int .i64 0, .int .i64 0] 52) = w7 := ⟨_, rfl⟩
            rw [hw7]
            have hbw : Below w5.heap.size w5 w7 := by rw [← hw7]; exact (Below.refl _ _).alloc (Nat.le_refl _) _
            have HK7 : Hid (Blk w7 w5.heap.size 52 #[.int .i64 2, .string S, .int .i64 0, .int .i64 0]) := keepHid (by rw [← hw7]; exact Blk.new w5 _ _)
            have HK7r := keepHid (HK5.out.below hbw HK5.out.lt)
            have HB7 := keepHid (HB5.out.trans (hbw.mono HB5.out.size))
            have HL6 : Hid (w.heap.size < w5.heap.size) := keepHid HK5.out.lt
            clear hw7 hbw HK5 HB5
            generalize w5.heap.size = g2 at *
            obtain ⟨a0, a1, a2, a3, af⟩ := blk4 HK7.out
            go_upto_region 10 with (fail)
            obtain ⟨w8, hw8⟩ : ∃ w8, w7.setCell ⟨g2, 2, none⟩ (.int .i64 V) = w8 := ⟨_, rfl⟩
            rw [hw8]
            have HK8 : Hid (Blk w8 g2 52 #[.int .i64 2, .string S, .int .i64 V, .int .i64 0]) := keepHid (by rw [← hw8]; exact HK7.out.put 2 _)
            have HK8r : Hid (Blk w8 w.heap.size 52 #[.int .i64 0, .string ⟨#[]⟩, .int .i64 0, .int .i64 0]) := keepHid (by rw [← hw8]; exact HK7r.out.far (p := ⟨g2, 2, none⟩) (by have := HL6.out; show _ ≠ g2; omega) _)
            have HB8 : Hid (Below w.heap.size w w8) := keepHid (by rw [← hw8]; exact HB7.out.setCell (Nat.le_of_lt HL6.out) _)
            clear hw8 a0 a1 a2 a3 af HK7 HK7r HB7
            obtain ⟨a0, a1, a2, a3, af⟩ := blk4 HK8.out
            obtain ⟨b0, b1, b2, b3, bf⟩ := blk4 HK8r.out
            go_wp2
            refine bodyPost_ret (tok_res rfl _ _ w.heap.size 2 S V 0 (put4 HK8r.out) rfl _ rfl) rfl ?_
            exact ⟨by rw [HV.out]; rfl, set4 HB8.out (Nat.le_refl _) _ _ _ _⟩
          · have HBAD : Hid (numBad l = true) := keepHid (HOK.out.trans HLA.out)
            go_wp2_with (refine (HH.out _).mono ?_; rintro e w' ⟨rfl, rfl⟩)
            refine bodyPost_ret (tok_res rfl _ _ w.heap.size 0 ⟨#[]⟩ 0 0 (put4 HK3.out) rfl _ rfl) rfl ?_
            exact ⟨by rw [num_bad HBAD.out]; rfl, set4 HB3.out (Nat.le_refl _) _ _ _ _⟩
        · have hi1 : (M : Int) ≤ (2 + (N : Int)) := by omega
          have HGOOD : Hid (numBad l = false) := keepHid (HOK.out.trans (let_at_ge (by rw [HM.out]; exact hlt)))
          have HV := keepHid (HVAL.out S HS.out HGOOD.out _ rfl)
          clear HVAL HGOOD
          go_wp2_with (fail)
          refine (HP.out _).mono ?_
          rintro e w5 ⟨rfl, hb5⟩
          have HK5 := keepHid (HK3.out.below hb5 HK3.out.lt)
          have HB5 := keepHid (HB3.out.trans (hb5.mono HB3.out.size))
          clear hb5 HP
          go_upto_region 9 with (fail)
          obtain ⟨w7, hw7⟩ : ∃ w7, w5.alloc (.cells #[.int .i64 2, .string S, .int .i64 0, .int .i64 0] 52) = w7 := ⟨_, rfl⟩
          rw [hw7]
          have hbw : Below w5.heap.size w5 w7 := by rw [← hw7]; exact (Below.refl _ _).alloc (Nat.le_refl _) _
          have HK7 : Hid (Blk w7 w5.heap.size 52 #[.int .i64 2, .string S, .int .i64 0, .int .i64 0]) := keepHid (by rw [← hw7]; exact Blk.new w5 _ _)
          have HK7r := keepHid (HK5.out.below hbw HK5.out.lt)
          have HB7 := keepHid (HB5.out.trans (hbw.mono HB5.out.size))
          have HL6 : Hid (w.heap.size < w5.heap.size) := keepHid HK5.out.lt
          clear hw7 hbw HK5 HB5
          generalize w5.heap.size = g2 at *
          obtain ⟨a0, a1, a2, a3, af⟩ := blk4 HK7.out
          go_upto_region 10 with (fail)
          obtain ⟨w8, hw8⟩ : ∃ w8, w7.setCell ⟨g2, 2, none⟩ (.int .i64 V) = w8 := ⟨_, rfl⟩
          rw [hw8]
          have HK8 : Hid (Blk w8 g2 52 #[.int .i64 2, .string S, .int .i64 V, .int .i64 0]) := keepHid (by rw [← hw8]; exact HK7.out.put 2 _)
          have HK8r : Hid (Blk w8 w.heap.size 52 #[.int .i64 0, .string ⟨#[]⟩, .int .i64 0, .int .i64 0]) := keepHid (by rw [← hw8]; exact HK7r.out.far (p := ⟨g2, 2, none⟩) (by have := HL6.out; show _ ≠ g2; omega) _)
          have HB8 : Hid (Below w.heap.size w w8) := keepHid (by rw [← hw8]; exact HB7.out.setCell (Nat.le_of_lt HL6.out) _)
          clear hw8 a0 a1 a2 a3 af HK7 HK7r HB7
          obtain ⟨a0, a1, a2, a3, af⟩ := blk4 HK8.out
          obtain ⟨b0, b1, b2, b3, bf⟩ := blk4 HK8r.out
          go_wp2
          refine bodyPost_ret (tok_res rfl _ _ w.heap.size 2 S V 0 (put4 HK8r.out) rfl _ rfl) rfl ?_
          exact ⟨by rw [HV.out]; rfl, set4 HB8.out (Nat.le_refl _) _ _ _ _⟩
    · have i48 : ¬ (cn : Int) = 48 := by omega
      have HOK : Hid (numBad l = letAt l (2 + N)) := keepHid (by rw [HNB.out, HOK0.out, decide_eq_false h48, HDV.out]; simp)
      clear HHD HNB HOK0
      rcases Nat.lt_or_ge (2 + N) M with hlt | hlt
      · obtain ⟨d, hd⟩ : ∃ d, l[2 + N]? = some d := ⟨_, List.getElem?_eq_getElem (by rw [HM.out]; exact hlt)⟩
        have hi1 : (2 + (N : Int)) < (M : Int) := by omega
        have hdx : ∀ w, (Instr.index 9 (.string (strB l)) (.int .i64 (2 + (N : Int)))).run Tryz.prog w = .ok (.int .u8 (d.toNat : Int)) w := fun w => run_idx hd _ (by omega) w
        have HH : Hid (∀ w, Calls Tryz.prog 27 #[.string ⟨#[97, 98, 99, 100, 101, 102, 103, 104, 105, 106, 107, 108, 109, 110, 111, 112, 113, 114, 115, 116, 117, 118, 119, 120, 121, 122]⟩, .int .u8 (d.toNat : Int)] w fun e w' => e = .returned (.bool (letL.contains d)) ∧ w' = w) := keepHid (has_any letL d)
        have HLA := keepHid (let_at_lt hd)
        obtain ⟨la, hla⟩ : ∃ la, letL.contains d = la := ⟨_, rfl⟩
        rw [hla] at HH HLA
        clear hla hd
        generalize d.toNat = dn at *
        cases la
        · have HGOOD : Hid (numBad l = false) := keepHid (HOK.out.trans HLA.out)
          have HV := keepHid (HVAL.out S HS.out HGOOD.out _ rfl)
          clear HVAL HGOOD
          go_wp2_with (go_at_call 27; refine (HH.out _).mono ?_; rintro e w' ⟨rfl, rfl⟩)
          refine (HP.out _).mono ?_
          rintro e w5 ⟨rfl, hb5⟩
          have HK5 := keepHid (HK3.out.below hb5 HK3.out.lt)
          have HB5 := keepHid (HB3.out.trans (hb5.mono HB3.out.size))
          clear hb5 HP
          go_upto_region 9 with (fail)
          obtain ⟨w7, hw7⟩ : ∃ w7, w5.alloc (.cells #[.int .i64 2, .string S, .int .i64 0, .int .i64 0] 52) = w7 := ⟨_, rfl⟩
          rw [hw7]
          have hbw : Below w5.heap.size w5 w7 := by rw [← hw7]; exact (Below.refl _ _).alloc (Nat.le_refl _) _
          have HK7 : Hid (Blk w7 w5.heap.size 52 #[.int .i64 2, .string S, .int .i64 0, .int .i64 0]) := keepHid (by rw [← hw7]; exact Blk.new w5 _ _)
          have HK7r := keepHid (HK5.out.below hbw HK5.out.lt)
          have HB7 := keepHid (HB5.out.trans (hbw.mono HB5.out.size))
          have HL6 : Hid (w.heap.size < w5.heap.size) := keepHid HK5.out.lt
          clear hw7 hbw HK5 HB5
          generalize w5.heap.size = g2 at *
          obtain ⟨a0, a1, a2, a3, af⟩ := blk4 HK7.out
          go_upto_region 10 with (fail)
          obtain ⟨w8, hw8⟩ : ∃ w8, w7.setCell ⟨g2, 2, none⟩ (.int .i64 V) = w8 := ⟨_, rfl⟩
          rw [hw8]
          have HK8 : Hid (Blk w8 g2 52 #[.int .i64 2, .string S, .int .i64 V, .int .i64 0]) := keepHid (by rw [← hw8]; exact HK7.out.put 2 _)
          have HK8r : Hid (Blk w8 w.heap.size 52 #[.int .i64 0, .string ⟨#[]⟩, .int .i64 0, .int .i64 0]) := keepHid (by rw [← hw8]; exact HK7r.out.far (p := ⟨g2, 2, none⟩) (by have := HL6.out; show _ ≠ g2; omega) _)
          have HB8 : Hid (Below w.heap.size w w8) := keepHid (by rw [← hw8]; exact HB7.out.setCell (Nat.le_of_lt HL6.out) _)
          clear hw8 a0 a1 a2 a3 af HK7 HK7r HB7
          obtain ⟨a0, a1, a2, a3, af⟩ := blk4 HK8.out
          obtain ⟨b0, b1, b2, b3, bf⟩ := blk4 HK8r.out
          go_wp2
          refine bodyPost_ret (tok_res rfl _ _ w.heap.size 2 S V 0 (put4 HK8r.out) rfl _ rfl) rfl ?_
          exact ⟨by rw [HV.out]; rfl, set4 HB8.out (Nat.le_refl _) _ _ _ _⟩
        · have HBAD : Hid (numBad l = true) := keepHid (HOK.out.trans HLA.out)
          go_wp2_with (refine (HH.out _).mono ?_; rintro e w' ⟨rfl, rfl⟩)
          refine bodyPost_ret (tok_res rfl _ _ w.heap.size 0 ⟨#[]⟩ 0 0 (put4 HK3.out) rfl _ rfl) rfl ?_
          exact ⟨by rw [num_bad HBAD.out]; rfl, set4 HB3.out (Nat.le_refl _) _ _ _ _⟩
      · have hi1 : (M : Int) ≤ (2 + (N : Int)) := by omega
        have HGOOD : Hid (numBad l = false) := keepHid (HOK.out.trans (let_at_ge (by rw [HM.out]; exact hlt)))
        have HV := keepHid (HVAL.out S HS.out HGOOD.out _ rfl)
        clear HVAL HGOOD
        go_wp2_with (fail)
        refine (HP.out _).mono ?_
        rintro e w5 ⟨rfl, hb5⟩
        have HK5 := keepHid (HK3.out.below hb5 HK3.out.lt)
        have HB5 := keepHid (HB3.out.trans (hb5.mono HB3.out.size))
        clear hb5 HP
        go_upto_region 9 with (fail)
        obtain ⟨w7, hw7⟩ : ∃ w7, w5.alloc (.cells #[.int .i64 2, .string S, .int .i64 0, .int .i64 0] 52) = w7 := ⟨_, rfl⟩
        rw [hw7]
        have hbw : Below w5.heap.size w5 w7 := by rw [← hw7]; exact (Below.refl _ _).alloc (Nat.le_refl _) _
        have HK7 : Hid (Blk w7 w5.heap.size 52 #[.int .i64 2, .string S, .int .i64 0, .int .i64 0]) := keepHid (by rw [← hw7]; exact Blk.new w5 _ _)
        have HK7r := keepHid (HK5.out.below hbw HK5.out.lt)
        have HB7 := keepHid (HB5.out.trans (hbw.mono HB5.out.size))
        have HL6 : Hid (w.heap.size < w5.heap.size) := keepHid HK5.out.lt
        clear hw7 hbw HK5 HB5
        generalize w5.heap.size = g2 at *
        obtain ⟨a0, a1, a2, a3, af⟩ := blk4 HK7.out
        go_upto_region 10 with (fail)
        obtain ⟨w8, hw8⟩ : ∃ w8, w7.setCell ⟨g2, 2, none⟩ (.int .i64 V) = w8 := ⟨_, rfl⟩
        rw [hw8]
        have HK8 : Hid (Blk w8 g2 52 #[.int .i64 2, .string S, .int .i64 V, .int .i64 0]) := keepHid (by rw [← hw8]; exact HK7.out.put 2 _)
        have HK8r : Hid (Blk w8 w.heap.size 52 #[.int .i64 0, .string ⟨#[]⟩, .int .i64 0, .int .i64 0]) := keepHid (by rw [← hw8]; exact HK7r.out.far (p := ⟨g2, 2, none⟩) (by have := HL6.out; show _ ≠ g2; omega) _)
        have HB8 : Hid (Below w.heap.size w w8) := keepHid (by rw [← hw8]; exact HB7.out.setCell (Nat.le_of_lt HL6.out) _)
        clear hw8 a0 a1 a2 a3 af HK7 HK7r HB7
        obtain ⟨a0, a1, a2, a3, af⟩ := blk4 HK8.out
        obtain ⟨b0, b1, b2, b3, bf⟩ := blk4 HK8r.out
        go_wp2
        refine bodyPost_ret (tok_res rfl _ _ w.heap.size 2 S V 0 (put4 HK8r.out) rfl _ rfl) rfl ?_
        exact ⟨by rw [HV.out]; rfl, set4 HB8.out (Nat.le_refl _) _ _ _ _⟩
  · have HBAD : Hid (numBad l = true) := keepHid (by
      rw [HNB.out]
      rcases hbad with h | h
      · rw [h]; rfl
      · rw [decide_eq_true h]; simp)
    clear HHD HNB HVAL hbad
    go_wp2
    refine bodyPost_ret (tok_res rfl _ _ w.heap.size 0 ⟨#[]⟩ 0 0 (put4 HK3.out) rfl _ rfl) rfl ?_
    exact ⟨by rw [num_bad HBAD.out]; rfl, set4 HB3.out (Nat.le_refl _) _ _ _ _⟩
end Go.Proofs.YtkhhcclomjfliaaGreatDoor
