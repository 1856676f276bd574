/-
  The law's own text of a manifest: its numbers in a base, its lines.
-/
import Derived.Test.YtkhhcclomjfliaaDoorManifestText
namespace Go.Proofs.YtkhhcclomjfliaaDoor
open Go.RowKit
set_option linter.unusedVariables false

theorem hexd_at {n : Nat} (h : n < 16) : hexL[n]? = some (chr n) := by
  have hl : n < hexL.length := h
  unfold chr
  rw [List.getD_eq_getElem?_getD, List.getElem?_eq_getElem hl]; rfl
set_option maxRecDepth 100000 in
set_option maxHeartbeats 4000000 in
theorem ldig_any (b : Nat) (hb : Base b) : ∀ (n : Nat), n ≤ 9223372036854775807 → ∀ w : World,
    Calls Tryd.prog 25 #[.int .i64 (n : Int), .int .i64 (b : Int)] w fun e w' => e = .returned (.string (strB (digL b n))) ∧ Below w.heap.size w w' := by
  intro n
  induction n using Nat.strongRecOn with
  | _ n ih =>
    intro hn w
    have h2 := hb.two
    have hb16 : (b : Int) ≤ 16 := by omega
    have hb2 : (2 : Int) ≤ (b : Int) := by omega
    have hn0 : ¬ (n : Int) < 0 := by omega
    by_cases hlt : n < b
    · have hcut : ∀ w, (Instr.slice 9 (.string ⟨#[48, 49, 50, 51, 52, 53, 54, 55, 56, 57, 97, 98, 99, 100, 101, 102]⟩) (some (.int .i64 (n : Int))) (some (.int .i64 ((n : Int) + 1))) none).run Tryd.prog w = .ok (.string (strB [chr n])) w := fun w => by
        have h := run_mid (l := hexL) (i := n) (j := n + 1) (by omega) (by show n + 1 ≤ 16; omega) .i64 .i64 (n : Int) ((n : Int) + 1) rfl (by omega) w
        have e : (hexL.drop n).take (n + 1 - n) = [chr n] := by
          have hl : n < hexL.length := by show n < 16; omega
          rw [List.drop_eq_getElem_cons hl, show n + 1 - n = 1 by omega]
          have := hexd_at (n := n) (by omega)
          rw [List.getElem?_eq_getElem hl] at this
          simp [Option.some.inj this]
        rw [e] at h
        exact h
      have hlt' : (n : Int) < (b : Int) := by omega
      have HD := keepHid (digL_lt hlt)
      clear ih hn
      go_enter Tryd.func25, Tryd.ntmps25
      go_wp2
      go_ret
      exact ⟨by rw [HD.out]; rfl, Below.refl _ _⟩
    · have hge : ¬ (n : Int) < (b : Int) := by omega
      have H1 := keepHid (ih (n / b) (Nat.div_lt_self (by omega) (by omega)) (Nat.le_trans (Nat.div_le_self _ _) hn))
      have hm : n % b < b := Nat.mod_lt _ (by omega)
      have H2 := keepHid (ih (n % b) (by omega) (by omega))
      have HL : Hid ((digL b (n / b)).length + (digL b (n % b)).length ≤ 1000) := keepHid (by
        have hp : (2 : Nat) ^ (63 + 1) ≤ b ^ (63 + 1) := Nat.pow_le_pow_left h2.1 _
        have hq : (2 : Nat) ^ (63 + 1) = 18446744073709551616 := by decide
        have h1 := digL_len h2.1 (n / b) 63 (Nat.lt_of_lt_of_le (by have : n / b ≤ n := Nat.div_le_self _ _; omega) hp)
        have h3 := digL_len h2.1 (n % b) 63 (Nat.lt_of_lt_of_le (by omega) hp)
        omega)
      have hadd : ∀ w, (Op.stringOp .add (strB (digL b (n / b))) (strB (digL b (n % b)))).run Tryd.prog w = .ok (.string (strB (digL b (n / b) ++ digL b (n % b)))) w := fun w => run_strAdd _ _ (by have := HL.out; omega) w
      have HD : Hid (digL b n = digL b (n / b) ++ digL b (n % b)) := keepHid (by rw [digL_ge (by omega) h2.1, digL_lt hm])
      have hb0 : ((b : Int) == 0) = false := by simp; omega
      have hbm : ((b : Int) == -1) = false := by simp <;> omega
      have HNN := keepHid hn
      have hqe : ((n / b : Nat) : Int) = (n : Int) / (b : Int) := rfl
      have hre : ((n % b : Nat) : Int) = (n : Int) % (b : Int) := rfl
      have hq : Int.tdiv (n : Int) (b : Int) = ((n / b : Nat) : Int) := by rw [Int.tdiv_eq_ediv_of_nonneg (by omega), hqe]
      have hr : Int.tmod (n : Int) (b : Int) = ((n % b : Nat) : Int) := by rw [Int.tmod_eq_emod_of_nonneg (by omega), hre]
      have hqw : IntKind.i64.wrap ((n / b : Nat) : Int) = ((n / b : Nat) : Int) := by
        have : n / b ≤ n := Nat.div_le_self _ _
        generalize n / b = x at *
        rw [IntKind.wrap_i64]; omega
      obtain ⟨q, hqq⟩ : ∃ q, n / b = q := ⟨_, rfl⟩
      obtain ⟨r, hrr⟩ : ∃ r, n % b = r := ⟨_, rfl⟩
      rw [hqq] at hq H1 HD hadd hqw hqe
      rw [hrr] at hr H2 HD hadd hm hre
      have hq2 := hqe.symm
      have hr2 := hre.symm
      clear hqq hrr ih HL hqe hre hn
      go_enter Tryd.func25, Tryd.ntmps25
      go_upto_region 5 with fail
      refine wp_region_quiet_below (by kernel_rfl) (by kernel_rfl) ?_
      repeat (go_big_quiet_step (first | (with_reducible exact Calls.regrown_of (H1.out _)) | (with_reducible exact Calls.regrown_of (H2.out _))))
      refine wpQuiet_nil ?_
      intro _ hw'
      obtain ⟨⟨dq, osq⟩, hw''⟩ := hw'
      subst hw''
      have hbr := below_regrown w dq osq
      go_wp2
      go_ret
      exact ⟨by rw [HD.out]; rfl, hbr⟩
theorem ldig_neg (b : Nat) (hb : Base b) (n : Int) (h : -1099511627776 ≤ n ∧ n < 0) (w : World) :
    Calls Tryd.prog 25 #[.int .i64 n, .int .i64 (b : Int)] w fun e w' => e = .returned (.string (strB (numL b n))) ∧ Below w.heap.size w w' := by
  obtain ⟨m, rfl⟩ : ∃ m : Nat, n = -(m : Int) := ⟨(-n).toNat, by omega⟩
  have H1 := keepHid (ldig_any b hb m (by omega))
  have HN : Hid (numL b (-(m : Int)) = 45 :: digL b m) := keepHid (by unfold numL; rw [if_pos h.2]; congr 2; omega)
  have hl : (digL b m).length ≤ 41 := digL_len hb.two.1 m 40 (by
    have hp : (2 : Nat) ^ (40 + 1) ≤ b ^ (40 + 1) := Nat.pow_le_pow_left hb.two.1 _
    have hq : (2 : Nat) ^ (40 + 1) = 2199023255552 := by decide
    omega)
  have hadd : ∀ w, (Op.stringOp .add ⟨#[45]⟩ (strB (digL b m))).run Tryd.prog w = .ok (.string (strB (45 :: digL b m))) w := fun w => run_strAdd [45] _ (by simp; omega) w
  have hneg : -(m : Int) < 0 := h.2
  have hnn : - -(m : Int) = (m : Int) := by omega
  have hm40 : (m : Int) ≤ 1099511627776 := by omega
  have HS : Hid (strB (numL b (-(m : Int))) = strB (45 :: digL b m)) := keepHid (by rw [HN.out])
  generalize strB (45 :: digL b m) = S1 at *
  generalize strB (digL b m) = S2 at *
  generalize strB (numL b (-(m : Int))) = S3 at *
  clear HN hl h
  generalize hM : -(m : Int) = M at *
  have hwr : IntKind.i64.wrap (m : Int) = (m : Int) := by rw [IntKind.wrap_i64]; omega
  clear hM hm40
  go_enter Tryd.func25, Tryd.ntmps25
  go_wp2_with fail
  refine (H1.out _).mono ?_
  rintro e w2 ⟨rfl, hb2⟩
  go_wp2
  go_ret
  exact ⟨by rw [HS.out]; rfl, hb2⟩
theorem lnum_any (b : Nat) (hb : Base b) (n : Int) (h : -1099511627776 ≤ n ∧ n ≤ 9223372036854775807) (w : World) :
    Calls Tryd.prog 25 #[.int .i64 n, .int .i64 (b : Int)] w fun e w' => e = .returned (.string (strB (numL b n))) ∧ Below w.heap.size w w' := by
  by_cases hn : n < 0
  · exact ldig_neg b hb n ⟨h.1, hn⟩ w
  · obtain ⟨m, rfl⟩ : ∃ m : Nat, n = (m : Int) := ⟨n.toNat, by omega⟩
    have e : numL b (m : Int) = digL b m := by unfold numL; rw [if_neg hn]; rfl
    rw [e]
    exact ldig_any b hb m (by omega) w
theorem lnum16 (n : Int) (h : -1099511627776 ≤ n ∧ n ≤ 9223372036854775807) (w : World) :
    Calls Tryd.prog 25 #[.int .i64 n, .int .i64 16] w fun e w' => e = .returned (.string (strB (numL 16 n))) ∧ Below w.heap.size w w' := lnum_any 16 (.inr rfl) n h w
theorem lnum10 (n : Int) (h : -1099511627776 ≤ n ∧ n ≤ 9223372036854775807) (w : World) :
    Calls Tryd.prog 25 #[.int .i64 n, .int .i64 10] w fun e w' => e = .returned (.string (strB (numL 10 n))) ∧ Below w.heap.size w w' := lnum_any 10 (.inl rfl) n h w
def lwV : Array Value := #[.string ⟨#[]⟩, .string (strB wCrc), .string (strB wLarge), .string (strB wBatch)]
theorem lw_at {w : World} {g : Nat} (h : Blk w g 9 lwV) {k : Nat} (h1 : 1 ≤ k) (h2 : k ≤ 3) : w.cell? ⟨g, k, none⟩ = some (.string (strB (wayL k))) := by
  rw [Blk.cell h]
  rcases (by omega : k = 1 ∨ k = 2 ∨ k = 3) with rfl | rfl | rfl <;> rfl
set_option maxRecDepth 100000 in
set_option maxHeartbeats 8000000 in
theorem ltext_any (es : List En) (A : Option Addr) (n c : Nat) (hF : ∀ e ∈ es, EnF e ∧ e.name.length ≤ 1048576 ∧ -1099511627776 ≤ e.addr ∧ -1099511627776 ≤ e.size) (ht : (textL es).length ≤ 70368744177664) (hn : n ≤ 9223372036854775807) (w : World) (hS : EnS w A n es) :
    Calls Tryd.prog 11 #[.slice A n c] w fun r w' => r = .returned (.string (strB (textL es))) ∧ Below w.heap.size w w' := by
  have HS := keepHid hS
  have HF := keepHid hF
  have HTL := keepHid ht
  have HN := keepHid hS.len
  clear hS hF ht
  go_enter Tryd.func11, Tryd.ntmps11
  go_wp2_with fail
  go_loopw [11, 3] (fun iv sv wr => ∃ k : Nat, k ≤ n ∧ iv = .int .i64 (k : Int) ∧ sv = .string (strB (textL (es.take k))) ∧ Hid (Below w.heap.size w wr)) (fun iv _ _ => n - (intOf iv).toNat)
  case atStart => exact ⟨0, Nat.zero_le _, rfl, rfl, keepHid (Below.refl _ _)⟩
  case round =>
    obtain ⟨k, hk, rfl, rfl, HB⟩ := hrel
    generalize wr = wq at *
    by_cases hlt : k < n
    · obtain ⟨e, he⟩ : ∃ e, es[k]? = some e := ⟨_, List.getElem?_eq_getElem (by rw [HN.out]; exact hlt)⟩
      obtain ⟨hf, hfn, hf1, hf2⟩ := HF.out e (List.mem_of_getElem? he)
      obtain ⟨ad, rfl, hadl, a0, a1, a2, a3, a4⟩ := (HS.out.below HB.out (Nat.le_refl _)).at_ he
      have HTK := keepHid (text_take he)
      obtain ⟨T, hT⟩ : ∃ T, textL (es.take k) = T := ⟨_, rfl⟩
      have hlen : T.length + (lineL e).length ≤ 70368744177664 := by
        have h1 := text_take_le es (k + 1)
        rw [HTK.out, List.length_append, hT] at h1
        have := HTL.out
        omega
      have hk' : (k : Int) < (n : Int) := by omega
      obtain ⟨bq, hbq⟩ := quoV_is e.name
      have HQ := keepHid (fun w => quote_any e.name hfn w)
      rw [hbq] at HQ
      have HD1 := keepHid (lnum16 e.addr ⟨hf1, hf.addr.2⟩)
      have HD2 := keepHid (lnum10 e.size ⟨hf2, hf.size.2⟩)
      have HD3 := keepHid (lnum16 e.print (by have := hf.print; omega))
      have hpw : IntKind.i64.wrap e.print = e.print := by rw [IntKind.wrap_i64]; have := hf.print; omega
      have HL : Hid (T ++ lineL e = T ++ cImg ++ quoE e.name ++ cAt ++ numL 16 e.addr ++ cSize ++ numL 10 e.size ++ cPrint ++ numL 16 e.print ++ cBy ++ wayL e.way ++ [59, 10]) := keepHid (by simp [lineL])
      have hlen2 : (T ++ cImg ++ quoE e.name ++ cAt ++ numL 16 e.addr ++ cSize ++ numL 10 e.size ++ cPrint ++ numL 16 e.print ++ cBy ++ wayL e.way ++ [59, 10]).length ≤ 70368744177664 := by rw [← HL.out, List.length_append]; exact hlen
      rw [hT] at HTK ⊢
      have HWL : Hid (¬ (0 < e.way ∧ e.way < 4) → wayL e.way = wCheck) := keepHid (fun h => by unfold wayL; rw [if_neg (by omega), if_neg (by omega), if_neg (by omega)])
      have HWK : Hid (∀ (w : World) (g : Nat), Blk w g 9 lwV → 0 < e.way → e.way < 4 → w.cell? ⟨g, e.way.toNat, none⟩ = some (.string (strB (wayL e.way)))) := keepHid (fun w g hb h1 h2 => by
        have h := lw_at hb (k := e.way.toNat) (by omega) (by omega)
        rw [show ((e.way.toNat : Nat) : Int) = e.way by omega] at h
        exact h)
      have HX : Hid (textL (es.take (k + 1)) = T ++ lineL e) := keepHid HTK.out
      clear he hf hfn hf1 hf2 hbq hlen hT HTK
      generalize T ++ lineL e = LN at *
      generalize strB e.name = NM at *
      generalize quoE e.name = Q at *
      generalize numL 16 e.addr = D1 at *
      generalize numL 10 e.size = D2 at *
      generalize numL 16 e.print = D3 at *
      generalize wayL e.way = D4 at *
      simp only [List.length_append, cImg, cAt, cSize, cPrint, cBy, List.length_cons, List.length_nil] at hlen2
      have k1 : ∀ w, (Op.stringOp .add (strB T) ⟨#[105, 109, 97, 103, 101, 32]⟩).run Tryd.prog w = .ok (.string (strB (T ++ cImg))) w := fun w => run_strAdd T cImg (by simp [cImg]; omega) w
      have k1b : ∀ w, (Op.stringOp .add (strB (T ++ cImg)) (strB Q)).run Tryd.prog w = .ok (.string (strB (T ++ cImg ++ Q))) w := fun w => run_strAdd _ Q (by simp [cImg]; omega) w
      have k2 : ∀ w, (Op.stringOp .add (strB (T ++ cImg ++ Q)) ⟨#[32, 97, 116, 32, 48, 120]⟩).run Tryd.prog w = .ok (.string (strB (T ++ cImg ++ Q ++ cAt))) w := fun w => run_strAdd _ cAt (by simp [cImg, cAt]; omega) w
      have k3 : ∀ w, (Op.stringOp .add (strB (T ++ cImg ++ Q ++ cAt)) (strB D1)).run Tryd.prog w = .ok (.string (strB (T ++ cImg ++ Q ++ cAt ++ D1))) w := fun w => run_strAdd _ D1 (by simp [cImg, cAt]; omega) w
      have k4 : ∀ w, (Op.stringOp .add (strB (T ++ cImg ++ Q ++ cAt ++ D1)) ⟨#[32, 115, 105, 122, 101, 32]⟩).run Tryd.prog w = .ok (.string (strB (T ++ cImg ++ Q ++ cAt ++ D1 ++ cSize))) w := fun w => run_strAdd _ cSize (by simp [cImg, cAt, cSize]; omega) w
      have k5 : ∀ w, (Op.stringOp .add (strB (T ++ cImg ++ Q ++ cAt ++ D1 ++ cSize)) (strB D2)).run Tryd.prog w = .ok (.string (strB (T ++ cImg ++ Q ++ cAt ++ D1 ++ cSize ++ D2))) w := fun w => run_strAdd _ D2 (by simp [cImg, cAt, cSize]; omega) w
      have k6 : ∀ w, (Op.stringOp .add (strB (T ++ cImg ++ Q ++ cAt ++ D1 ++ cSize ++ D2)) ⟨#[32, 112, 114, 105, 110, 116, 32, 48, 120]⟩).run Tryd.prog w = .ok (.string (strB (T ++ cImg ++ Q ++ cAt ++ D1 ++ cSize ++ D2 ++ cPrint))) w := fun w => run_strAdd _ cPrint (by simp [cImg, cAt, cSize, cPrint]; omega) w
      have k7 : ∀ w, (Op.stringOp .add (strB (T ++ cImg ++ Q ++ cAt ++ D1 ++ cSize ++ D2 ++ cPrint)) (strB D3)).run Tryd.prog w = .ok (.string (strB (T ++ cImg ++ Q ++ cAt ++ D1 ++ cSize ++ D2 ++ cPrint ++ D3))) w := fun w => run_strAdd _ D3 (by simp [cImg, cAt, cSize, cPrint]; omega) w
      have k8 : ∀ w, (Op.stringOp .add (strB (T ++ cImg ++ Q ++ cAt ++ D1 ++ cSize ++ D2 ++ cPrint ++ D3)) ⟨#[32, 98, 121, 32]⟩).run Tryd.prog w = .ok (.string (strB (T ++ cImg ++ Q ++ cAt ++ D1 ++ cSize ++ D2 ++ cPrint ++ D3 ++ cBy))) w := fun w => run_strAdd _ cBy (by simp [cImg, cAt, cSize, cPrint, cBy]; omega) w
      have k9 : ∀ w, (Op.stringOp .add (strB (T ++ cImg ++ Q ++ cAt ++ D1 ++ cSize ++ D2 ++ cPrint ++ D3 ++ cBy)) (strB D4)).run Tryd.prog w = .ok (.string (strB (T ++ cImg ++ Q ++ cAt ++ D1 ++ cSize ++ D2 ++ cPrint ++ D3 ++ cBy ++ D4))) w := fun w => run_strAdd _ D4 (by simp [cImg, cAt, cSize, cPrint, cBy]; omega) w
      have k10 : ∀ w, (Op.stringOp .add (strB (T ++ cImg ++ Q ++ cAt ++ D1 ++ cSize ++ D2 ++ cPrint ++ D3 ++ cBy ++ D4)) ⟨#[59, 10]⟩).run Tryd.prog w = .ok (.string (strB LN)) w := fun w => by rw [HL.out]; exact run_strAdd _ [59, 10] (by simp [cImg, cAt, cSize, cPrint, cBy]; omega) w
      generalize hSLN : strB LN = SLN at *
      have HSLN := keepHid hSLN
      generalize strB (T ++ cImg ++ Q ++ cAt ++ D1 ++ cSize ++ D2 ++ cPrint ++ D3 ++ cBy ++ D4) = S9 at *
      generalize strB (T ++ cImg ++ Q ++ cAt ++ D1 ++ cSize ++ D2 ++ cPrint ++ D3 ++ cBy) = S8 at *
      generalize strB (T ++ cImg ++ Q ++ cAt ++ D1 ++ cSize ++ D2 ++ cPrint ++ D3) = S7 at *
      generalize strB (T ++ cImg ++ Q ++ cAt ++ D1 ++ cSize ++ D2 ++ cPrint) = S6 at *
      generalize strB (T ++ cImg ++ Q ++ cAt ++ D1 ++ cSize ++ D2) = S5 at *
      generalize strB (T ++ cImg ++ Q ++ cAt ++ D1 ++ cSize) = S4 at *
      generalize strB (T ++ cImg ++ Q ++ cAt ++ D1) = S3 at *
      generalize strB (T ++ cImg ++ Q ++ cAt) = S2 at *
      generalize strB (T ++ cImg ++ Q) = S1 at *
      generalize strB (T ++ cImg) = S0 at *
      generalize strB T = ST at *
      generalize strB Q = SQ at *
      generalize strB D1 = E1 at *
      generalize strB D2 = E2 at *
      generalize strB D3 = E3 at *
      have HE4 : Hid (∃ E4, strB D4 = E4) := keepHid ⟨_, rfl⟩
      clear hSLN HL hlen2
      generalize e.addr = AD at *
      generalize e.size = SZ at *
      generalize e.print = PR at *
      generalize e.way = WY at *
      obtain ⟨w2, hw2⟩ : ∃ w2, wq.alloc (.cells #[.string NM, .int .i64 AD, .int .i64 SZ, .int .u32 PR, .int .i64 WY] 36) = w2 := ⟨_, rfl⟩
      have hK2 : Blk w2 wq.heap.size 36 #[.string NM, .int .i64 AD, .int .i64 SZ, .int .u32 PR, .int .i64 WY] := by rw [← hw2]; exact Blk.new wq _ _
      have hB2 : Below wq.heap.size wq w2 := by rw [← hw2]; exact (Below.refl _ _).alloc (Nat.le_refl _) _
      have HK2 := keepHid hK2
      have HB2 := keepHid (HB.out.trans (hB2.mono HB.out.size))
      clear hK2 hB2
      generalize hG : wq.heap.size = G at *
      have b4 : w2.cell? ⟨G, 4, none⟩ = some (.int .i64 WY) := HK2.out.cell 4
      by_cases hwy : 0 < WY ∧ WY < 4
      · obtain ⟨m, rfl, hm1, hm2⟩ : ∃ m : Nat, WY = (m : Int) ∧ 1 ≤ m ∧ m ≤ 3 := ⟨WY.toNat, by omega, by omega, by omega⟩
        obtain ⟨w3, hw3⟩ : ∃ w3, w2.alloc (.cells #[.string ⟨#[]⟩, .string ⟨#[99, 114, 99]⟩, .string ⟨#[108, 97, 114, 103, 101]⟩, .string ⟨#[98, 97, 116, 99, 104]⟩] 9) = w3 := ⟨_, rfl⟩
        have hL3 : Blk w3 w2.heap.size 9 lwV := by rw [← hw3]; exact Blk.new w2 _ _
        have hb3 : Below w2.heap.size w2 w3 := by rw [← hw3]; exact (Below.refl _ _).alloc (Nat.le_refl _) _
        have hc := HWK.out w3 _ hL3 hwy.1 hwy.2
        rw [show ((m : Int)).toNat = m by omega] at hc
        have HK3 := keepHid (HK2.out.below hb3 HK2.out.lt)
        have HB3 := keepHid (HB2.out.trans (hb3.mono HB2.out.size))
        have b0 : w3.cell? ⟨G, 0, none⟩ = some (.string NM) := HK3.out.cell 0
        have b42 : w3.cell? ⟨G, 4, none⟩ = some (.int .i64 (m : Int)) := HK3.out.cell 4
        have hwy1 : 0 < (m : Int) := hwy.1
        have hwy2 : (m : Int) < 4 := hwy.2
        generalize strB D4 = E4 at *
        clear hwy hL3 hb3 HWK HWL HE4
        go_wp2_with fail
        refine (HQ.out _).mono ?_
        rintro r w4 ⟨rfl, hb4⟩
        have hK4 := HK3.out.below hb4 HK3.out.lt
        have HB4 := keepHid (HB3.out.trans (hb4.mono HB3.out.size))
        have c1 := fun q os => cell_regrown (show w4.cell? ⟨G, 1, none⟩ = some (.int .i64 AD) from hK4.cell 1) q os
        have c2 := fun q os => cell_regrown (show w4.cell? ⟨G, 2, none⟩ = some (.int .i64 SZ) from hK4.cell 2) q os
        have c3 := fun q os => cell_regrown (show w4.cell? ⟨G, 3, none⟩ = some (.int .u32 PR) from hK4.cell 3) q os
        have C1 := keepHid (fun d os => Calls.regrown_of (HD1.out (Sort.grow (redrawn w4 d) os)))
        have C2 := keepHid (fun d os => Calls.regrown_of (HD2.out (Sort.grow (redrawn w4 d) os)))
        have C3 := keepHid (fun d os => Calls.regrown_of (HD3.out (Sort.grow (redrawn w4 d) os)))
        clear hb4 hK4 b0 b4 b42 HD1 HD2 HD3 HQ
        go_upto_region 9 with fail
        refine wp_region_quiet_below (by kernel_rfl) (by kernel_rfl) ?_
        repeat (go_big_quiet_step (first | (with_reducible exact C1.out _ _) | (with_reducible exact C2.out _ _) | (with_reducible exact C3.out _ _)))
        refine wpQuiet_nil ?_
        intro _ hw'
        obtain ⟨⟨dq, osq⟩, hw''⟩ := hw'
        subst hw''
        have HB5 := keepHid (HB4.out.trans ((below_regrown w4 dq osq).mono HB4.out.size))
        clear c1 c2 c3 C1 C2 C3
        go_wp2
        go_roundw
        case rel => exact ⟨k + 1, by omega, by go_num, by rw [HX.out, HSLN.out], HB5⟩
        case measure => simp [intOf]; omega
      · have hD4 := HWL.out hwy
        rw [hD4] at k9
        have k92 : ∀ w, (Op.stringOp .add S8 ⟨#[99, 104, 101, 99, 107]⟩).run Tryd.prog w = .ok (.string S9) w := k9
        have HK3 := HK2
        have HB3 := HB2
        have b0 : w2.cell? ⟨G, 0, none⟩ = some (.string NM) := HK2.out.cell 0
        have b42 := b4
        have hd : ¬ 0 < WY ∨ (0 < WY ∧ ¬ WY < 4) := by omega
        clear hwy HWK HWL HE4 hD4 k9
        rcases hd with hwy1 | ⟨hwy1, hwy2⟩
        all_goals
          go_wp2_with fail
          refine (HQ.out _).mono ?_
          rintro r w4 ⟨rfl, hb4⟩
          have hK4 := HK3.out.below hb4 HK3.out.lt
          have HB4 := keepHid (HB3.out.trans (hb4.mono HB3.out.size))
          have c1 := fun q os => cell_regrown (show w4.cell? ⟨G, 1, none⟩ = some (.int .i64 AD) from hK4.cell 1) q os
          have c2 := fun q os => cell_regrown (show w4.cell? ⟨G, 2, none⟩ = some (.int .i64 SZ) from hK4.cell 2) q os
          have c3 := fun q os => cell_regrown (show w4.cell? ⟨G, 3, none⟩ = some (.int .u32 PR) from hK4.cell 3) q os
          have C1 := keepHid (fun d os => Calls.regrown_of (HD1.out (Sort.grow (redrawn w4 d) os)))
          have C2 := keepHid (fun d os => Calls.regrown_of (HD2.out (Sort.grow (redrawn w4 d) os)))
          have C3 := keepHid (fun d os => Calls.regrown_of (HD3.out (Sort.grow (redrawn w4 d) os)))
          clear hb4 hK4 b0 b4 b42 HD1 HD2 HD3 HQ
          go_upto_region 9 with fail
          refine wp_region_quiet_below (by kernel_rfl) (by kernel_rfl) ?_
          repeat (go_big_quiet_step (first | (with_reducible exact C1.out _ _) | (with_reducible exact C2.out _ _) | (with_reducible exact C3.out _ _)))
          refine wpQuiet_nil ?_
          intro _ hw'
          obtain ⟨⟨dq, osq⟩, hw''⟩ := hw'
          subst hw''
          have HB5 := keepHid (HB4.out.trans ((below_regrown w4 dq osq).mono HB4.out.size))
          clear c1 c2 c3 C1 C2 C3
          go_wp2
          go_roundw
          case rel => exact ⟨k + 1, by omega, by go_num, by rw [HX.out, HSLN.out], HB5⟩
          case measure => simp [intOf]; omega
    · obtain rfl : k = n := by omega
      have hall : es.take k = es := List.take_of_length_le (by rw [HN.out]; exact Nat.le_refl _)
      rw [hall]
      go_wp2
      go_ret
      exact ⟨rfl, HB.out⟩
end Go.Proofs.YtkhhcclomjfliaaDoor
