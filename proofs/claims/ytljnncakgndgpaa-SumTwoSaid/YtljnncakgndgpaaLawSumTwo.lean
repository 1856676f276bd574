/-
  'lifelinelaw01.SumTwo' answers true for every input, and leaves its arguments as they were.
  Conditions: none but what the row itself says of its arguments (how much memory each may take).
-/
import Derived.Test.YtljnncakgndgpaaRows
import Derived.Test.YtljnncakgndgpaaSumA
import Derived.Test.YtljnncakgndgpaaFrame
import Derived.WalkKit
import Derived.ProofKit
import Derived.OpenShut
import Derived.ShutString
import Derived.ChangeOld
import Derived.Below
namespace Go.Proofs.Ytljnncakgndgpaa.sumTwo
open Go.ChangeShapes Go.WideShapes Go.ChangeAt Go.RowKit
open Go.ChangeMaps (open_string shut_string)
set_option linter.unusedVariables false

theorem own : ownKnob Try.prog.godebug = none := by kernel_rfl
theorem laidOut : laidOutB Try.prog = true := by kernel_rfl

theorem info8 : (Try.prog.info? 5).map (fun i => (i.zero, i.size, i.bytes)) = some (some (.int .u8 0), 1, 1) := by kernel_rfl

/-- What has been filled so far. -/
def fillAt (xs : List UInt8) (k : Nat) : List UInt8 := xs.take k ++ List.replicate (xs.length - k) 0
theorem fill_len (xs : List UInt8) (k : Nat) (hk : k ≤ xs.length) : (fillAt xs k).length = xs.length := by simp [fillAt]; omega
theorem fill_zero (xs : List UInt8) : fillAt xs 0 = List.replicate xs.length 0 := by simp [fillAt]
theorem fill_all (xs : List UInt8) : fillAt xs xs.length = xs := by simp [fillAt]
theorem fill_next (xs : List UInt8) (k : Nat) (x : UInt8) (h : xs[k]? = some x) : (fillAt xs k).set k x = fillAt xs (k + 1) := by
  have hk : k < xs.length := by
    rcases Nat.lt_or_ge k xs.length with hl | hl
    · exact hl
    · rw [List.getElem?_eq_none hl] at h; cases h
  have hx : xs[k] = x := by rw [List.getElem?_eq_getElem hk] at h; exact Option.some.inj h
  obtain ⟨m, hm⟩ : ∃ m, xs.length - k = m + 1 := ⟨xs.length - k - 1, by omega⟩
  have hm2 : xs.length - (k + 1) = m := by omega
  have hl : (xs.take k).length = k := by rw [List.length_take]; omega
  unfold fillAt
  rw [hm, hm2, List.replicate_succ, List.take_succ_eq_append_getElem hk, hx, List.append_assoc, List.set_append_right _ _ (by omega), hl]
  simp
theorem fill_get (xs : List UInt8) (k : Nat) (hk : k < xs.length) : (fillAt xs k)[k]? = some 0 := by
  unfold fillAt
  have hl : (xs.take k).length = k := by rw [List.length_take]; omega
  rw [List.getElem?_append_right (by omega), hl, Nat.sub_self, List.getElem?_replicate, if_pos (by omega)]
theorem zip_get {us bs : List UInt8} {k : Nat} {a b : UInt8} (ha : us[k]? = some a) (hb : bs[k]? = some b) : (List.zipWith (· ^^^ ·) us bs)[k]? = some (a ^^^ b) := by
  rw [List.getElem?_zipWith, ha, hb]

theorem walk (a0 : Option Addr) (n0 c0 : Nat) (b0 : List UInt8) (a1 : Option Addr) (n1 c1 : Nat) (b1 : List UInt8) (w : World) (h0 : Bys w w.heap.size a0 n0 b0) (l0 : n0 ≤ c0) (s0 : c0 ≤ 140737488351232) (h1 : Bys w w.heap.size a1 n1 b1) (l1 : n1 ≤ c1) (s1 : c1 ≤ 140737488351232) :
    Calls Try.prog 8 #[.slice a0 n0 c0, .slice a1 n1 c1] w fun e w' => e = .returned (.bool true) ∧ Below w.heap.size w w' := by
  have H0 := keepHid h0
  have H1 := keepHid h1
  clear h0 h1
  go_enter Try.func8, Try.ntmps8
  go_wp2_with fail
  refine (awake_any _).mono ?_
  rintro e w1 ⟨rfl, hb⟩
  have HB := keepHid hb
  clear hb
  have hgw : w.heap.size ≤ w1.heap.size := HB.out.size
  obtain ⟨i0, hi, hz0, hz1, hz2⟩ := info_parts info8
  have HI := keepHid hi
  have HZ0 := keepHid hz0
  have HZ1 := keepHid hz1
  have HZ2 := keepHid hz2
  clear hi hz0 hz1 hz2
  have two : (∃ n, n = n1 ∧ n1 < n0) ∨ (∃ n, n = n0 ∧ n0 ≤ n1) := by
    by_cases h : n1 < n0
    · exact .inl ⟨_, rfl, h⟩
    · exact .inr ⟨_, rfl, by omega⟩
  rcases two with ⟨n, rfl, hn0⟩ | ⟨n, rfl, hn0⟩
  have HK : Hid (∀ k : Nat, k < n → (k : Int) < (n0 : Int)) := keepHid fun k hk => by omega
  rotate_left
  have HK : Hid (∀ k : Nat, k < n → (k : Int) < (n1 : Int)) := keepHid fun k hk => by omega
  all_goals
    have H0' := keepHid (H0.out.head (k := n) (by omega))
    have H1' := keepHid (H1.out.head (k := n) (by omega))
    obtain ⟨xs, hxs⟩ : ∃ xs, xs = List.zipWith (· ^^^ ·) (b0.take n) (b1.take n) := ⟨_, rfl⟩
    have hxl : xs.length = n := by rw [hxs, List.length_zipWith, H0'.out.len, H1'.out.len]; omega
    have HXS := keepHid hxs
    have HXL := keepHid hxl
    clear hxs hxl
    go_wp2_with (refine wpList_make_full _ rfl (.tmp 15) (.tmp 15) 22 rfl w.heap.size 5 i0 (.int .u8 0) 1 Try.underlying22 HI.out HZ0.out HZ1.out .i64 .i64 (n : Int) (n : Int) n rfl rfl rfl rfl ?c1 ?c2 hgw ?_)
    case c1 => rw [HZ2.out]; omega
    case c2 => unfold maxLen; omega
    intro w2 hown hg
    have hm0 : (madeCells #[Value.int .u8 0] n).toList = (fillAt xs 0).map byteV := by
      rw [fill_zero, HXL.out, toList_madeCells_one, List.map_replicate]; rfl
    rw [hm0] at hown
    have hb2 : Below w.heap.size w w2 := HB.out.grown hg hgw (fun j hj => by cases hj)
    have HO2 := keepHid hown
    have HB2 := keepHid hb2
    clear hm0 hown hg hb2
    go_wp2
    go_loopw [19] (fun i wr => ∃ k : Nat, k ≤ n ∧ i = .int .i64 k ∧ wr.ownsRow w.heap.size 5 1 (.slice (some ⟨w1.heap.size, 0, none⟩) n n) n ((fillAt xs k).map byteV) ∧ Below w.heap.size w wr) (fun i _ => n - (intOf i).toNat)
    case atStart => exact ⟨0, Nat.zero_le _, rfl, HO2.out, HB2.out⟩
    case round =>
      obtain ⟨k, hk, rfl, hown, hbel⟩ := hrel
      by_cases hlt : k < n
      · obtain ⟨ad0, x0, rfl, _, hx0, hc0⟩ := (H0'.out.below hbel).at_ hlt
        obtain ⟨ad1, x1, rfl, _, hx1, hc1⟩ := (H1'.out.below hbel).at_ hlt
        have HX := keepHid (zip_get hx0 hx1)
        have hcell : wr.cell? ⟨w1.heap.size, k, none⟩ = some (.int .u8 0) := by
          have h := hown.cells rfl k (byteV 0) (by rw [List.getElem?_map, fill_get xs k (by rw [HXL.out]; exact hlt)]; rfl)
          have e : (⟨w1.heap.size, 0, none⟩ : Addr).add k = ⟨w1.heap.size, k, none⟩ := by unfold Addr.add; split <;> simp_all
          rw [e] at h
          exact h
        have hfro : wr.frozen? ⟨w1.heap.size, k, none⟩ = false := hown.frozenAt k
        have hxor : bits .xor .u8 (x0.toNat : Int) (x1.toNat : Int) = ((x0 ^^^ x1).toNat : Int) := by rw [xor8 rfl rfl (u8lt x0) (u8lt x1), UInt8.toNat_xor]
        have hk0 := HK.out k hlt
        have hk1 : (k : Int) < (n : Int) := by omega
        have HO := keepHid hown
        have HBl := keepHid hbel
        clear hx0 hx1 hown hbel
        go_wp2
        go_region
        all_goals
          go_wp2
          go_roundw
          case rel =>
            refine ⟨k + 1, by omega, by go_num, ?_, ?_⟩
            · have h := (HO.out.stored k (byteV (x0 ^^^ x1))).1
              rw [← List.map_set, fill_next xs k _ (by rw [HXS.out]; exact HX.out)] at h
              exact h
            · exact (HBl.out.setCell (p := ⟨w1.heap.size, k, none⟩) hgw _).drew
          case measure => simp [intOf]; omega
      · have hkn : n ≤ k := by omega
        have e : fillAt xs k = xs := by rw [show k = xs.length by rw [HXL.out]; omega, fill_all]
        rw [e] at hown
        have hc := bys_of_own hown (by unfold maxLen; omega)
        have HC := keepHid hc
        have h0r := keepHid (H0'.out.below hbel)
        have h1r := keepHid (H1'.out.below hbel)
        have HBl := keepHid hbel
        clear e hown hc hbel
        go_wp2
        go_quiet ((go_at_call 12; first
          | (with_reducible exact quietL (crc_any _ _ _ _ _ _ (HC.out.drewN _)))
          | (with_reducible exact quietL (crc_any _ _ _ _ _ _ (h0r.out.drewN _)))
          | (with_reducible exact quietL (crc_any _ _ _ _ _ _ (h1r.out.drewN _)))))
        go_wp2
        have heq : ((crcL xs : Int) == bits .xor .u16 (crcL (b0.take n) : Int) (crcL (b1.take n) : Int)) = true := by
          rw [xor16 rfl rfl (crc_lt _) (crc_lt _), HXS.out, crc_two _ _ (by rw [H0'.out.len, H1'.out.len])]
          simp
        go_ret
        refine ⟨congrArg (fun b => Ending.returned (.bool b)) heq, ?_⟩
        have hb := HBl.out
        exact ⟨hb.os, hb.tape, hb.output, hb.size, hb.block⟩

set_option maxRecDepth 100000 in
theorem lifted (os : Os) (started : os.Started) (H : Type) (enc : TypeId × Value → H) :
    ReturnsInHanded {} Try.checked os 8 .any (Rows.sumTwoSpec.pre6 enc Try.prog Try.f8 Rows.sumTwoRow.domain false) (Rows.sumTwoSpec.post enc Try.prog Try.f8 false true false false) := by
  refine returnsInHanded_of_change_sized (C := Try.checked) own started (by kernel_rfl) Try.func8
    (ChangeSpec.witness6 (enc := enc) (C := Try.checked) false ⟨#[], #[.slice none 0 0, .slice none 0 0], []⟩ 8 (by kernel_rfl) (by kernel_rfl) (by kernel_rfl) (by kernel_rfl)) ?_
  intro W base args ds gs before hval0 hW hcnd hsz0 _
  have hsz : (DataW.weightsEach Try.prog (Try.f8.params.toList ++ Rows.sumTwoSpec.plain.varTypes Try.prog) (ds ++ gs)).all (· ≤ reachBytes) = true := hsz0
  clear hsz0
  have hval : ∀ (j : Nat) t v, Try.f8.params[j]? = some t → args[j]? = some v → Value.okWide Try.prog W .any base t v := hval0
  have hW' := hW
  obtain ⟨p, q, hA0, hV, rfl, hfz, hnd⟩ := hW
  have hA : DataW.TrodAll enc Try.prog W 0 (fun _ => true) true Try.f8.params.toList args.toList ds p := hA0
  rw [Try.params8] at hA hval hsz
  obtain ⟨v0, vs0, d0, ds0, p0, q0, hargs, rfl, rfl, h0, r0⟩ := trodAll_cons hA
  obtain ⟨v1, vs1, d1, ds1, p1, q1, rfl, rfl, rfl, h1, r1⟩ := trodAll_cons r0
  obtain ⟨rfl, rfl, rfl⟩ := trodAll_nil r1
  obtain rfl : args = #[v0, v1] := by cases args; simp_all
  obtain ⟨rfl, rfl⟩ := trodVars_none hV
  have k0 := h0
  have lt0 : ∀ x ∈ p0, x.block < W.heap.size := by obtain ⟨m, hm⟩ := k0; exact DataW.trod_lt m _ _ _ hm
  have k1 := h1
  have lt1 : ∀ x ∈ p1, x.block < W.heap.size := by obtain ⟨m, hm⟩ := k1; exact DataW.trod_lt m _ _ _ hm
  obtain ⟨a0, n0, c0, b0, rfl, w0, l0, s0⟩ := open_bys Try.underlying22 Try.underlying5 (by kernel_rfl) (by kernel_rfl) (hval 0 22 v0 rfl rfl) (fun _ => rfl) h0 (fun el sp hd => sized_slice hsz (j := 0) (t := 22) (e := 5) rfl (by rw [hd]; rfl) Try.underlying22)
  obtain ⟨a1, n1, c1, b1, rfl, w1, l1, s1⟩ := open_bys Try.underlying22 Try.underlying5 (by kernel_rfl) (by kernel_rfl) (hval 1 22 v1 rfl rfl) (fun _ => rfl) h1 (fun el sp hd => sized_slice hsz (j := 1) (t := 22) (e := 5) rfl (by rw [hd]; rfl) Try.underlying22)
  clear hA0 hval0
  refine (walk a0 n0 c0 b0 a1 n1 c1 b1 W w0 l0 s0 w1 l1 s1).mono fun e W' ⟨he, bel⟩ => ?_
  subst he
  exact ⟨_, rfl, _, _, _, [], _, [], hW', trodAll_mk1 (shut_bool Try.underlying4 _), (trodAll_cons_mk (Below.trod laidOut (by kernel_rfl) (of_decide_eq_true (by kernel_rfl)) k0 bel lt0) (trodAll_cons_mk (Below.trod laidOut (by kernel_rfl) (of_decide_eq_true (by kernel_rfl)) k1 bel lt1) trodAll_mk0)), rfl, bel.frame _, fun h => by cases h⟩

theorem over : Rows.sumTwoRow.holds Try.pinned (OpenSpec.ofChange Rows.sumTwoSpec) :=
  OpenClaim.holds_of_wide 8 Try.f8 rfl rfl rfl rfl rfl rfl rfl ⟨rfl, rfl, rfl, rfl, rfl⟩ rfl rfl rfl rfl rfl (by kernel_rfl) Try.func8 (by kernel_rfl)
    (of_decide_eq_true (by kernel_rfl)) (by unfold Func.isWrapper; first | (rw [if_pos (by decide +kernel)]; kernel_rfl) | (rw [if_neg (by decide +kernel)]; exact ⟨rfl, rfl⟩))
    (fun os started H enc _ => lifted os started H enc)

theorem proved : Rows.SumTwoSaid := over
end Go.Proofs.Ytljnncakgndgpaa.sumTwo
