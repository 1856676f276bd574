/-
  'lifelinelaw01.SumTurned' answers true for every input, and leaves its arguments as they were.
  Conditions: none but what the row itself says of its arguments (how much memory each may take).
-/
import Derived.Test.YtljnncakgndgpaaRows
import Derived.Test.YtljnncakgndgpaaSumA
import Derived.Test.YtljnncakgndgpaaFrame
import Derived.WalkKit
import Derived.ProofKit
import Derived.OpenShut
import Derived.ShutString
import Derived.ChangeOld
import Derived.Below
namespace Go.Proofs.Ytljnncakgndgpaa.sumTurned
open Go.ChangeShapes Go.WideShapes Go.ChangeAt Go.RowKit
open Go.ChangeMaps (open_string shut_string)
set_option linter.unusedVariables false

theorem own : ownKnob Try.prog.godebug = none := by kernel_rfl
theorem laidOut : laidOutB Try.prog = true := by kernel_rfl

theorem info8 : (Try.prog.info? 5).map (fun i => (i.zero, i.size, i.bytes)) = some (some (.int .u8 0), 1, 1) := by kernel_rfl

theorem walk_nil (a0 : Option Addr) (c0 : Nat) (x1 : Int) (x2 : Int) (w : World) (h0 : Bys w w.heap.size a0 0 []) :
    Calls Try.prog 7 #[.slice a0 0 c0, .int .u16 x1, .int .u8 x2] w fun e w' => e = .returned (.bool true) ∧ Below w.heap.size w w' := by
  go_enter Try.func7, Try.ntmps7
  go_wp2_with fail
  refine (awake_any _).mono ?_
  rintro e w1 ⟨rfl, hb⟩
  have H1 := keepHid (h0.below hb)
  have HB := keepHid hb
  clear h0 hb
  go_wp2_with fail
  refine (crc_any _ _ _ _ _ _ H1.out).mono ?_
  rintro e w' ⟨rfl, rfl⟩
  rw [show crcL [] = 0 from rfl]
  go_wp2_with fail
  refine (check_any _ _ _ _ _ _ H1.out).mono ?_
  rintro e w' ⟨rfl, rfl⟩
  rw [show chk [] = 0 from rfl]
  go_wp2
  go_ret
  exact ⟨rfl, HB.out⟩

/-- Behind the store: the four sums. -/
theorem eqb {a b : Nat} (h : a ≠ b) : ((a : Int) == (b : Int)) = false := by simp; omega

theorem walk (a0 : Option Addr) (n0 c0 : Nat) (b0 : List UInt8) (x1 : Int) (x2 : Int) (w : World) (h0 : Bys w w.heap.size a0 n0 b0) (l0 : n0 ≤ c0) (s0 : c0 ≤ 140737488351232) (h1 : 0 ≤ x1 ∧ x1 ≤ 65535) (h2 : 0 ≤ x2 ∧ x2 ≤ 255) :
    Calls Try.prog 7 #[.slice a0 n0 c0, .int .u16 x1, .int .u8 x2] w fun e w' => e = .returned (.bool true) ∧ Below w.heap.size w w' := by
  by_cases hn : n0 = 0
  · subst hn
    obtain rfl : b0 = [] := List.eq_nil_of_length_eq_zero h0.len
    exact walk_nil a0 c0 x1 x2 w h0
  obtain ⟨at_, rfl⟩ : ∃ m : Nat, x1 = (m : Int) := ⟨x1.toNat, by omega⟩
  obtain ⟨y, hy⟩ : ∃ y : UInt8, x2 = (y.toNat : Int) := ⟨UInt8.ofNat x2.toNat, by rw [UInt8.toNat_ofNat', Nat.mod_eq_of_lt (by omega)]; omega⟩
  subst hy
  have hk : at_ % n0 < n0 := Nat.mod_lt _ (by omega)
  obtain ⟨k, hkk⟩ : ∃ k, at_ % n0 = k := ⟨_, rfl⟩
  rw [hkk] at hk
  have hmod : (at_ : Int) % (n0 : Int) = (k : Int) := by rw [← hkk]; rfl
  obtain ⟨ad, c, rfl, _, hc, _⟩ := h0.at_ (k := k) hk
  have hpos : (0 : Int) < (n0 : Int) := by omega
  have hne : ((n0 : Int) == 0) = false := by simp; omega
  have hlen := keepHid h0.len
  have hB := h0
  have HB0 := keepHid h0
  obtain ⟨i0, hi, hz0, hz1, hz2⟩ := info_parts info8
  have HI := keepHid hi
  have HZ0 := keepHid hz0
  have HZ1 := keepHid hz1
  have HZ2 := keepHid hz2
  have HC := keepHid hc
  clear hkk hi hz0 hz1 hz2 hc
  go_enter Try.func7, Try.ntmps7
  go_wp2_with fail
  refine (awake_any _).mono ?_
  rintro e w1 ⟨rfl, hb⟩
  have h1 := hB.below hb
  have HB := keepHid hb
  clear h0 hb hB
  have H1 := keepHid h1
  clear h1
  go_wp2_with (at_builtin; refine wpList_append_own _ rfl (.const (.slice none 0 0)) (.tmp 22) 22 rfl w.heap.size 5 i0 (.int .u8 0) 1 1 Try.underlying22 HI.out HZ0.out HZ1.out HZ2.out rfl (by omega) (.slice none 0 0) 0 [] rfl (World.ownsRow_nil _ _ _ _) ad n0 c0 (b0.map byteV) rfl ?c1 ?c2 (byteV_one _) ?c3 ?c4 HB.out.size ?_)
  case c1 => rw [List.length_map, H1.out.len]; omega
  case c2 =>
    intro j u hu
    rw [List.getElem?_map] at hu
    obtain ⟨z, hz, rfl⟩ := Option.map_eq_some_iff.1 hu
    obtain ⟨ad', e, _, hcell⟩ := H1.out.2.2 j z hz
    injection e with e
    rw [e]
    exact hcell
  case c3 => unfold maxLen; omega
  case c4 => omega
  intro v w2 hown hg _
  obtain ⟨g, cap, hv, hgb, hgl, hnc, hcm⟩ := own_form hown (by omega)
  rw [hv] at hown ⊢
  have hb2 : Below w.heap.size w w2 := HB.out.grown hg HB.out.size (fun j hj => by simp [Value.ownBlock] at hj)
  have hcell : w2.cell? ⟨g, k, none⟩ = some (.int .u8 (c.toNat : Int)) := by
    have h := hown.cells rfl k (byteV c) (by rw [List.getElem?_map, HC.out]; rfl)
    have e : (⟨g, 0, none⟩ : Addr).add k = ⟨g, k, none⟩ := by unfold Addr.add; split <;> simp_all
    rw [e] at h
    exact h
  have hfro : w2.frozen? ⟨g, k, none⟩ = false := hown.frozenAt k
  have hb3 : Below w.heap.size w (w2.setCell ⟨g, k, none⟩ (.int .u8 ((c ^^^ y).toNat : Int))) := hb2.setCell hgb _
  have hown3 := (hown.stored k (byteV (c ^^^ y))).1
  rw [← List.map_set] at hown3
  have h3c : Bys (w2.setCell ⟨g, k, none⟩ (.int .u8 ((c ^^^ y).toNat : Int))) _ (some ⟨g, 0, none⟩) n0 (b0.set k (c ^^^ y)) := bys_of_own hown3 (by unfold maxLen; omega)
  have h3b := (HB0.out.below hb3)
  have H3B := keepHid h3b
  have H3C := keepHid h3c
  have HB3 := keepHid hb3
  have hxor : bits .xor .u8 (c.toNat : Int) (y.toNat : Int) = ((c ^^^ y).toNat : Int) := by rw [xor8 rfl rfl (u8lt c) (u8lt y), UInt8.toNat_xor]
  clear hv hown hg hb2 hb3 hown3 h3b h3c
  by_cases hy0 : y = 0
  · have e0 : (c ^^^ y) = c := by rw [hy0]; simp
    have eS : Hid (b0.set k (c ^^^ y) = b0) := keepHid (by
      rw [e0]
      obtain ⟨p1, p2⟩ := parts_of HC.out c
      rw [p2]; exact p1.symm)
    have hyz : ((y.toNat : Int) == 0) = true := by rw [hy0]; rfl
    clear hy0 e0
    go_wp2_with fail
    refine (crc_any _ _ _ _ _ _ H3B.out).mono ?_
    rintro e w' ⟨rfl, rfl⟩
    go_wp2_with fail
    refine (crc_any _ _ _ _ _ _ H3C.out).mono ?_
    rintro e w' ⟨rfl, rfl⟩
    rw [eS.out]
    go_wp2_with fail
    refine (check_any _ _ _ _ _ _ H3B.out).mono ?_
    rintro e w' ⟨rfl, rfl⟩
    go_wp2_with fail
    refine (check_any _ _ _ _ _ _ H3C.out).mono ?_
    rintro e w' ⟨rfl, rfl⟩
    rw [eS.out]
    go_wp2
    go_ret
    exact ⟨rfl, HB3.out⟩
  · have HX := keepHid (eqb (crc_turn HC.out (u8_xor_ne (c := c) hy0)))
    have HK := keepHid (eqb (chk_turn HC.out (u8_xor_ne (c := c) hy0)))
    have hyz : ((y.toNat : Int) == 0) = false := by
      have : y.toNat ≠ 0 := fun e => hy0 (UInt8.toNat_inj.1 (by simpa using e))
      simp; omega
    clear hy0
    go_wp2_with fail
    refine (crc_any _ _ _ _ _ _ H3B.out).mono ?_
    rintro e w' ⟨rfl, rfl⟩
    go_wp2_with fail
    refine (crc_any _ _ _ _ _ _ H3C.out).mono ?_
    rintro e w' ⟨rfl, rfl⟩
    have hx := HX.out
    go_wp2_with fail
    refine (check_any _ _ _ _ _ _ H3B.out).mono ?_
    rintro e w' ⟨rfl, rfl⟩
    go_wp2_with fail
    refine (check_any _ _ _ _ _ _ H3C.out).mono ?_
    rintro e w' ⟨rfl, rfl⟩
    have hk2 := HK.out
    go_wp2
    go_ret
    exact ⟨rfl, HB3.out⟩

set_option maxRecDepth 100000 in
theorem lifted (os : Os) (started : os.Started) (H : Type) (enc : TypeId × Value → H) :
    ReturnsInHanded {} Try.checked os 7 .any (Rows.sumTurnedSpec.pre6 enc Try.prog Try.f7 Rows.sumTurnedRow.domain false) (Rows.sumTurnedSpec.post enc Try.prog Try.f7 false true false false) := by
  refine returnsInHanded_of_change_sized (C := Try.checked) own started (by kernel_rfl) Try.func7
    (ChangeSpec.witness6 (enc := enc) (C := Try.checked) false ⟨#[], #[.slice none 0 0, .int .u16 0, .int .u8 0], []⟩ 8 (by kernel_rfl) (by kernel_rfl) (by kernel_rfl) (by kernel_rfl)) ?_
  intro W base args ds gs before hval0 hW hcnd hsz0 _
  have hsz : (DataW.weightsEach Try.prog (Try.f7.params.toList ++ Rows.sumTurnedSpec.plain.varTypes Try.prog) (ds ++ gs)).all (· ≤ reachBytes) = true := hsz0
  clear hsz0
  have hval : ∀ (j : Nat) t v, Try.f7.params[j]? = some t → args[j]? = some v → Value.okWide Try.prog W .any base t v := hval0
  have hW' := hW
  obtain ⟨p, q, hA0, hV, rfl, hfz, hnd⟩ := hW
  have hA : DataW.TrodAll enc Try.prog W 0 (fun _ => true) true Try.f7.params.toList args.toList ds p := hA0
  rw [Try.params7] at hA hval hsz
  obtain ⟨v0, vs0, d0, ds0, p0, q0, hargs, rfl, rfl, h0, r0⟩ := trodAll_cons hA
  obtain ⟨v1, vs1, d1, ds1, p1, q1, rfl, rfl, rfl, h1, r1⟩ := trodAll_cons r0
  obtain ⟨v2, vs2, d2, ds2, p2, q2, rfl, rfl, rfl, h2, r2⟩ := trodAll_cons r1
  obtain ⟨rfl, rfl, rfl⟩ := trodAll_nil r2
  obtain rfl : args = #[v0, v1, v2] := by cases args; simp_all
  obtain ⟨rfl, rfl⟩ := trodVars_none hV
  have k0 := h0
  have lt0 : ∀ x ∈ p0, x.block < W.heap.size := by obtain ⟨m, hm⟩ := k0; exact DataW.trod_lt m _ _ _ hm
  have k1 := h1
  have lt1 : ∀ x ∈ p1, x.block < W.heap.size := by obtain ⟨m, hm⟩ := k1; exact DataW.trod_lt m _ _ _ hm
  have k2 := h2
  have lt2 : ∀ x ∈ p2, x.block < W.heap.size := by obtain ⟨m, hm⟩ := k2; exact DataW.trod_lt m _ _ _ hm
  obtain ⟨a0, n0, c0, b0, rfl, w0, l0, s0⟩ := open_bys Try.underlying22 Try.underlying5 (by kernel_rfl) (by kernel_rfl) (hval 0 22 v0 rfl rfl) (fun _ => rfl) h0 (fun el sp hd => sized_slice hsz (j := 0) (t := 22) (e := 5) rfl (by rw [hd]; rfl) Try.underlying22)
  obtain ⟨x1, rfl, rfl, rfl, w1⟩ := open_int Try.underlying26 (hval 1 26 v1 rfl rfl) h1
  obtain ⟨x2, rfl, rfl, rfl, w2⟩ := open_int Try.underlying5 (hval 2 5 v2 rfl rfl) h2
  clear hA0 hval0
  refine (walk a0 n0 c0 b0 x1 x2 W w0 l0 s0 (wf_u16 w1) (wf_u8 w2)).mono fun e W' ⟨he, bel⟩ => ?_
  subst he
  exact ⟨_, rfl, _, _, _, [], _, [], hW', trodAll_mk1 (shut_bool Try.underlying4 _), (trodAll_cons_mk (Below.trod laidOut (by kernel_rfl) (of_decide_eq_true (by kernel_rfl)) k0 bel lt0) (trodAll_cons_mk (Below.trod laidOut (by kernel_rfl) (of_decide_eq_true (by kernel_rfl)) k1 bel lt1) (trodAll_cons_mk (Below.trod laidOut (by kernel_rfl) (of_decide_eq_true (by kernel_rfl)) k2 bel lt2) trodAll_mk0))), rfl, bel.frame _, fun h => by cases h⟩

theorem over : Rows.sumTurnedRow.holds Try.pinned (OpenSpec.ofChange Rows.sumTurnedSpec) :=
  OpenClaim.holds_of_wide 7 Try.f7 rfl rfl rfl rfl rfl rfl rfl ⟨rfl, rfl, rfl, rfl, rfl⟩ rfl rfl rfl rfl rfl (by kernel_rfl) Try.func7 (by kernel_rfl)
    (of_decide_eq_true (by kernel_rfl)) (by unfold Func.isWrapper; first | (rw [if_pos (by decide +kernel)]; kernel_rfl) | (rw [if_neg (by decide +kernel)]; exact ⟨rfl, rfl⟩))
    (fun os started H enc _ => lifted os started H enc)

theorem proved : Rows.SumTurnedSaid := over
end Go.Proofs.Ytljnncakgndgpaa.sumTurned
