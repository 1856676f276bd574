/-
  'lifelinelaw04.BlockBack' answers true for every input, and leaves its arguments as they were.
  Conditions: none but what the row itself says of its arguments (how much memory each may take).
-/
import Derived.Test.YtahlllkmjibbpaaRows
import Derived.Test.YtahlllkmjibbpaaBlockLaw
import Derived.Test.YtahlllkmjibbpaaFrame
import Derived.Test.YtahlllkmjibbpaaFrameRows
import Derived.Test.YtahlllkmjibbpaaBlockSame
import Derived.SizedLaws
import Derived.WalkKit
import Derived.Deep.RegionHeld3
import Derived.Deep.RegionWith
import Derived.Deep.DrawnRows
import Derived.ProofKit
import Derived.OpenShut
import Derived.ShutString
import Derived.ChangeOld
import Derived.Below
namespace Go.Proofs.Ytahlllkmjibbpaa.blockBack
open Go.ChangeShapes Go.WideShapes Go.ChangeAt Go.RowKit
open Go.ChangeMaps (open_string shut_string)
set_option linter.unusedVariables false

theorem own : ownKnob Try.prog.godebug = none := by kernel_rfl
theorem laidOut : laidOutB Try.prog = true := by kernel_rfl

/-- The blocks of the first k ones' data. -/
def Firsts (V : Nat → Value) (k : Nat) : Nat → Prop := fun b => ∃ i, i < k ∧ (V i).ownBlock = some b

set_option maxRecDepth 100000 in
set_option maxHeartbeats 8000000 in
theorem walk (a0 : Option Addr) (n0 c0 : Nat) (y0 : List (List UInt8)) (w : World) (h0 : RowsB w a0 n0 y0) (l0 : n0 ≤ c0) (s0 : c0 ≤ 9223372036854775807) (hn32 : n0 * 32 ≤ 281474976710656) (hl47 : ∀ bs ∈ y0, bs.length ≤ 140737488355328) :
    Calls Try.prog 9 #[.slice a0 n0 c0] w fun e w' => e = .returned (.bool true) ∧ Below w.heap.size w w' := by
  have H0 := keepHid h0
  have HL47 := keepHid hl47
  have hlen := h0.1
  have HLEN := keepHid hlen
  have hn63 : n0 ≤ 9223372036854775807 := by omega
  clear h0 hl47
  go_enter Try.func9, Try.ntmps9
  go_wp2_with fail
  refine (awake_any _).mono ?_
  rintro e w1 ⟨rfl, hb⟩
  have HB1 := keepHid hb
  have H1 := keepHid (rowsB_below H0.out hb)
  clear hb
  go_wp2_with fail
  refine (number_any _ n0 _ y0 _ H1.out hn32 HL47.out).mono ?_
  rintro e w2 ⟨g, cs, V, rfl, hg, hbk, hcs, hnum, hb2⟩
  rw [hlen] at hcs hnum ⊢
  have HK2 := keepHid hbk
  have HN2 := keepHid hnum
  have HB2 := keepHid hb2
  clear hbk hnum hlen hb2
  -- what holds as long as only the first ones' data turned
  have hst : ∀ (k : Nat) (wr : World), Turn (Firsts V k) w2 wr → k ≤ n0 → Blk wr g 28 cs ∧ RowsB wr a0 n0 y0 ∧ Below w.heap.size w wr ∧ (∀ (j : Nat) (bs : List UInt8), k ≤ j → j < n0 → y0[j]? = some bs → ∃ A c, V j = .slice A bs.length c ∧ cs[j * 2]? = some (.int .u8 (((j : Int) + 1) % 256)) ∧ cs[j * 2 + 1]? = some (.slice A bs.length c) ∧
      OwnB wr (g + 1) 5 (.slice A bs.length c) bs.length bs ∧ c ≤ 9223372036854775807) := by
    intro k wr ht hk
    have hge : ∀ b, Firsts V k b → g + 1 ≤ b := by
      rintro b ⟨i, hi, hb⟩
      obtain ⟨A, c, e1, _, _, e4, _⟩ := HN2.out i _ (by omega) (List.getElem?_eq_getElem (by rw [HLEN.out]; omega))
      rw [e1] at hb
      exact own_base e4 b hb
    have hbw : Below w1.heap.size w2 wr := ht.below (fun b hb => by have := hge b hb; omega) HB2.out.size
    have hb12 : Below w1.heap.size w1 wr := HB2.out.trans hbw
    refine ⟨ht.blk HK2.out (fun hh => by have := hge g hh; omega), rowsB_below H1.out hb12, HB1.out.trans (hb12.mono HB1.out.size), fun j bs hj hjn hr => ?_⟩
    obtain ⟨A, c, e1, e2, e3, e4, e5, e6, e7⟩ := HN2.out j bs hjn hr
    refine ⟨A, c, e1, e2, e3, e4.keep (fun b hb hlt => ht.block b hlt ?_), e6⟩
    rintro ⟨i, hi, hib⟩
    rw [← e1] at hb
    exact e7 i (by omega) b hb hib
  have HST := keepHid hst
  clear hst
  go_wp2
  go_loopw [19] (fun i wr => ∃ k : Nat, k ≤ n0 ∧ i = .int .i64 k ∧ Turn (Firsts V k) w2 wr) (fun i _ => n0 - (intOf i).toNat)
  case atStart => exact ⟨0, Nat.zero_le _, rfl, Turn.refl _ _⟩
  case round =>
    generalize wr = wq at *
    obtain ⟨k, hk, rfl, hturn⟩ := hrel
    have HT := keepHid hturn
    obtain ⟨hbk, hrows, hbel, hdat⟩ := HST.out k wq hturn hk
    by_cases hlt : k < n0
    · obtain ⟨bs, hrow⟩ : ∃ bs, y0[k]? = some bs := ⟨_, List.getElem?_eq_getElem (by rw [HLEN.out]; exact hlt)⟩
      obtain ⟨A, c, e1, e2, e3, e4, e6⟩ := hdat k bs (Nat.le_refl _) hlt hrow
      obtain ⟨ad, Bk, dk, hP, had, hc1, hld, hdm, hbz⟩ := hrows.2 k bs hrow
      subst hP
      have q0 : wq.cell? ⟨g, k * 2, none⟩ = some (.int .u8 (((k : Int) + 1) % 256)) := (hbk.cell (k * 2)).trans e2
      have q1 : wq.cell? ⟨g, k * 2 + 1, none⟩ = some (.slice A bs.length c) := (hbk.cell (k * 2 + 1)).trans e3
      have hbl := HL47.out bs (List.mem_of_getElem? hrow)
      have hcv1 : ∀ a, (convert 22 9 (.slice A bs.length c)).run Try.prog (wq.drewN a) = .ok (.string (strB bs)) (wq.drewN a) := fun a => run_str 22 5 9 Try.underlying22 Try.underlying5 Try.underlying9 ((e4.bys (by omega)).drewN a)
      have hcv2 : ∀ a, (convert 22 9 (.slice Bk bs.length dk)).run Try.prog (wq.drewN a) = .ok (.string (strB bs)) (wq.drewN a) := fun a => run_str 22 5 9 Try.underlying22 Try.underlying5 Try.underlying9 (hbz.drewN a)
      have hwr : IntKind.i64.wrap ((k : Int) + 1) = (k : Int) + 1 := IntWalk.i64_in _ (by omega)
      have hw8r : IntKind.u8.wrap (((k : Int) + 1) % 256) = ((k : Int) + 1) % 256 := by rw [IntKind.wrap_u8]; omega
      have HO := keepHid e4
      have HE1 := keepHid e1
      have HBK := keepHid hbk
      have HE3 := keepHid e3
      obtain ⟨nb, hnb⟩ : ∃ nb, bs.length = nb := ⟨_, rfl⟩
      rw [hnb] at q1 hbl hcv1 hcv2 hc1
      have HNB := keepHid hnb
      clear hturn hrows hbel hdat hrow e1 e2 e3 e4 hbz hbk hnb
      go_wp2
      go_quiet (fail)
      go_wp2
      have HT2 : Hid (Turn (Firsts V k) w2 (wq.drewN nq)) := keepHid (HT.out.drewN nq)
      have HO2 : Hid (OwnB (wq.drewN nq) (g + 1) 5 (.slice A nb c) nb bs) := keepHid (by have := HO.out.drewN nq; rw [HNB.out] at this; exact this)
      have HBK2 : Hid (Blk (wq.drewN nq) g 28 cs) := keepHid (HBK.out.drewN nq)
      have hve : V k = .slice A nb c := by rw [HE1.out, HNB.out]
      have HVE := keepHid hve
      have he3 : cs[k * 2 + 1]? = some (.slice A nb c) := by rw [HE3.out, HNB.out]
      have HE3' := keepHid he3
      clear hcv1 hcv2 q0 q1 hc1 hw8r HT HO HBK HE1 HE3 hld hve he3
      generalize wq.drewN nq = w4 at *
      go_loopw [52] (fun i wr => ∃ (j : Nat) (xs : List UInt8), j ≤ nb ∧ i = .int .i64 j ∧ OwnB wr (g + 1) 5 (.slice A nb c) nb xs ∧ Turn (fun b => (V k).ownBlock = some b) w4 wr) (fun i _ => nb - (intOf i).toNat)
      case atStart => exact ⟨0, bs, Nat.zero_le _, rfl, HO2.out, Turn.refl _ _⟩
      case round =>
        obtain ⟨j, xs, hj, rfl, ho, htu⟩ := hrel
        have HOj := keepHid ho
        have HTj := keepHid htu
        by_cases hjl : j < nb
        · obtain ⟨gx, cap, hv, hgx, hgl, _, _⟩ := ho.some_form (by omega)
          obtain rfl : A = some ⟨gx, 0, none⟩ := by injection hv
          obtain ⟨u, hu⟩ : ∃ u, xs[j]? = some u := ⟨_, List.getElem?_eq_getElem (by rw [ho.len]; exact hjl)⟩
          have hcell := ho.cell hu
          have hfz := ho.frozen j
          have hbk : Blk wr g 28 cs := htu.blk HBK2.out (by
            rw [HVE.out]
            intro hh
            have := own_base ho g hh
            omega)
          have q1 : wr.cell? ⟨g, k * 2 + 1, none⟩ = some (.slice (some ⟨gx, 0, none⟩) nb c) := (hbk.cell (k * 2 + 1)).trans HE3'.out
          have hul := u8lt u
          have hne1 : ¬ g = gx := by omega
          have hne2 : ¬ gx = g := by omega
          clear ho htu hv hu hbk
          go_wp2
          go_roundw
          case rel =>
            have e : ((u.toNat : Int) + 1) % 256 = ((u + 1).toNat : Int) := by
              rw [UInt8.toNat_add]
              show ((u.toNat : Int) + 1) % 256 = (((u.toNat + 1) % 2 ^ 8 : Nat) : Int)
              omega
            refine ⟨j + 1, xs.set j (u + 1), by omega, by go_num, ?_, ?_⟩
            · rw [e]; exact HOj.out.stored j (u + 1)
            · exact HTj.out.setCell (.inl (by rw [HVE.out]; rfl)) _
          case measure => simp [intOf]; omega
        · clear ho htu
          go_wp2
          go_roundw
          case rel =>
            refine ⟨k + 1, by omega, by go_num, (HT2.out.mono ?_).trans (HTj.out.mono ?_)⟩
            · rintro b ⟨i, hi, hb⟩; exact ⟨i, by omega, hb⟩
            · intro b hb; exact ⟨k, by omega, hb⟩
          case measure => simp [intOf]; omega
    · obtain rfl : k = n0 := by omega
      have HR9 := keepHid hrows
      have HB9 := keepHid hbel
      clear hturn hrows hbel hdat hbk
      go_wp2_with fail
      refine (number_any _ k _ y0 _ HR9.out hn32 HL47.out).mono ?_
      rintro e w5 ⟨g5, cs5, V5, rfl, hg5, hbk5, hcs5, hnum5, hb5⟩
      rw [HLEN.out] at hcs5 hnum5 ⊢
      have HK5 := keepHid hbk5
      have HN5 := keepHid hnum5
      have HR5 := keepHid (rowsB_below HR9.out hb5)
      have HB5 := keepHid (HB9.out.trans (hb5.mono HB9.out.size))
      clear hbk5 hcs5 hnum5 hb5
      go_wp2
      go_loopw [71] (fun i wr => ∃ j : Nat, j ≤ k ∧ i = .int .i64 j ∧ Below w5.heap.size w5 wr) (fun i _ => k - (intOf i).toNat)
      case atStart => exact ⟨0, Nat.zero_le _, rfl, Below.refl _ _⟩
      case round =>
        obtain ⟨j, hj, rfl, hbel⟩ := hrel
        have HBj := keepHid hbel
        by_cases hjl : j < k
        · obtain ⟨bs, hrow⟩ : ∃ bs, y0[j]? = some bs := ⟨_, List.getElem?_eq_getElem (by rw [HLEN.out]; exact hjl)⟩
          obtain ⟨A, c, _, e2, e3, e4, e5, e6, _⟩ := HN5.out.below hbel j bs hjl hrow
          obtain ⟨ad, Bk, dk, hP, had, hc1, hld, hdm, hbz⟩ := (rowsB_below HR5.out hbel).2 j bs hrow
          subst hP
          have hbk := HK5.out.below hbel HK5.out.lt
          have q1 : wr.cell? ⟨g5, j * 2 + 1, none⟩ = some (.slice A bs.length c) := (hbk.cell (j * 2 + 1)).trans e3
          have hbl := HL47.out bs (List.mem_of_getElem? hrow)
          have hcv1 : ∀ a, (convert 22 9 (.slice A bs.length c)).run Try.prog (wr.drewN a) = .ok (.string (strB bs)) (wr.drewN a) := fun a => run_str 22 5 9 Try.underlying22 Try.underlying5 Try.underlying9 ((e4.bys (by omega)).drewN a)
          have hcv2 : ∀ a, (convert 22 9 (.slice Bk bs.length dk)).run Try.prog (wr.drewN a) = .ok (.string (strB bs)) (wr.drewN a) := fun a => run_str 22 5 9 Try.underlying22 Try.underlying5 Try.underlying9 (hbz.drewN a)
          obtain ⟨nb, hnb⟩ : ∃ nb, bs.length = nb := ⟨_, rfl⟩
          rw [hnb] at q1 hbl hcv1 hcv2 hc1
          clear hbel hrow e2 e3 e4 hbz hbk hnb
          go_wp2
          go_quiet (fail)
          go_wp2
          go_roundw
          case rel => exact ⟨j + 1, by omega, by go_num, below_drewN HBj.out nq⟩
          case measure => simp [intOf]; omega
        · clear hbel
          go_wp2
          go_ret
          exact ⟨rfl, HB5.out.trans (HBj.out.mono HB5.out.size)⟩

set_option maxRecDepth 100000 in
theorem lifted (os : Os) (started : os.Started) (H : Type) (enc : TypeId × Value → H) :
    ReturnsInHanded {} Try.checked os 9 .any (Rows.blockBackSpec.pre6 enc Try.prog Try.f9 Rows.blockBackRow.domain false) (Rows.blockBackSpec.post enc Try.prog Try.f9 false true false false) := by
  refine returnsInHanded_of_change_sized (C := Try.checked) own started (by kernel_rfl) Try.func9
    (ChangeSpec.witness6 (enc := enc) (C := Try.checked) false ⟨#[], #[.slice none 0 0], []⟩ 8 (by kernel_rfl) (by kernel_rfl) (by kernel_rfl) (by kernel_rfl)) ?_
  intro W base args ds gs before hval0 hW hcnd hsz0 _
  have hsz : (DataW.weightsEach Try.prog (Try.f9.params.toList ++ Rows.blockBackSpec.plain.varTypes Try.prog) (ds ++ gs)).all (· ≤ reachBytes) = true := hsz0
  clear hsz0
  have hval : ∀ (j : Nat) t v, Try.f9.params[j]? = some t → args[j]? = some v → Value.okWide Try.prog W .any base t v := hval0
  have hW' := hW
  obtain ⟨p, q, hA0, hV, rfl, hfz, hnd⟩ := hW
  have hA : DataW.TrodAll enc Try.prog W 0 (fun _ => true) true Try.f9.params.toList args.toList ds p := hA0
  rw [Try.params9] at hA hval hsz
  obtain ⟨v0, vs0, d0, ds0, p0, q0, hargs, rfl, rfl, h0, r0⟩ := trodAll_cons hA
  obtain ⟨rfl, rfl, rfl⟩ := trodAll_nil r0
  obtain rfl : args = #[v0] := by cases args; simp_all
  obtain ⟨rfl, rfl⟩ := trodVars_none hV
  have k0 := h0
  have lt0 : ∀ x ∈ p0, x.block < W.heap.size := by obtain ⟨m, hm⟩ := k0; exact DataW.trod_lt m _ _ _ hm
  obtain ⟨a0, n0, c0, y0, rfl, w0, l0, s0, b0⟩ := open_rows Try.underlying39 Try.underlying22 Try.underlying5 (by kernel_rfl) (by kernel_rfl) (hval 0 39 v0 rfl rfl) h0
  clear hA0 hval0
  obtain ⟨hn32, hl47⟩ := rows_sized hsz (j := 0) (t := 39) (s := 22) (e := 5) rfl rfl Try.underlying39 Try.underlying22 (by kernel_rfl) (by kernel_rfl) w0.1 b0
  refine (walk a0 n0 c0 y0 W w0 l0 s0 hn32 hl47).mono fun e W' ⟨he, bel⟩ => ?_
  subst he
  exact ⟨_, rfl, _, _, _, [], _, [], hW', trodAll_mk1 (shut_bool Try.underlying4 _), (trodAll_cons_mk (Below.trod laidOut (by kernel_rfl) (of_decide_eq_true (by kernel_rfl)) k0 bel lt0) trodAll_mk0), rfl, bel.frame _, fun h => by cases h⟩

theorem over : Rows.blockBackRow.holds Try.pinned (OpenSpec.ofChange Rows.blockBackSpec) :=
  OpenClaim.holds_of_wide 9 Try.f9 rfl rfl rfl rfl rfl rfl rfl ⟨rfl, rfl, rfl, rfl, rfl⟩ rfl rfl rfl rfl rfl (by kernel_rfl) Try.func9 (by kernel_rfl)
    (of_decide_eq_true (by kernel_rfl)) (by unfold Func.isWrapper; first | (rw [if_pos (by decide +kernel)]; kernel_rfl) | (rw [if_neg (by decide +kernel)]; exact ⟨rfl, rfl⟩))
    (fun os started H enc _ => lifted os started H enc)

theorem proved : Rows.BlockBackSaid := over
end Go.Proofs.Ytahlllkmjibbpaa.blockBack
