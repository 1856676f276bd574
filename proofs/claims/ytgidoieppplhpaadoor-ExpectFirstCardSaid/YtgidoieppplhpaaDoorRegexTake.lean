/-
  The reader of patterns: a byte is taken, a piece's end, a letter.
-/
import Derived.Test.YtgidoieppplhpaaDoorRegexRead
import Derived.WalkKit
import Derived.ProofKit
import Derived.WalkLawsBesides
import Derived.IntWalk
import Derived.RegionTactic
import Derived.BigRegion
import Derived.ChangeAlike
import Derived.Deep.QuietTactic
import Derived.BigQuiet
import Derived.Deep.RegionHeld3
import Derived.Deep.DrawnRows
import Derived.Outline
import Derived.Test.YtgidoieppplhpaaDoorMake
import Derived.OwnWalk
namespace Go.Proofs.YtgidoieppplhpaaDoor
open Go.RowKit
set_option linter.unusedVariables false

def TakePost (g : Nat) (bs : List UInt8) (d : Nat) (c : UInt8) (r : List UInt8) (w : World) (e : Ending) (w' : World) : Prop :=
  e = .returned (.bool (nx c r)) ∧ Went g bs d (if nx c r then r.tail else r) w w'
set_option maxHeartbeats 4000000 in
theorem take_any {g i d : Nat} {bs : List UInt8} {w : World} (h : Ps w g bs i d) (k : Int) (c : UInt8) (hk : k = (c.toNat : Int)) :
    Calls Tryd.prog 50 #[.pointer (some ⟨g, 0, none⟩), .int .u8 k] w (TakePost g bs d c (bs.drop i) w) := by
  have HN := keepHid (next_any h k c hk)
  have HP := keepHid h
  have hle := h.le
  have hmx := h.max
  have hlt : nx c (bs.drop i) = true → i < bs.length := fun hn => by
    rcases Nat.lt_or_ge i bs.length with hl | hl
    · exact hl
    · rw [List.drop_eq_nil_of_le hl] at hn; cases hn
  have htl : (bs.drop i).tail = bs.drop (i + 1) := by rw [List.tail_drop]
  obtain ⟨b, hb⟩ : ∃ b, nx c (bs.drop i) = b := ⟨_, rfl⟩
  unfold TakePost
  rw [hb] at HN hlt ⊢
  rw [htl]
  clear hb htl h hk
  cases b
  · go_enter Tryd.func50, Tryd.ntmps50
    go_wp2_with fail
    refine HN.out.mono ?_
    rintro e w' ⟨rfl, m, rfl⟩
    go_wp2
    go_ret
    exact ⟨rfl, went_of_drew HP.out⟩
  · have hlt' := hlt rfl
    clear hlt
    go_enter Tryd.func50, Tryd.ntmps50
    go_wp2_with fail
    refine HN.out.mono ?_
    rintro e w' ⟨rfl, m, rfl⟩
    have HP1 := keepHid (HP.out.drewN m)
    have HO1 := keepHid ((Only.refl w g).drewN m)
    generalize w.drewN m = w1 at *
    obtain ⟨c0, c1, c2, cf⟩ := HP1.out.cells
    go_wp2
    go_ret
    refine ⟨rfl, ⟨i + 1, rfl, ?_⟩, HO1.out.setCell (.inl rfl) _⟩
    have := HP1.out.put (i + 1) hlt'
    simpa using this


set_option maxHeartbeats 400000 in
theorem ends_any {g i d : Nat} {bs : List UInt8} {w : World} (h : Ps w g bs i d) :
    Calls Tryd.prog 58 #[.pointer (some ⟨g, 0, none⟩)] w fun e w' => e = .returned (.bool (endsF (bs.drop i))) ∧ ∃ m, w' = w.drewN m := by
  have HD := keepHid (done_any h)
  have H1 := keepHid (fun n => next_any (h.drewN n) 124 124 rfl)
  have H2 := keepHid (fun n => next_any (h.drewN n) 41 41 rfl)
  clear h
  unfold endsF
  generalize (bs.drop i).isEmpty = a at *
  generalize nx 124 (bs.drop i) = b at *
  generalize nx 41 (bs.drop i) = c at *
  cases a
  · cases b
    · go_enter Tryd.func58, Tryd.ntmps58
      go_wp2_with fail
      refine HD.out.mono ?_
      rintro e w' ⟨rfl, m, rfl⟩
      go_wp2_with fail
      refine (H1.out m).mono ?_
      rintro e w' ⟨rfl, k, rfl⟩
      go_wp2_with fail
      refine (H2.out (m + k)).mono ?_
      rintro e w' ⟨rfl, j, rfl⟩
      go_wp2
      go_ret
      exact ⟨rfl, m + k + j, rfl⟩
    · go_enter Tryd.func58, Tryd.ntmps58
      go_wp2_with fail
      refine HD.out.mono ?_
      rintro e w' ⟨rfl, m, rfl⟩
      go_wp2_with fail
      refine (H1.out m).mono ?_
      rintro e w' ⟨rfl, k, rfl⟩
      go_wp2
      go_ret
      exact ⟨rfl, m + k, rfl⟩
  · go_enter Tryd.func58, Tryd.ntmps58
    go_wp2_with fail
    refine HD.out.mono ?_
    rintro e w' ⟨rfl, m, rfl⟩
    go_wp2
    go_ret
    exact ⟨rfl, m, rfl⟩



theorem Went.trans {g d : Nat} {bs r r' : List UInt8} {w w1 w2 : World} (h : Only g w w1) (k : Went g bs d r' w1 w2) : Went g bs d r' w w2 := ⟨k.at_, h.trans k.only⟩
def LetPost (g : Nat) (bs : List UInt8) (d : Nat) (l : List UInt8) (w : World) (e : Ending) (w' : World) : Prop :=
  ∃ (v : Nat) (ok : Bool), e = .returned (.tuple #[.int .u8 (v : Int), .bool ok]) ∧ v < 256 ∧ (ok = true → ∃ c : UInt8, c.toNat = v ∧ (letF l).1 = some c) ∧ (ok = false → (letF l).1 = none) ∧ Went g bs d (letF l).2 w w'
theorem letF_nil {l : List UInt8} (h : (if nx 92 l then l.tail else l) = []) : letF l = (none, l) := by unfold letF; rw [h]
theorem letF_cons {l r : List UInt8} {c : UInt8} (h : (if nx 92 l then l.tail else l) = c :: r) : letF l = (some c, r) := by unfold letF; rw [h]
set_option maxHeartbeats 1000000 in
theorem letter_any {g i d : Nat} {bs : List UInt8} {w : World} (h : Ps w g bs i d) :
    Calls Tryd.prog 70 #[.pointer (some ⟨g, 0, none⟩)] w (LetPost g bs d (bs.drop i) w) := by
  have HT := keepHid (take_any h 92 92 rfl)
  have HP := keepHid h
  obtain ⟨c0, c1, c2, cf⟩ := h.cells
  have HM := keepHid h.max
  clear h
  go_enter Tryd.func70, Tryd.ntmps70
  go_wp2_with fail
  refine HT.out.mono ?_
  rintro e w1 ⟨rfl, ⟨⟨j, hj, hp1⟩, ho1⟩⟩
  clear c0 c1 c2 cf HT
  have HJ := keepHid hj
  have HD := keepHid (done_any hp1)
  have HP1 := keepHid hp1
  have HO1 := keepHid ho1
  clear hj ho1 hp1
  rcases Nat.lt_or_ge j bs.length with hlt | hge
  · obtain ⟨x, hx, hdr⟩ := head_of hlt
    have he : (bs.drop j).isEmpty = false := by rw [hdr]; rfl
    have HL := keepHid (letF_cons (HJ.out.symm.trans hdr))
    have HX := keepHid (u8lt x)
    have hix := fun w => run_idx hx (j : Int) rfl w
    have hm : bs.length ≤ 64 := HM.out
    have hxx : (x.toNat : Int) = (x.toNat : Int) := rfl
    rw [he] at HD
    clear hdr he HJ hx
    go_wp2_with fail
    refine HD.out.mono ?_
    rintro e w' ⟨rfl, m, rfl⟩
    have HP2 := keepHid (HP1.out.drewN m)
    have HO2 := keepHid (HO1.out.drewN m)
    generalize w1.drewN m = w2 at *
    obtain ⟨c0, c1, c2, cf⟩ := HP2.out.cells
    have hsz : (strB bs).size = bs.length := strB_size bs
    generalize strB bs = S at *
    obtain ⟨y, hy⟩ : ∃ y, x.toNat = y := ⟨_, rfl⟩
    have HY := keepHid hy
    rw [hy] at hix
    clear hy hxx
    go_wp2_with fail
    go_quiet (fail)
    go_wp2
    go_ret2
    refine ⟨y, true, rfl, ?_, fun _ => ⟨x, HY.out, by rw [HL.out]⟩, (fun h => by cases h), ⟨j + 1, by rw [HL.out], ?_⟩, ?_⟩
    · rw [← HY.out]; exact HX.out
    · have := (HP2.out.drewN nq).put (j + 1) hlt
      simpa using this
    · exact (HO2.out.drewN nq).setCell (.inl rfl) _
  · have he : (bs.drop j).isEmpty = true := by rw [List.drop_eq_nil_of_le hge]; rfl
    have HL := keepHid (letF_nil (HJ.out.symm.trans (List.drop_eq_nil_of_le hge)))
    rw [he] at HD
    clear he HJ hge
    go_wp2_with fail
    refine HD.out.mono ?_
    rintro e w' ⟨rfl, m, rfl⟩
    have HP2 := keepHid (HP1.out.drewN m)
    have HO2 := keepHid (HO1.out.drewN m)
    generalize w1.drewN m = w2 at *
    obtain ⟨c0, c1, c2, cf⟩ := HP2.out.cells
    go_wp2
    go_ret2
    refine ⟨0, false, rfl, by omega, (fun h => by cases h), (fun _ => by rw [HL.out]), ⟨i, by rw [HL.out], HP2.out.put i HP.out.le⟩, HO2.out.setCell (.inl rfl) _⟩




theorem run_take2 (l : List UInt8) (hl : 2 ≤ l.length) (W : World) : (Instr.slice 9 (.string (strB l)) none (some (.int .i64 2)) none).run Tryd.prog W = .ok (.string (strB (l.take 2))) W := by
  rw [run_slice_string_h W 9 (strB l) Tryd.underlying9 .i64 2 (by omega) (by rw [strB_size]; omega)]
  rw [show (2 : Int).toNat = 2 from rfl, strB_take]
theorem run_dropK (l : List UInt8) (i : Nat) (hi : i ≤ l.length) (W : World) : (Instr.slice 9 (.string (strB l)) (some (.int .i64 (i : Int))) none none).run Tryd.prog W = .ok (.string (strB (l.drop i))) W := by
  rw [run_slice_string_l W 9 (strB l) Tryd.underlying9 .i64 (i : Int) (by omega) (by rw [strB_size]; omega)]
  rw [Int.toNat_natCast, strB_size, strB_drop]
set_option maxHeartbeats 400000 in
theorem prefix_any (r : List UInt8) (w : World) :
    Calls Tryd.prog 73 #[.string (strB r), .string ⟨#[45, 93]⟩] w fun e w' => e = .returned (.bool (r.take 2 == [45, 93])) ∧ w = w' := by
  have hsz : (strB r).size = r.length := strB_size r
  rcases Nat.lt_or_ge r.length 2 with h | h
  · have he : (r.take 2 == [45, 93]) = false := by
      match r, h with
      | [], _ => rfl
      | [x], _ => simp
    rw [he]
    clear he
    generalize r.length = n at *
    generalize strB r = S at *
    have hd : decide ((2 : Int) ≤ (n : Int)) = false := by simp; omega
    go_enter Tryd.func73, Tryd.ntmps73
    go_wp2
    go_ret
    exact ⟨rfl, rfl⟩
  · have ht := run_take2 r h
    have hl := strB_toList (r.take 2)
    generalize r.take 2 = q at *
    generalize r.length = n at *
    generalize strB r = S at *
    generalize strB q = T at *
    have hd : decide ((2 : Int) ≤ (n : Int)) = true := by simp; omega
    go_enter Tryd.func73, Tryd.ntmps73
    go_wp2
    go_ret
    exact ⟨rfl, rfl⟩

theorem spanF_no {l : List UInt8} (h : (letF l).1 = none) : spanF l = (none, (letF l).2) := by
  unfold spanF
  generalize letF l = x at *
  obtain ⟨o, r⟩ := x
  simp only at h
  subst h
  rfl
theorem spanF_one {l : List UInt8} {c : UInt8} (h : (letF l).1 = some c) (hd : dashF (letF l).2 = false) : spanF l = (some (c, c), (letF l).2) := by
  unfold spanF
  generalize letF l = x at *
  obtain ⟨o, r⟩ := x
  simp only at h hd
  subst h
  simp [hd]
theorem spanF_two {l : List UInt8} {c : UInt8} (h : (letF l).1 = some c) (hd : dashF (letF l).2 = true) :
    spanF l = (match letF (letF l).2.tail with | (none, r2) => (none, r2) | (some b, r2) => (if c.toNat ≤ b.toNat then some (c, b) else none, r2)) := by
  unfold spanF
  generalize letF l = x at *
  obtain ⟨o, r⟩ := x
  simp only at h hd
  subst h
  simp [hd]
  generalize letF r.tail = y
  obtain ⟨o, q⟩ := y
  cases o <;> rfl
def SpanPost (g : Nat) (bs : List UInt8) (d : Nat) (l : List UInt8) (w : World) (e : Ending) (w' : World) : Prop :=
  ∃ (a b : Nat) (ok : Bool), e = .returned (.tuple #[.int .u8 (a : Int), .int .u8 (b : Int), .bool ok]) ∧ a < 256 ∧ b < 256 ∧ (ok = true → ∃ x y : UInt8, x.toNat = a ∧ y.toNat = b ∧ (spanF l).1 = some (x, y)) ∧ (ok = false → (spanF l).1 = none) ∧ Went g bs d (spanF l).2 w w'
set_option maxHeartbeats 2000000 in
theorem span_any {g i d : Nat} {bs : List UInt8} {w : World} (h : Ps w g bs i d) :
    Calls Tryd.prog 72 #[.pointer (some ⟨g, 0, none⟩)] w (SpanPost g bs d (bs.drop i) w) := by
  have HT := keepHid (letter_any h)
  clear h
  generalize bs.drop i = l at *
  go_enter Tryd.func72, Tryd.ntmps72
  go_wp2_with fail
  refine HT.out.mono ?_
  rintro e w1 ⟨v, ok, rfl, hv, hok, hno, ⟨j, hj, hp1⟩, ho1⟩
  clear HT
  have HO1 := keepHid ho1
  have HV := keepHid hv
  cases ok
  · have HS := keepHid (spanF_no (hno rfl))
    have HP1 := keepHid hp1
    have HJ := keepHid hj
    clear hok hno hj hp1 ho1 hv
    go_wp2_with fail
    go_quiet (fail)
    go_wp2
    go_ret3
    exact ⟨v, v, false, rfl, HV.out, HV.out, (fun h => by cases h), (fun _ => by rw [HS.out]), ⟨j, by rw [HS.out, HJ.out], HP1.out.drewN _⟩, HO1.out.drewN _⟩
  · obtain ⟨c, hc, hlet⟩ := hok rfl
    have HN := keepHid (fun n => next_any (hp1.drewN n) 45 45 rfl)
    have HLE := keepHid hp1.le
    have HMX := keepHid hp1.max
    rw [hj] at HN
    have HP1 := keepHid hp1
    have HC := keepHid hc
    have HJ := keepHid hj
    obtain ⟨c0, c1, c2, cf⟩ := hp1.cells
    have hvv : decide ((v : Int) ≤ (v : Int)) = true := by simp
    cases hn : nx 45 (letF l).2
    · have HS := keepHid (spanF_one hlet (by unfold dashF; rw [hn]; rfl))
      rw [hn] at HN
      clear hok hno hj hp1 ho1 hv hc hlet hn
      go_wp2_with fail
      go_quiet (first | (go_at_call 60; (with_reducible refine Calls.quiet_of (HN.out _))))
      go_wp2
      go_ret3
      exact ⟨v, v, true, rfl, HV.out, HV.out, (fun _ => ⟨c, c, HC.out, HC.out, by rw [HS.out]⟩), (fun h => by cases h), ⟨j, by rw [HS.out, HJ.out], HP1.out.drewN _⟩, HO1.out.drewN _⟩
    · have HPX := keepHid (fun w => prefix_any (bs.drop j) w)
      have hdk := run_dropK bs j hp1.le
      rw [hj] at HPX hdk
      cases hx : ((letF l).2.take 2 == [45, 93])
      · have hjl : j < bs.length := by
          rcases Nat.lt_or_ge j bs.length with h1 | h1
          · exact h1
          · rw [← hj, List.drop_eq_nil_of_le h1] at hn; cases hn
        have HS := keepHid (spanF_two hlet (by unfold dashF; rw [hn, hx]; rfl))
        have HTL := keepHid (show bs.drop (j + 1) = (letF l).2.tail by rw [← hj, List.tail_drop])
        rw [hn] at HN
        rw [hx] at HPX
        clear hok hno hj hp1 ho1 hv hc hlet hn hx
        have hle : bs.length ≤ 64 := HMX.out
        have HJL := keepHid hjl
        generalize strB bs = S at *
        generalize strB (letF l).2 = T at *
        go_wp2_with fail
        go_quiet (first | (go_at_call 60; (with_reducible refine Calls.quiet_of (HN.out _))) | (go_at_call 73; (with_reducible refine quietL (HPX.out _))))
        have HP2 := keepHid (HP1.out.drewN nq)
        have HO2 := keepHid (HO1.out.drewN nq)
        generalize w1.drewN nq = w2 at *
        clear c0 c1 c2 cf
        obtain ⟨c0, c1, c2, cf⟩ := HP2.out.cells
        go_wp2_with (go_at_call 70; fail)
        have hp3 := HP2.out.put (j + 1) HJL.out
        have ho3 := HO2.out.setCell (p := ⟨g, 1, none⟩) (.inl rfl) (.int .i64 ((j + 1 : Nat) : Int))
        have e1 : ((j + 1 : Nat) : Int) = (j : Int) + 1 := by omega
        rw [e1] at hp3 ho3
        have HP3 := keepHid hp3
        have HO3 := keepHid ho3
        clear hp3 ho3 e1
        generalize w2.setCell ⟨g, 1, none⟩ (.int .i64 ((j : Int) + 1)) = w3 at *
        refine (letter_any HP3.out).mono ?_
        rintro e w4 ⟨u, ok2, rfl, hu, hok2, hno2, ⟨k, hk, hp4⟩, ho4⟩
        rw [HTL.out] at hok2 hno2 hk
        have HK := keepHid hk
        have HP4 := keepHid hp4
        have HO4 := keepHid (HO3.out.trans ho4)
        have HU := keepHid hu
        clear hk hp4 ho4 hu c0 c1 c2 cf
        cases ok2
        · have hs := HS.out
          have h2 := hno2 rfl
          have HF : Hid (spanF l = (none, (letF (letF l).2.tail).2)) := keepHid (by
            rw [hs]
            generalize letF (letF l).2.tail = x at *
            obtain ⟨o, r⟩ := x
            simp only at h2
            subst h2; rfl)
          clear hs h2 hok2 hno2
          go_wp2_with fail
          go_wp2
          go_ret3
          exact ⟨v, u, false, rfl, HV.out, HU.out, (fun h => by cases h), (fun _ => by rw [HF.out]), ⟨k, by rw [HF.out, HK.out], HP4.out⟩, HO4.out⟩
        · obtain ⟨b, hb, h2⟩ := hok2 rfl
          have hs := HS.out
          have HF : Hid (spanF l = (if v ≤ u then some (c, b) else none, (letF (letF l).2.tail).2)) := keepHid (by
            rw [hs]
            generalize letF (letF l).2.tail = x at *
            obtain ⟨o, r⟩ := x
            simp only at h2
            subst h2
            rw [← HC.out, ← hb])
          have HB := keepHid hb
          clear hs h2 hok2 hno2 hb
          by_cases hvu : v ≤ u
          · have hd : decide (v ≤ u) = true := by simp; omega
            rw [if_pos hvu] at HF
            clear hvu
            go_wp2_with fail
            go_wp2
            go_ret3
            exact ⟨v, u, true, rfl, HV.out, HU.out, (fun _ => ⟨c, b, HC.out, HB.out, by rw [HF.out]⟩), (fun h => by cases h), ⟨k, by rw [HF.out, HK.out], HP4.out⟩, HO4.out⟩
          · have hd : decide (v ≤ u) = false := by simp; omega
            rw [if_neg hvu] at HF
            clear hvu
            go_wp2_with fail
            go_wp2
            go_ret3
            exact ⟨v, u, false, rfl, HV.out, HU.out, (fun h => by cases h), (fun _ => by rw [HF.out]), ⟨k, by rw [HF.out, HK.out], HP4.out⟩, HO4.out⟩
      · have HS := keepHid (spanF_one hlet (by unfold dashF; rw [hn, hx]; rfl))
        rw [hn] at HN
        rw [hx] at HPX
        clear hok hno hj hp1 ho1 hv hc hlet hn hx
        generalize strB bs = S at *
        generalize strB (letF l).2 = T at *
        go_wp2_with fail
        go_quiet (first | (go_at_call 60; (with_reducible refine Calls.quiet_of (HN.out _))) | (go_at_call 73; (with_reducible refine quietL (HPX.out _))))
        go_wp2
        go_ret3
        exact ⟨v, v, true, rfl, HV.out, HV.out, (fun _ => ⟨c, c, HC.out, HC.out, by rw [HS.out]⟩), (fun h => by cases h), ⟨j, by rw [HS.out, HJ.out], HP1.out.drewN _⟩, HO1.out.drewN _⟩
end Go.Proofs.YtgidoieppplhpaaDoor
