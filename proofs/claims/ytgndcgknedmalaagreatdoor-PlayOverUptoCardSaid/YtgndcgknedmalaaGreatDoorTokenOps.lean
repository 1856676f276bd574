/-
  The program's small helpers: a byte of a set, a run, a comment, a token that is plain, a byte behind a backslash.
-/
import Derived.Test.YtgndcgknedmalaaGreatDoorTokenRows
import Derived.Test.YtgndcgknedmalaaGreatDoorStr
import Derived.Test.YtgndcgknedmalaaGreatDoorShelf
import Derived.Test.YtgndcgknedmalaaGreatDoorTokenNum
import Derived.Test.YtgndcgknedmalaaGreatDoorTokenDig
import Derived.Deep.DeepCutAuto
import Derived.OwnWalk
namespace Go.Proofs.YtgndcgknedmalaaGreatDoor
open Go.RowKit
set_option linter.unusedVariables false

/-! ### a byte of a set -/
theorem ix_has : ∀ (l : List UInt8) (c : UInt8), -1 ≤ Lib.indexByte l c ∧ decide (0 ≤ Lib.indexByte l c) = l.contains c
  | [], c => by simp [Lib.indexByte]
  | b :: l, c => by
    obtain ⟨h1, h2⟩ := ix_has l c
    unfold Lib.indexByte
    rw [List.contains_cons]
    by_cases hb : b = c
    · subst hb; simp
    · have e1 : (b == c) = false := by simpa using hb
      have e2 : (c == b) = false := by simpa using fun e => hb e.symm
      rw [e1, e2, Bool.false_or, ← h2]
      simp only [Bool.false_eq_true, if_false]
      by_cases hm : Lib.indexByte l c = -1
      · simp [hm]
      · have : (Lib.indexByte l c == -1) = false := by simpa using hm
        simp only [this, Bool.false_eq_true, if_false]
        exact ⟨by omega, decide_eq_decide.2 (by omega)⟩
theorem ix_com : ∀ (l : List UInt8), (0 ≤ Lib.indexByte l 10 → Lib.indexByte l 10 = (comN l : Int)) ∧ (Lib.indexByte l 10 < 0 → comN l = l.length)
  | [] => by simp [Lib.indexByte, comN]
  | b :: l => by
    obtain ⟨h1, h2⟩ := ix_com l
    have h3 := (ix_has l 10).1
    unfold Lib.indexByte
    by_cases hb : b = 10
    · subst hb
      simp [comN]
    · have e1 : (b == 10) = false := by simpa using hb
      have e2 : comN (b :: l) = comN l + 1 := by
        unfold comN
        rw [List.takeWhile_cons_of_pos (by simp [e1])]
        simp
      rw [e1, e2]
      simp only [Bool.false_eq_true, if_false]
      by_cases hm : Lib.indexByte l 10 = -1
      · simp only [hm]
        refine ⟨by simp, fun _ => ?_⟩
        rw [h2 (by omega)]; simp
      · have : (Lib.indexByte l 10 == -1) = false := by simpa using hm
        simp only [this, Bool.false_eq_true, if_false]
        exact ⟨fun _ => by rw [h1 (by omega)]; simp, fun h => by omega⟩
theorem ixb_any (l : List UInt8) (c : UInt8) (w : World) :
    Calls Tryz.prog 58 #[.string (strB l), .int .u8 (c.toNat : Int)] w fun e w' => e = .returned (.int .i64 (Lib.indexByte l c)) ∧ w' = w :=
  (Tryz.strings_IndexByte _ _ w).mono fun e w' ⟨he, hw⟩ => ⟨by
    rw [he]
    have e1 : ((c.toNat : Int)).toNat.toUInt8 = c := by simp
    rw [e1]
    rfl, hw⟩
theorem ahas_any (l : List UInt8) (c : UInt8) (w : World) :
    Calls Tryz.prog 36 #[.string (strB l), .int .u8 (c.toNat : Int)] w fun e w' => e = .returned (.bool (l.contains c)) ∧ w' = w := by
  have HX := keepHid (ixb_any l c)
  have HD := keepHid (ix_has l c).2
  generalize Lib.indexByte l c = z at *
  generalize l.contains c = b at *
  go_enter Tryz.func36, Tryz.ntmps36
  go_wp2_with (refine (HX.out _).mono ?_; rintro e w' ⟨rfl, rfl⟩)
  go_ret
  exact ⟨ret_bool HD.out, rfl⟩
theorem comment_any (l : List UInt8) (w : World) (hl : l.length ≤ 140737488351232) :
    Calls Tryz.prog 37 #[.string (strB l)] w fun e w' => e = .returned (.int .i64 (comN l : Int)) ∧ w' = w := by
  have HX := keepHid (ixb_any l 10)
  obtain ⟨d1, d2⟩ := ix_com l
  have hsz : (strB l).size = l.length := strB_size l
  generalize Lib.indexByte l 10 = z at *
  have HX' : Hid (∀ w, Calls Tryz.prog 58 #[.string (strB l), .int .u8 10] w fun e w' => e = .returned (.int .i64 z) ∧ w' = w) := keepHid HX.out
  by_cases hz : 0 ≤ z
  · have HD := keepHid (d1 hz)
    clear d1 d2 HX
    go_enter Tryz.func37, Tryz.ntmps37
    go_wp2_with (refine (HX'.out _).mono ?_; rintro e w' ⟨rfl, rfl⟩)
    go_ret
    exact ⟨ret_int HD.out, rfl⟩
  · have HD : Hid ((l.length : Int) = (comN l : Int)) := keepHid (by rw [d2 (by omega)])
    clear d1 d2 HX
    go_enter Tryz.func37, Tryz.ntmps37
    go_wp2_with (refine (HX'.out _).mono ?_; rintro e w' ⟨rfl, rfl⟩)
    go_ret
    exact ⟨ret_int HD.out, rfl⟩

/-! ### a run -/
theorem run_split (set l : List UInt8) : (Lib.trimLeftS l set).length + (runOf set l).length = l.length := by
  have := congrArg List.length (List.takeWhile_append_dropWhile (p := fun c => set.contains c) (l := l))
  unfold Lib.trimLeftS runOf
  rw [List.length_append] at this
  omega
theorem run_any (l set : List UInt8) (hs : set.length ≤ 100) (ha : ∀ c ∈ set, c.toNat < 128) (hl : l.length ≤ 140737488351232) (w : World) :
    Calls Tryz.prog 60 #[.string (strB l), .string (strB set)] w fun e w' => e = .returned (.int .i64 ((runOf set l).length : Int)) ∧ Below w.heap.size w w' := by
  have HT := keepHid (fun w => Tryz.strings_TrimLeft_ascii (strB l) (strB set) w (by rw [strB_size]; omega) (fun j b h => ha b (List.mem_of_getElem? h)))
  have hsp := run_split set l
  have hsz : (strB l).size = l.length := strB_size l
  obtain ⟨T, hT⟩ : ∃ T, Lib.trimLeftS (strB l).data.toList (strB set).data.toList = T := ⟨_, rfl⟩
  have hT' : Lib.trimLeftS l set = T := hT
  have hq : (⟨T.toArray⟩ : ByteArray).size = T.length := strB_size T
  rw [hT'] at hsp
  rw [hT] at HT
  have HSP : Hid ((l.length : Int) - (T.length : Int) = ((runOf set l).length : Int)) := keepHid (by omega)
  have h1 : (T.length : Int) ≤ (l.length : Int) := by omega
  have h2 : (l.length : Int) ≤ 140737488351232 := by omega
  generalize ((runOf set l).length : Int) = R at *
  clear hT hT' hsp ha hl hs
  go_enter Tryz.func60, Tryz.ntmps60
  go_wp2_with fail
  refine (HT.out _).mono ?_
  rintro e w' ⟨rfl, hb⟩
  have HB := keepHid hb
  clear hb
  go_wp2
  go_ret
  exact ⟨ret_int HSP.out, HB.out⟩

/-! ### what a String may have -/
theorem printable_any (c : UInt8) (w : World) :
    Calls Tryz.prog 74 #[.int .u8 (c.toNat : Int)] w fun e w' => e = .returned (.bool (prn c)) ∧ w' = w := by
  have HP : Hid (prn c = (decide (32 ≤ c.toNat) && decide (c.toNat ≤ 126))) := keepHid rfl
  obtain ⟨n, hn⟩ : ∃ n, c.toNat = n := ⟨_, rfl⟩
  have hlt : n < 256 := by rw [← hn]; exact c.toNat_lt
  rw [hn] at HP ⊢
  generalize prn c = b at *
  clear hn
  go_enter Tryz.func74, Tryz.ntmps74
  go_wp2
  all_goals
    go_ret
    exact ⟨ret_bool (by rw [HP.out, Bool.eq_iff_iff]; simp only [Bool.and_eq_true, decide_eq_true_eq, Bool.false_eq_true, false_iff]; omega), rfl⟩
def escV : List UInt8 → Value
  | [] => .tuple #[.int .u8 0, .bool false]
  | c :: _ => match escD c with
    | some d => .tuple #[.int .u8 (d.toNat : Int), .bool true]
    | none => .tuple #[.int .u8 0, .bool false]
def escOk (c : UInt8) : Bool := match escD c with
  | some d => decide (0 ≤ Lib.indexByte escL c) && decide (Lib.indexByte escL c < 4) && (denL[(Lib.indexByte escL c).toNat]? == some d)
  | none => decide (Lib.indexByte escL c < 0)
theorem esc_ix : ∀ n : Fin 256, escOk (UInt8.ofNat n.val) = true := by decide +kernel
theorem esc_ix' (c : UInt8) : (∀ d, escD c = some d → ∃ k : Nat, Lib.indexByte escL c = (k : Int) ∧ denL[k]? = some d) ∧ (escD c = none → Lib.indexByte escL c < 0) := by
  have h := esc_ix ⟨c.toNat, u8lt c⟩
  have e : UInt8.ofNat c.toNat = c := by simp
  simp only [e] at h
  unfold escOk at h
  cases hd : escD c with
  | none => rw [hd] at h; exact ⟨fun d k => by (cases k), fun _ => of_decide_eq_true h⟩
  | some d =>
    rw [hd] at h
    simp only [Bool.and_eq_true, decide_eq_true_eq, beq_iff_eq] at h
    exact ⟨fun d' k => by cases k; exact ⟨(Lib.indexByte escL c).toNat, by omega, h.2⟩, fun k => by (cases k)⟩
theorem escaped_any (l : List UInt8) (w : World) :
    Calls Tryz.prog 73 #[.string (strB l)] w fun e w' => e = .returned (escV l) ∧ w' = w := by
  cases l with
  | nil =>
    have hemp : (strB []).toList.isEmpty = true := by rw [strB_toList]; rfl
    go_enter Tryz.func73, Tryz.ntmps73
    go_wp2
    go_ret2
    exact ⟨rfl, rfl⟩
  | cons c r =>
    have hemp : (strB (c :: r)).toList.isEmpty = false := by rw [strB_toList]; rfl
    have hidx := fun w => run_idx (l := c :: r) (k := 0) (c := c) rfl 0 rfl w
    have HX : Hid (∀ w, Calls Tryz.prog 58 #[.string ⟨#[34, 92, 114, 110]⟩, .int .u8 (c.toNat : Int)] w fun e w' => e = .returned (.int .i64 (Lib.indexByte escL c)) ∧ w' = w) := keepHid (ixb_any escL c)
    obtain ⟨d1, d2⟩ := esc_ix' c
    cases hd : escD c with
    | none =>
      have hz := d2 hd
      have HV : Hid (escV (c :: r) = .tuple #[.int .u8 0, .bool false]) := keepHid (by simp only [escV, hd])
      generalize escV (c :: r) = v at *
      generalize Lib.indexByte escL c = z at *
      clear d1 d2 hd
      go_enter Tryz.func73, Tryz.ntmps73
      go_wp2_with (refine (HX.out _).mono ?_; rintro e w' ⟨rfl, rfl⟩)
      go_ret2
      exact ⟨by rw [HV.out]; rfl, rfl⟩
    | some d =>
      obtain ⟨k, hk, hdk⟩ := d1 d hd
      have HV : Hid (escV (c :: r) = .tuple #[.int .u8 (d.toNat : Int), .bool true]) := keepHid (by simp only [escV, hd])
      have hden : ∀ w, (Instr.index 9 (.string ⟨#[34, 92, 13, 10]⟩) (.int .i64 (k : Int))).run Tryz.prog w = .ok (.int .u8 (d.toNat : Int)) w := fun w => run_idx (l := denL) hdk _ rfl w
      have hz : (0 : Int) ≤ (k : Int) := by omega
      rw [hk] at HX
      generalize escV (c :: r) = v at *
      generalize (k : Int) = z at *
      clear d1 d2 hd hk hdk
      go_enter Tryz.func73, Tryz.ntmps73
      go_wp2_with (refine (HX.out _).mono ?_; rintro e w' ⟨rfl, rfl⟩)
      go_ret2
      exact ⟨by rw [HV.out]; rfl, rfl⟩

/-! ### a token that is plain -/
theorem sclone_any (l : List UInt8) (w : World) (hl : l.length ≤ 140737488351232) :
    Calls Tryz.prog 28 #[.string (strB l)] w fun e w' => e = .returned (.string (strB l)) ∧ Below w.heap.size w w' := by
  have HC := keepHid (fun w => Tryz.stringslite_Clone (strB l) w (by rw [strB_size]; omega))
  go_enter Tryz.func28, Tryz.ntmps28
  go_wp2_with fail
  refine (HC.out _).mono ?_
  rintro e w' ⟨rfl, hb⟩
  have HB := keepHid hb
  clear hb
  go_wp2
  go_ret
  exact ⟨rfl, HB.out⟩
/-- A token is read at the return. -/
theorem tok_res {fn : Func} {p u : Tmp} (h : fn.results = #[.cell p 87, .tmp u]) (tmps : Array Value) (w : World) (g : Nat) (k : Int) (s : ByteArray) (v q : Int) (hb : Blk w g 87 (tkA k s v q))
    (hp : tmps.getD p undef = .pointer (some ⟨g, 0, none⟩)) (n : Value) (hu : tmps.getD u undef = n) : (results fn tmps).run Tryz.prog w = .ok (.tuple #[.agg (tkA k s v q), n]) w := by
  have q0 : w.cell? ⟨g, 0, none⟩ = some (.int .i64 k) := hb.cell 0
  have q1 : w.cell? ⟨g, 1, none⟩ = some (.string s) := hb.cell 1
  have q2 : w.cell? ⟨g, 2, none⟩ = some (.int .i64 v) := hb.cell 2
  have q3 : w.cell? ⟨g, 3, none⟩ = some (.int .i64 q) := hb.cell 3
  rw [results_cell_tmp (p := p) (u := u) (ty := 87) h, hp, hu]
  simp [go_sem, q0, q1, q2, q3, tkA]
theorem put4 {w : World} {g : Nat} {t : TypeId} {a b c d a' b' c' d' : Value} (hb : Blk w g t #[a, b, c, d]) :
    Blk ((((w.setCell ⟨g, 0, none⟩ a').setCell ⟨g, 1, none⟩ b').setCell ⟨g, 2, none⟩ c').setCell ⟨g, 3, none⟩ d') g t #[a', b', c', d'] := (((hb.put 0 a').put 1 b').put 2 c').put 3 d'
theorem set4 {w0 w : World} {B g : Nat} (h : Below B w0 w) (hg : B ≤ g) (a b c d : Value) :
    Below B w0 ((((w.setCell ⟨g, 0, none⟩ a).setCell ⟨g, 1, none⟩ b).setCell ⟨g, 2, none⟩ c).setCell ⟨g, 3, none⟩ d) := (((h.setCell hg _).setCell hg _).setCell hg _).setCell hg _
/-- The result's block at the beginning. -/
theorem tok_new (w w1 : World) (hw : w.alloc (.cells #[.int .i64 0, .string ⟨#[]⟩, .int .i64 0, .int .i64 0] 87) = w1) :
    Blk w1 w.heap.size 87 #[.int .i64 0, .string ⟨#[]⟩, .int .i64 0, .int .i64 0] ∧ Below w.heap.size w w1 := by
  rw [← hw]; exact ⟨Blk.new w _ _, (Below.refl _ _).alloc (Nat.le_refl _) _⟩
theorem plain_any (k : Int) (l : List UInt8) (n : Nat) (hn : n ≤ l.length) (hl : l.length ≤ 140737488351232) (w : World) :
    Calls Tryz.prog 59 #[.int .i64 k, .string (strB l), .int .i64 (n : Int)] w fun e w' => e = .returned (.tuple #[.agg (tkA k (strB (l.take n)) 0 0), .int .i64 (n : Int)]) ∧ Below w.heap.size w w' := by
  obtain ⟨w1, hw1⟩ : ∃ w1, w.alloc (.cells #[.int .i64 0, .string ⟨#[]⟩, .int .i64 0, .int .i64 0] 87) = w1 := ⟨_, rfl⟩
  have HR := keepHid (tok_new w w1 hw1)
  have hcut := fun w => run_upto hn (n : Int) rfl w
  have HC := keepHid (fun w => sclone_any (l.take n) w (by simp; omega))
  generalize strB (l.take n) = S at *
  clear hn hl
  go_enter Tryz.func59, Tryz.ntmps59
  go_wp2_with fail
  refine (HC.out _).mono ?_
  rintro e w2 ⟨rfl, hb⟩
  have HK := keepHid (HR.out.1.below hb HR.out.1.lt)
  have HB := keepHid (HR.out.2.trans (hb.mono HR.out.2.size))
  obtain ⟨c0, c1, c2, c3, cf⟩ := blk4 HK.out
  clear hb hw1 HR hcut HC
  go_wp2
  refine bodyPost_ret (tok_res rfl _ _ w.heap.size k S 0 0 (put4 HK.out) rfl _ rfl) rfl ?_
  exact ⟨rfl, set4 HB.out (Nat.le_refl _) _ _ _ _⟩


def PPost (b : Nat) (bs : List UInt8) (w : World) (e : Ending) (w' : World) : Prop :=
  ((bs ≠ [] ∧ valB b bs 0 < 4294967296 ∧ e = .returned (.tuple #[.int .u64 (valB b bs 0 : Int), .nilIface])) ∨
   ((bs = [] ∨ 4294967296 ≤ valB b bs 0) ∧ ∃ (x : Int) (N : Nat), e = .returned (.tuple #[.int .u64 x, .iface 206 (.pointer (some ⟨N, 0, none⟩))]))) ∧ Below w.heap.size w w'

set_option maxRecDepth 100000 in
theorem pparse10 (bs : List UInt8) (hl : bs.length ≤ 65536) (hc : ∀ c ∈ bs, decL.contains c = true) (w : World) (hE : Errs w) :
    Calls Tryz.prog 72 #[.string (strB bs), .int .i64 10, .int .i64 32] w (PPost 10 bs w) := by
  have HE := keepHid hE
  have HU := keepHid (uparse10 bs hl hc)
  clear hE hc
  go_enter Tryz.func72, Tryz.ntmps72
  go_wp2_with fail
  refine (HU.out _).mono ?_
  rintro e w1 ⟨⟨rfl, rfl⟩ | ⟨hne, hv, rfl⟩ | ⟨hne, hv, rfl⟩, hb⟩
  · have HB := keepHid hb
    obtain ⟨⟨te, pe, h2⟩, tr, pr, h3⟩ := HE.out.below hb (Nat.le_refl _)
    clear hb
    have hlim : (strB []).size ≤ 281474976710656 := by rw [strB_size]; simp
    go_wp2_with fail
    refine (Tryz.strconv_toError_syntax _ _ _ _ _ _ hlim h2 (.inr ⟨_, _, rfl⟩)).mono ?_
    rintro e w2 ⟨N, rfl, _, _, hb2⟩
    have HB2 := keepHid (HB.out.trans (hb2.mono HB.out.size))
    clear hb2
    go_wp2
    go_ret2
    exact ⟨.inr ⟨.inl rfl, _, _, rfl⟩, HB2.out⟩
  · have HB := keepHid hb
    have HV := keepHid hv
    obtain ⟨⟨te, pe, h2⟩, tr, pr, h3⟩ := HE.out.below hb (Nat.le_refl _)
    clear hb hv hne
    have hlim : (strB bs).size ≤ 281474976710656 := by rw [strB_size]; omega
    go_wp2_with fail
    refine (Tryz.strconv_toError_range _ _ _ _ _ _ hlim h3 (.inr ⟨_, _, rfl⟩)).mono ?_
    rintro e w2 ⟨N, rfl, _, _, hb2⟩
    have HB2 := keepHid (HB.out.trans (hb2.mono HB.out.size))
    clear hb2
    go_wp2
    go_ret2
    exact ⟨.inr ⟨.inr HV.out, _, _, rfl⟩, HB2.out⟩
  · have HB := keepHid hb
    have HV := keepHid hv
    have HNE := keepHid hne
    clear hb hv hne
    go_wp2
    go_ret2
    exact ⟨.inl ⟨HNE.out, HV.out, rfl⟩, HB.out⟩

set_option maxRecDepth 100000 in
theorem pparse16 (bs : List UInt8) (hl : bs.length ≤ 65536) (hc : ∀ c ∈ bs, hexL.contains c = true) (w : World) (hE : Errs w) :
    Calls Tryz.prog 72 #[.string (strB bs), .int .i64 16, .int .i64 32] w (PPost 16 bs w) := by
  have HE := keepHid hE
  have HU := keepHid (uparse16 bs hl hc)
  clear hE hc
  go_enter Tryz.func72, Tryz.ntmps72
  go_wp2_with fail
  refine (HU.out _).mono ?_
  rintro e w1 ⟨⟨rfl, rfl⟩ | ⟨hne, hv, rfl⟩ | ⟨hne, hv, rfl⟩, hb⟩
  · have HB := keepHid hb
    obtain ⟨⟨te, pe, h2⟩, tr, pr, h3⟩ := HE.out.below hb (Nat.le_refl _)
    clear hb
    have hlim : (strB []).size ≤ 281474976710656 := by rw [strB_size]; simp
    go_wp2_with fail
    refine (Tryz.strconv_toError_syntax _ _ _ _ _ _ hlim h2 (.inr ⟨_, _, rfl⟩)).mono ?_
    rintro e w2 ⟨N, rfl, _, _, hb2⟩
    have HB2 := keepHid (HB.out.trans (hb2.mono HB.out.size))
    clear hb2
    go_wp2
    go_ret2
    exact ⟨.inr ⟨.inl rfl, _, _, rfl⟩, HB2.out⟩
  · have HB := keepHid hb
    have HV := keepHid hv
    obtain ⟨⟨te, pe, h2⟩, tr, pr, h3⟩ := HE.out.below hb (Nat.le_refl _)
    clear hb hv hne
    have hlim : (strB bs).size ≤ 281474976710656 := by rw [strB_size]; omega
    go_wp2_with fail
    refine (Tryz.strconv_toError_range _ _ _ _ _ _ hlim h3 (.inr ⟨_, _, rfl⟩)).mono ?_
    rintro e w2 ⟨N, rfl, _, _, hb2⟩
    have HB2 := keepHid (HB.out.trans (hb2.mono HB.out.size))
    clear hb2
    go_wp2
    go_ret2
    exact ⟨.inr ⟨.inr HV.out, _, _, rfl⟩, HB2.out⟩
  · have HB := keepHid hb
    have HV := keepHid hv
    have HNE := keepHid hne
    clear hb hv hne
    go_wp2
    go_ret2
    exact ⟨.inl ⟨HNE.out, HV.out, rfl⟩, HB.out⟩

/-- What a token's reader answers. -/
def resV : Option (Tk × Nat) → Value
  | none => .tuple #[.agg (tkA 0 ⟨#[]⟩ 0 0), .int .i64 0]
  | some x => .tuple #[.agg (tkA x.1.kind (strB x.1.text) x.1.val x.1.pos), .int .i64 (x.2 : Int)]
theorem asc_dec : ∀ c ∈ decL, c.toNat < 128 := by decide
theorem asc_hex : ∀ c ∈ hexL, c.toNat < 128 := by decide
theorem asc_word : ∀ c ∈ wordL, c.toNat < 128 := by decide
theorem body_take (l : List UInt8) : (l.drop (leadN l)).take (bodyN l).length = bodyN l := runOf_take _ _
theorem run_thead {set l : List UInt8} (h : runOf set l ≠ []) : (runOf set l).head? = l.head? := by
  unfold runOf at h ⊢
  cases l with
  | nil => simp at h
  | cons a r =>
    by_cases ha : set.contains a = true
    · rw [List.takeWhile_cons_of_pos (by simpa using ha)]; rfl
    · rw [List.takeWhile_cons_of_neg (by simpa using ha)] at h; exact absurd rfl h
/-- Its first sign. -/
theorem body_head {l : List UInt8} (h : bodyN l ≠ []) : ∃ c, l[leadN l]? = some c ∧ okN (bodyN l) = !(decide (c.toNat = 48) && decide (1 < (bodyN l).length)) := by
  have h1 := run_thead h
  have h2 : (bodyN l).head? = l[leadN l]? := by
    have e : (l.drop (leadN l)).head? = l[leadN l]? := by rw [List.head?_drop]
    rw [← e]; exact h1
  cases hb : bodyN l with
  | nil => exact absurd hb h
  | cons a r =>
    rw [hb] at h2
    refine ⟨a, by simpa using h2.symm, ?_⟩
    unfold okN
    have e : ((a :: r).head? == some 48) = decide (a.toNat = 48) := by
      rw [Bool.eq_iff_iff, beq_iff_eq, decide_eq_true_eq]
      simp only [List.head?_cons, Option.some.injEq]
      exact ⟨fun h => by rw [h]; rfl, fun h => UInt8.toNat_inj.1 h⟩
    rw [e]; rfl
theorem let_at_lt {l : List UInt8} {i : Nat} {d : UInt8} (h : l[i]? = some d) : letAt l i = letL.contains d := by unfold letAt; rw [h]
theorem let_at_ge {l : List UInt8} {i : Nat} (h : l.length ≤ i) : letAt l i = false := by unfold letAt; rw [List.getElem?_eq_none h]

set_option maxRecDepth 100000 in
set_option maxHeartbeats 8000000 in
theorem number10 (l : List UInt8) (hl : l.length ≤ 4096) (hx : isHex l = false) (w : World) (hE : Errs w) :
    Calls Tryz.prog 61 #[.string (strB l)] w fun e w' => e = .returned (resV (numT l)) ∧ Below w.heap.size w w' := by
  have hlead : leadN l = 0 := by unfold leadN; rw [hx]; rfl
  have hbase : baseN l = 10 := by unfold baseN; rw [hx]; rfl
  have hset : digN l = decL := by unfold digN; rw [hx]; rfl
  have hle : 0 ≤ l.length := by have := lead_le l; omega
  have hhd := @body_head l
  rw [hlead] at hhd
  obtain ⟨B, hB⟩ : ∃ B, bodyN l = B := ⟨_, rfl⟩
  obtain ⟨N, hN⟩ : ∃ N, B.length = N := ⟨_, rfl⟩
  have HN := keepHid hN
  rw [hB, hN] at hhd
  have HHD := keepHid hhd
  have hsize : sizeN l = 0 + N := by unfold sizeN; rw [hlead, hB, hN]
  have hszl := size_le l
  have hBr : runOf decL l = B := by have := hB; unfold bodyN at this; rw [hset, hlead] at this; exact this
  have hall : ∀ c ∈ B, decL.contains c = true := fun c hc => by rw [← hBr] at hc; exact runOf_mem hc
  have hBl : B.length ≤ 65536 := by omega
  have HPF : Hid (∀ w, Calls Tryz.prog 71 #[.string (strB l), .string ⟨#[48, 120]⟩] w fun e w' => e = .returned (.bool false) ∧ w' = w) := keepHid fun w => (Tryz.strings_HasPrefix (strB l) (strB [48, 120]) w).mono fun e w' ⟨he, hw⟩ => ⟨by rw [he]; exact ret_bool hx, hw⟩
  have hfrom : ∀ w, (Instr.slice 9 (.string (strB l)) (some (.int .i64 0)) none none).run Tryz.prog w = .ok (.string (strB l)) w := fun w => run_from (k := 0) hle 0 rfl w
  have HRUN : Hid (∀ w, Calls Tryz.prog 60 #[.string (strB l), .string ⟨#[48, 49, 50, 51, 52, 53, 54, 55, 56, 57]⟩] w fun e w' => e = .returned (.int .i64 (N : Int)) ∧ Below w.heap.size w w') := keepHid fun w => by
    have := run_any l decL (by decide) asc_dec (by first | omega | (simp; omega)) w
    rw [hBr, hN] at this
    exact this
  have hmid : ∀ w, (Instr.slice 9 (.string (strB l)) (some (.int .i64 0)) (some (.int .i64 (N : Int))) none).run Tryz.prog w = .ok (.string (strB B)) w := fun w => by
    have := run_mid (l := l) (i := 0) (j := 0 + N) (by omega) (by omega) .i64 .i64 0 (N : Int) rfl (by omega) w
    rw [this, show 0 + N - 0 = N by omega]
    have h2 := body_take l
    rw [hlead, hB, hN] at h2
    rw [h2]
  have HPU := keepHid (pparse10 B hBl hall)
  have HP : Hid (∀ w, Calls Tryz.prog 59 #[.int .i64 2, .string (strB l), .int .i64 (N : Int)] w fun e w' => e = .returned (.tuple #[.agg #[.int .i64 2, .string (strB (l.take (0 + N))), .int .i64 0, .int .i64 0], .int .i64 (N : Int)]) ∧ Below w.heap.size w w') := keepHid fun w => by
    have := plain_any 2 l (0 + N) (by omega) (by omega) w
    have e : ((0 + N : Nat) : Int) = (N : Int) := by omega
    rw [e] at this
    exact this
  have HNB : Hid (numBad l = (!okN B || decide (4294967296 ≤ valB 10 B 0) || letAt l (0 + N))) := keepHid (by rw [numBad_is, hB, hbase, hsize])
  have hlen : (strB l).size = l.length := strB_size l
  obtain ⟨M, hM⟩ : ∃ M, l.length = M := ⟨_, rfl⟩
  have HM := keepHid hM
  rw [hM] at hlen hl hszl
  rw [hsize] at hszl
  have HVAL : Hid (∀ S, S = strB (l.take (0 + N)) → numBad l = false → ∀ v : Int, v = (valB 10 B 0 : Int) → resV (numT l) = .tuple #[.agg (tkA 2 S v 0), .int .i64 (N : Int)]) := keepHid fun S hS hb v hv => by
    rw [num_good hb, hbase, hsize, hB, hv, hS]
    have e : ((0 + N : Nat) : Int) = (N : Int) := by omega
    simp only [resV, e]
    rfl
  obtain ⟨S, hS⟩ : ∃ S, strB (l.take (0 + N)) = S := ⟨_, rfl⟩
  rw [hS] at HP
  have HS := keepHid hS.symm
  obtain ⟨w1, hw1⟩ : ∃ w1, w.alloc (.cells #[.int .i64 0, .string ⟨#[]⟩, .int .i64 0, .int .i64 0] 87) = w1 := ⟨_, rfl⟩
  have HR := keepHid (tok_new w w1 hw1)
  have HE := keepHid (hE.below HR.out.2 (Nat.le_refl _))
  clear hS hE hx hlead hbase hset hsize hBr hall hhd hB hN hM hBl
  go_enter Tryz.func61, Tryz.ntmps61
  go_wp2_with fail
  refine (HPF.out _).mono ?_; rintro e w' ⟨rfl, rfl⟩
  clear hw1
  go_wp2_with fail
  refine (HRUN.out _).mono ?_
  rintro e w2 ⟨rfl, hb2⟩
  have HK2 := keepHid (HR.out.1.below hb2 HR.out.1.lt)
  have HB2 := keepHid (HR.out.2.trans (hb2.mono HR.out.2.size))
  have HE2 := keepHid (HE.out.below hb2 (Nat.le_refl _))
  clear hb2 HRUN HPF HR HE
  go_wp2_with fail
  refine (HPU.out _ HE2.out).mono ?_
  rintro e w3 ⟨hcase, hb3⟩
  have HK3 := keepHid (HK2.out.below hb3 HK2.out.lt)
  have HB3 := keepHid (HB2.out.trans (hb3.mono HB2.out.size))
  obtain ⟨c0, c1, c2, c3, cf⟩ := blk4 HK3.out
  clear hb3 HPU hfrom hmid HK2 HB2 HE2
  rcases hcase with ⟨hne, hv, rfl⟩ | ⟨hbad, x, N2, rfl⟩
  · obtain ⟨c, hc, hok⟩ := HHD.out (by first | exact hne | (intro e; exact hne e))
    have HV0 := keepHid hv
    have h1N : 1 ≤ N := by
      rcases Nat.eq_zero_or_pos N with h | h
      · exact absurd (List.eq_nil_of_length_eq_zero (by rw [HN.out]; exact h)) hne
      · exact h
    have hix := fun w => run_idx hc 0 rfl w
    have HOK0 := keepHid hok
    obtain ⟨cn, hcn⟩ : ∃ cn, c.toNat = cn := ⟨_, rfl⟩
    rw [hcn] at hix HOK0
    have hvb : (valB 10 B 0 : Int) < 4294967296 := by omega
    have hvg : (0 : Int) ≤ (valB 10 B 0 : Int) := by omega
    have HDV : Hid (decide (4294967296 ≤ valB 10 B 0) = false) := keepHid (decide_eq_false (by have := HV0.out; omega))
    obtain ⟨V, hV⟩ : ∃ V, (valB 10 B 0 : Int) = V := ⟨_, rfl⟩
    rw [hV] at hvb hvg ⊢
    have HVV := keepHid hV
    have HVAL' : Hid (∀ S, S = strB (l.take (0 + N)) → numBad l = false → ∀ v : Int, v = V → resV (numT l) = .tuple #[.agg (tkA 2 S v 0), .int .i64 (N : Int)]) := keepHid fun S h1 h2 v h3 => HVAL.out S h1 h2 v (by rw [h3, HVV.out])
    clear HVAL hV hcn hc hok hv hne
    have HVAL := HVAL'
    clear HVAL'
    by_cases h48 : cn = 48
    · have i48 : (cn : Int) = 48 := by omega
      by_cases hgt : 1 < N
      · have igt : (1 : Int) < (N : Int) := by omega
        have HBAD : Hid (numBad l = true) := keepHid (by rw [HNB.out, HOK0.out, decide_eq_true h48, decide_eq_true hgt, HDV.out]; first | rfl | simp)
        clear HHD HNB HOK0 HVAL
        go_wp2
        refine bodyPost_ret (tok_res rfl _ _ w.heap.size 0 ⟨#[]⟩ 0 0 (put4 HK3.out) rfl _ rfl) rfl ?_
        exact ⟨by rw [num_bad HBAD.out]; rfl, set4 HB3.out (Nat.le_refl _) _ _ _ _⟩
      · have igt : ¬ (1 : Int) < (N : Int) := by omega
        have HOK : Hid (numBad l = letAt l (0 + N)) := keepHid (by rw [HNB.out, HOK0.out, decide_eq_false hgt, HDV.out]; simp)
        clear HHD HNB HOK0
        rcases Nat.lt_or_ge (0 + N) M with hlt | hlt
        · obtain ⟨d, hd⟩ : ∃ d, l[0 + N]? = some d := ⟨_, List.getElem?_eq_getElem (by rw [HM.out]; exact hlt)⟩
          have hi1 : (N : Int) < (M : Int) := by omega
          have hdx : ∀ w, (Instr.index 9 (.string (strB l)) (.int .i64 (N : Int))).run Tryz.prog w = .ok (.int .u8 (d.toNat : Int)) w := fun w => run_idx hd _ (by omega) w
          have HH : Hid (∀ w, Calls Tryz.prog 36 #[.string ⟨#[97, 98, 99, 100, 101, 102, 103, 104, 105, 106, 107, 108, 109, 110, 111, 112, 113, 114, 115, 116, 117, 118, 119, 120, 121, 122]⟩, .int .u8 (d.toNat : Int)] w fun e w' => e = .returned (.bool (letL.contains d)) ∧ w' = w) := keepHid (ahas_any letL d)
          have HLA := keepHid (let_at_lt hd)
          obtain ⟨la, hla⟩ : ∃ la, letL.contains d = la := ⟨_, rfl⟩
          rw [hla] at HH HLA
          clear hla hd
          generalize d.toNat = dn at *
          cases la
          · have HGOOD : Hid (numBad l = false) := keepHid (HOK.out.trans HLA.out)
            have HV := keepHid (HVAL.out S HS.out HGOOD.out _ rfl)
            clear HVAL HGOOD
            go_wp2_with (go_at_call 36; refine (HH.out _).mono ?_; rintro e w' ⟨rfl, rfl⟩)
            refine (HP.out _).mono ?_
            rintro e w5 ⟨rfl, hb5⟩
            have HK5 := keepHid (HK3.out.below hb5 HK3.out.lt)
            have HB5 := keepHid (HB3.out.trans (hb5.mono HB3.out.size))
            clear hb5 HP
            go_upto_region 9 with (fail)
            obtain ⟨w7, hw7⟩ : ∃ w7, w5.alloc (.cells #[.int .i64 2, .string S, .int .i64 0, .int .i64 0] 87) = w7 := ⟨_, rfl⟩
            rw [hw7]
            have hbw : Below w5.heap.size w5 w7 := by rw [← hw7]; exact (Below.refl _ _).alloc (Nat.le_refl _) _
            have HK7 : Hid (Blk w7 w5.heap.size 87 #[.int .i64 2, .string S, .int .i64 0, .int .i64 0]) := keepHid (by rw [← hw7]; exact Blk.new w5 _ _)
            have HK7r := keepHid (HK5.out.below hbw HK5.out.lt)
            have HB7 := keepHid (HB5.out.trans (hbw.mono HB5.out.size))
            have HL6 : Hid (w.heap.size < w5.heap.size) := keepHid HK5.out.lt
            clear hw7 hbw HK5 HB5
            generalize w5.heap.size = g2 at *
            obtain ⟨a0, a1, a2, a3, af⟩ := blk4 HK7.out
            go_upto_region 10 with (fail)
            obtain ⟨w8, hw8⟩ : ∃ w8, w7.setCell ⟨g2, 2, none⟩ (.int .i64 V) = w8 := ⟨_, rfl⟩
            rw [hw8]
            have HK8 : Hid (Blk w8 g2 87 #[.int .i64 2, .string S, .int .i64 V, .int .i64 0]) := keepHid (by rw [← hw8]; exact HK7.out.put 2 _)
            have HK8r : Hid (Blk w8 w.heap.size 87 #[.int .i64 0, .string ⟨#[]⟩, .int .i64 0, .int .i64 0]) := keepHid (by rw [← hw8]; exact HK7r.out.far (p := ⟨g2, 2, none⟩) (by have := HL6.out; show _ ≠ g2; omega) _)
            have HB8 : Hid (Below w.heap.size w w8) := keepHid (by rw [← hw8]; exact HB7.out.setCell (Nat.le_of_lt HL6.out) _)
            clear hw8 a0 a1 a2 a3 af HK7 HK7r HB7
            obtain ⟨a0, a1, a2, a3, af⟩ := blk4 HK8.out
            obtain ⟨b0, b1, b2, b3, bf⟩ := blk4 HK8r.out
            go_wp2
            refine bodyPost_ret (tok_res rfl _ _ w.heap.size 2 S V 0 (put4 HK8r.out) rfl _ rfl) rfl ?_
            exact ⟨by rw [HV.out]; rfl, set4 HB8.out (Nat.le_refl _) _ _ _ _⟩
          · have HBAD : Hid (numBad l = true) := keepHid (HOK.out.trans HLA.out)
            go_wp2_with (refine (HH.out _).mono ?_; rintro e w' ⟨rfl, rfl⟩)
            refine bodyPost_ret (tok_res rfl _ _ w.heap.size 0 ⟨#[]⟩ 0 0 (put4 HK3.out) rfl _ rfl) rfl ?_
            exact ⟨by rw [num_bad HBAD.out]; rfl, set4 HB3.out (Nat.le_refl _) _ _ _ _⟩
        · have hi1 : (M : Int) ≤ (N : Int) := by omega
          have HGOOD : Hid (numBad l = false) := keepHid (HOK.out.trans (let_at_ge (by rw [HM.out]; exact hlt)))
          have HV := keepHid (HVAL.out S HS.out HGOOD.out _ rfl)
          clear HVAL HGOOD
          go_wp2_with (fail)
          refine (HP.out _).mono ?_
          rintro e w5 ⟨rfl, hb5⟩
          have HK5 := keepHid (HK3.out.below hb5 HK3.out.lt)
          have HB5 := keepHid (HB3.out.trans (hb5.mono HB3.out.size))
          clear hb5 HP
          go_upto_region 9 with (fail)
          obtain ⟨w7, hw7⟩ : ∃ w7, w5.alloc (.cells #[.int .i64 2, .string S, .int .i64 0, .int .i64 0] 87) = w7 := ⟨_, rfl⟩
          rw [hw7]
          have hbw : Below w5.heap.size w5 w7 := by rw [← hw7]; exact (Below.refl _ _).alloc (Nat.le_refl _) _
          have HK7 : Hid (Blk w7 w5.heap.size 87 #[.int .i64 2, .string S, .int .i64 0, .int .i64 0]) := keepHid (by rw [← hw7]; exact Blk.new w5 _ _)
          have HK7r := keepHid (HK5.out.below hbw HK5.out.lt)
          have HB7 := keepHid (HB5.out.trans (hbw.mono HB5.out.size))
          have HL6 : Hid (w.heap.size < w5.heap.size) := keepHid HK5.out.lt
          clear hw7 hbw HK5 HB5
          generalize w5.heap.size = g2 at *
          obtain ⟨a0, a1, a2, a3, af⟩ := blk4 HK7.out
          go_upto_region 10 with (fail)
          obtain ⟨w8, hw8⟩ : ∃ w8, w7.setCell ⟨g2, 2, none⟩ (.int .i64 V) = w8 := ⟨_, rfl⟩
          rw [hw8]
          have HK8 : Hid (Blk w8 g2 87 #[.int .i64 2, .string S, .int .i64 V, .int .i64 0]) := keepHid (by rw [← hw8]; exact HK7.out.put 2 _)
          have HK8r : Hid (Blk w8 w.heap.size 87 #[.int .i64 0, .string ⟨#[]⟩, .int .i64 0, .int .i64 0]) := keepHid (by rw [← hw8]; exact HK7r.out.far (p := ⟨g2, 2, none⟩) (by have := HL6.out; show _ ≠ g2; omega) _)
          have HB8 : Hid (Below w.heap.size w w8) := keepHid (by rw [← hw8]; exact HB7.out.setCell (Nat.le_of_lt HL6.out) _)
          clear hw8 a0 a1 a2 a3 af HK7 HK7r HB7
          obtain ⟨a0, a1, a2, a3, af⟩ := blk4 HK8.out
          obtain ⟨b0, b1, b2, b3, bf⟩ := blk4 HK8r.out
          go_wp2
          refine bodyPost_ret (tok_res rfl _ _ w.heap.size 2 S V 0 (put4 HK8r.out) rfl _ rfl) rfl ?_
          exact ⟨by rw [HV.out]; rfl, set4 HB8.out (Nat.le_refl _) _ _ _ _⟩
    · have i48 : ¬ (cn : Int) = 48 := by omega
      have HOK : Hid (numBad l = letAt l (0 + N)) := keepHid (by rw [HNB.out, HOK0.out, decide_eq_false h48, HDV.out]; simp)
      clear HHD HNB HOK0
      rcases Nat.lt_or_ge (0 + N) M with hlt | hlt
      · obtain ⟨d, hd⟩ : ∃ d, l[0 + N]? = some d := ⟨_, List.getElem?_eq_getElem (by rw [HM.out]; exact hlt)⟩
        have hi1 : (N : Int) < (M : Int) := by omega
        have hdx : ∀ w, (Instr.index 9 (.string (strB l)) (.int .i64 (N : Int))).run Tryz.prog w = .ok (.int .u8 (d.toNat : Int)) w := fun w => run_idx hd _ (by omega) w
        have HH : Hid (∀ w, Calls Tryz.prog 36 #[.string ⟨#[97, 98, 99, 100, 101, 102, 103, 104, 105, 106, 107, 108, 109, 110, 111, 112, 113, 114, 115, 116, 117, 118, 119, 120, 121, 122]⟩, .int .u8 (d.toNat : Int)] w fun e w' => e = .returned (.bool (letL.contains d)) ∧ w' = w) := keepHid (ahas_any letL d)
        have HLA := keepHid (let_at_lt hd)
        obtain ⟨la, hla⟩ : ∃ la, letL.contains d = la := ⟨_, rfl⟩
        rw [hla] at HH HLA
        clear hla hd
        generalize d.toNat = dn at *
        cases la
        · have HGOOD : Hid (numBad l = false) := keepHid (HOK.out.trans HLA.out)
          have HV := keepHid (HVAL.out S HS.out HGOOD.out _ rfl)
          clear HVAL HGOOD
          go_wp2_with (go_at_call 36; refine (HH.out _).mono ?_; rintro e w' ⟨rfl, rfl⟩)
          refine (HP.out _).mono ?_
          rintro e w5 ⟨rfl, hb5⟩
          have HK5 := keepHid (HK3.out.below hb5 HK3.out.lt)
          have HB5 := keepHid (HB3.out.trans (hb5.mono HB3.out.size))
          clear hb5 HP
          go_upto_region 9 with (fail)
          obtain ⟨w7, hw7⟩ : ∃ w7, w5.alloc (.cells #[.int .i64 2, .string S, .int .i64 0, .int .i64 0] 87) = w7 := ⟨_, rfl⟩
          rw [hw7]
          have hbw : Below w5.heap.size w5 w7 := by rw [← hw7]; exact (Below.refl _ _).alloc (Nat.le_refl _) _
          have HK7 : Hid (Blk w7 w5.heap.size 87 #[.int .i64 2, .string S, .int .i64 0, .int .i64 0]) := keepHid (by rw [← hw7]; exact Blk.new w5 _ _)
          have HK7r := keepHid (HK5.out.below hbw HK5.out.lt)
          have HB7 := keepHid (HB5.out.trans (hbw.mono HB5.out.size))
          have HL6 : Hid (w.heap.size < w5.heap.size) := keepHid HK5.out.lt
          clear hw7 hbw HK5 HB5
          generalize w5.heap.size = g2 at *
          obtain ⟨a0, a1, a2, a3, af⟩ := blk4 HK7.out
          go_upto_region 10 with (fail)
          obtain ⟨w8, hw8⟩ : ∃ w8, w7.setCell ⟨g2, 2, none⟩ (.int .i64 V) = w8 := ⟨_, rfl⟩
          rw [hw8]
          have HK8 : Hid (Blk w8 g2 87 #[.int .i64 2, .string S, .int .i64 V, .int .i64 0]) := keepHid (by rw [← hw8]; exact HK7.out.put 2 _)
          have HK8r : Hid (Blk w8 w.heap.size 87 #[.int .i64 0, .string ⟨#[]⟩, .int .i64 0, .int .i64 0]) := keepHid (by rw [← hw8]; exact HK7r.out.far (p := ⟨g2, 2, none⟩) (by have := HL6.out; show _ ≠ g2; omega) _)
          have HB8 : Hid (Below w.heap.size w w8) := keepHid (by rw [← hw8]; exact HB7.out.setCell (Nat.le_of_lt HL6.out) _)
          clear hw8 a0 a1 a2 a3 af HK7 HK7r HB7
          obtain ⟨a0, a1, a2, a3, af⟩ := blk4 HK8.out
          obtain ⟨b0, b1, b2, b3, bf⟩ := blk4 HK8r.out
          go_wp2
          refine bodyPost_ret (tok_res rfl _ _ w.heap.size 2 S V 0 (put4 HK8r.out) rfl _ rfl) rfl ?_
          exact ⟨by rw [HV.out]; rfl, set4 HB8.out (Nat.le_refl _) _ _ _ _⟩
        · have HBAD : Hid (numBad l = true) := keepHid (HOK.out.trans HLA.out)
          go_wp2_with (refine (HH.out _).mono ?_; rintro e w' ⟨rfl, rfl⟩)
          refine bodyPost_ret (tok_res rfl _ _ w.heap.size 0 ⟨#[]⟩ 0 0 (put4 HK3.out) rfl _ rfl) rfl ?_
          exact ⟨by rw [num_bad HBAD.out]; rfl, set4 HB3.out (Nat.le_refl _) _ _ _ _⟩
      · have hi1 : (M : Int) ≤ (N : Int) := by omega
        have HGOOD : Hid (numBad l = false) := keepHid (HOK.out.trans (let_at_ge (by rw [HM.out]; exact hlt)))
        have HV := keepHid (HVAL.out S HS.out HGOOD.out _ rfl)
        clear HVAL HGOOD
        go_wp2_with (fail)
        refine (HP.out _).mono ?_
        rintro e w5 ⟨rfl, hb5⟩
        have HK5 := keepHid (HK3.out.below hb5 HK3.out.lt)
        have HB5 := keepHid (HB3.out.trans (hb5.mono HB3.out.size))
        clear hb5 HP
        go_upto_region 9 with (fail)
        obtain ⟨w7, hw7⟩ : ∃ w7, w5.alloc (.cells #[.int .i64 2, .string S, .int .i64 0, .int .i64 0] 87) = w7 := ⟨_, rfl⟩
        rw [hw7]
        have hbw : Below w5.heap.size w5 w7 := by rw [← hw7]; exact (Below.refl _ _).alloc (Nat.le_refl _) _
        have HK7 : Hid (Blk w7 w5.heap.size 87 #[.int .i64 2, .string S, .int .i64 0, .int .i64 0]) := keepHid (by rw [← hw7]; exact Blk.new w5 _ _)
        have HK7r := keepHid (HK5.out.below hbw HK5.out.lt)
        have HB7 := keepHid (HB5.out.trans (hbw.mono HB5.out.size))
        have HL6 : Hid (w.heap.size < w5.heap.size) := keepHid HK5.out.lt
        clear hw7 hbw HK5 HB5
        generalize w5.heap.size = g2 at *
        obtain ⟨a0, a1, a2, a3, af⟩ := blk4 HK7.out
        go_upto_region 10 with (fail)
        obtain ⟨w8, hw8⟩ : ∃ w8, w7.setCell ⟨g2, 2, none⟩ (.int .i64 V) = w8 := ⟨_, rfl⟩
        rw [hw8]
        have HK8 : Hid (Blk w8 g2 87 #[.int .i64 2, .string S, .int .i64 V, .int .i64 0]) := keepHid (by rw [← hw8]; exact HK7.out.put 2 _)
        have HK8r : Hid (Blk w8 w.heap.size 87 #[.int .i64 0, .string ⟨#[]⟩, .int .i64 0, .int .i64 0]) := keepHid (by rw [← hw8]; exact HK7r.out.far (p := ⟨g2, 2, none⟩) (by have := HL6.out; show _ ≠ g2; omega) _)
        have HB8 : Hid (Below w.heap.size w w8) := keepHid (by rw [← hw8]; exact HB7.out.setCell (Nat.le_of_lt HL6.out) _)
        clear hw8 a0 a1 a2 a3 af HK7 HK7r HB7
        obtain ⟨a0, a1, a2, a3, af⟩ := blk4 HK8.out
        obtain ⟨b0, b1, b2, b3, bf⟩ := blk4 HK8r.out
        go_wp2
        refine bodyPost_ret (tok_res rfl _ _ w.heap.size 2 S V 0 (put4 HK8r.out) rfl _ rfl) rfl ?_
        exact ⟨by rw [HV.out]; rfl, set4 HB8.out (Nat.le_refl _) _ _ _ _⟩
  · have HBAD : Hid (numBad l = true) := keepHid (by
      rw [HNB.out]
      rcases hbad with h | h
      · rw [h]; rfl
      · rw [decide_eq_true h]; simp)
    clear HHD HNB HVAL hbad
    go_wp2
    refine bodyPost_ret (tok_res rfl _ _ w.heap.size 0 ⟨#[]⟩ 0 0 (put4 HK3.out) rfl _ rfl) rfl ?_
    exact ⟨by rw [num_bad HBAD.out]; rfl, set4 HB3.out (Nat.le_refl _) _ _ _ _⟩

set_option maxRecDepth 100000 in
set_option maxHeartbeats 8000000 in
theorem number16 (l : List UInt8) (hl : l.length ≤ 4096) (hx : isHex l = true) (w : World) (hE : Errs w) :
    Calls Tryz.prog 61 #[.string (strB l)] w fun e w' => e = .returned (resV (numT l)) ∧ Below w.heap.size w w' := by
  have hlead : leadN l = 2 := by unfold leadN; rw [hx]; rfl
  have hbase : baseN l = 16 := by unfold baseN; rw [hx]; rfl
  have hset : digN l = hexL := by unfold digN; rw [hx]; rfl
  have hle : 2 ≤ l.length := by have := lead_le l; omega
  have hhd := @body_head l
  rw [hlead] at hhd
  obtain ⟨B, hB⟩ : ∃ B, bodyN l = B := ⟨_, rfl⟩
  obtain ⟨N, hN⟩ : ∃ N, B.length = N := ⟨_, rfl⟩
  have HN := keepHid hN
  rw [hB, hN] at hhd
  have HHD := keepHid hhd
  have hsize : sizeN l = 2 + N := by unfold sizeN; rw [hlead, hB, hN]
  have hszl := size_le l
  have hBr : runOf hexL (l.drop 2) = B := by have := hB; unfold bodyN at this; rw [hset, hlead] at this; exact this
  have hall : ∀ c ∈ B, hexL.contains c = true := fun c hc => by rw [← hBr] at hc; exact runOf_mem hc
  have hBl : B.length ≤ 65536 := by omega
  have HPF : Hid (∀ w, Calls Tryz.prog 71 #[.string (strB l), .string ⟨#[48, 120]⟩] w fun e w' => e = .returned (.bool true) ∧ w' = w) := keepHid fun w => (Tryz.strings_HasPrefix (strB l) (strB [48, 120]) w).mono fun e w' ⟨he, hw⟩ => ⟨by rw [he]; exact ret_bool hx, hw⟩
  have hfrom : ∀ w, (Instr.slice 9 (.string (strB l)) (some (.int .i64 2)) none none).run Tryz.prog w = .ok (.string (strB (l.drop 2))) w := fun w => run_from (k := 2) hle 2 rfl w
  have HRUN : Hid (∀ w, Calls Tryz.prog 60 #[.string (strB (l.drop 2)), .string ⟨#[48, 49, 50, 51, 52, 53, 54, 55, 56, 57, 97, 98, 99, 100, 101, 102]⟩] w fun e w' => e = .returned (.int .i64 (N : Int)) ∧ Below w.heap.size w w') := keepHid fun w => by
    have := run_any (l.drop 2) hexL (by decide) asc_hex (by first | omega | (simp; omega)) w
    rw [hBr, hN] at this
    exact this
  have hmid : ∀ w, (Instr.slice 9 (.string (strB l)) (some (.int .i64 2)) (some (.int .i64 (2 + (N : Int)))) none).run Tryz.prog w = .ok (.string (strB B)) w := fun w => by
    have := run_mid (l := l) (i := 2) (j := 2 + N) (by omega) (by omega) .i64 .i64 2 (2 + (N : Int)) rfl (by omega) w
    rw [this, show 2 + N - 2 = N by omega]
    have h2 := body_take l
    rw [hlead, hB, hN] at h2
    rw [h2]
  have HPU := keepHid (pparse16 B hBl hall)
  have HP : Hid (∀ w, Calls Tryz.prog 59 #[.int .i64 2, .string (strB l), .int .i64 (2 + (N : Int))] w fun e w' => e = .returned (.tuple #[.agg #[.int .i64 2, .string (strB (l.take (2 + N))), .int .i64 0, .int .i64 0], .int .i64 (2 + (N : Int))]) ∧ Below w.heap.size w w') := keepHid fun w => by
    have := plain_any 2 l (2 + N) (by omega) (by omega) w
    have e : ((2 + N : Nat) : Int) = (2 + (N : Int)) := by omega
    rw [e] at this
    exact this
  have HNB : Hid (numBad l = (!okN B || decide (4294967296 ≤ valB 16 B 0) || letAt l (2 + N))) := keepHid (by rw [numBad_is, hB, hbase, hsize])
  have hlen : (strB l).size = l.length := strB_size l
  obtain ⟨M, hM⟩ : ∃ M, l.length = M := ⟨_, rfl⟩
  have HM := keepHid hM
  rw [hM] at hlen hl hszl
  rw [hsize] at hszl
  have HVAL : Hid (∀ S, S = strB (l.take (2 + N)) → numBad l = false → ∀ v : Int, v = (valB 16 B 0 : Int) → resV (numT l) = .tuple #[.agg (tkA 2 S v 0), .int .i64 (2 + (N : Int))]) := keepHid fun S hS hb v hv => by
    rw [num_good hb, hbase, hsize, hB, hv, hS]
    have e : ((2 + N : Nat) : Int) = (2 + (N : Int)) := by omega
    simp only [resV, e]
    rfl
  obtain ⟨S, hS⟩ : ∃ S, strB (l.take (2 + N)) = S := ⟨_, rfl⟩
  rw [hS] at HP
  have HS := keepHid hS.symm
  obtain ⟨w1, hw1⟩ : ∃ w1, w.alloc (.cells #[.int .i64 0, .string ⟨#[]⟩, .int .i64 0, .int .i64 0] 87) = w1 := ⟨_, rfl⟩
  have HR := keepHid (tok_new w w1 hw1)
  have HE := keepHid (hE.below HR.out.2 (Nat.le_refl _))
  clear hS hE hx hlead hbase hset hsize hBr hall hhd hB hN hM hBl
  go_enter Tryz.func61, Tryz.ntmps61
  go_wp2_with fail
  refine (HPF.out _).mono ?_; rintro e w' ⟨rfl, rfl⟩
  clear hw1
  go_wp2_with fail
  refine (HRUN.out _).mono ?_
  rintro e w2 ⟨rfl, hb2⟩
  have HK2 := keepHid (HR.out.1.below hb2 HR.out.1.lt)
  have HB2 := keepHid (HR.out.2.trans (hb2.mono HR.out.2.size))
  have HE2 := keepHid (HE.out.below hb2 (Nat.le_refl _))
  clear hb2 HRUN HPF HR HE
  go_wp2_with fail
  refine (HPU.out _ HE2.out).mono ?_
  rintro e w3 ⟨hcase, hb3⟩
  have HK3 := keepHid (HK2.out.below hb3 HK2.out.lt)
  have HB3 := keepHid (HB2.out.trans (hb3.mono HB2.out.size))
  obtain ⟨c0, c1, c2, c3, cf⟩ := blk4 HK3.out
  clear hb3 HPU hfrom hmid HK2 HB2 HE2
  rcases hcase with ⟨hne, hv, rfl⟩ | ⟨hbad, x, N2, rfl⟩
  · obtain ⟨c, hc, hok⟩ := HHD.out (by first | exact hne | (intro e; exact hne e))
    have HV0 := keepHid hv
    have h1N : 1 ≤ N := by
      rcases Nat.eq_zero_or_pos N with h | h
      · exact absurd (List.eq_nil_of_length_eq_zero (by rw [HN.out]; exact h)) hne
      · exact h
    have hix := fun w => run_idx hc 2 rfl w
    have HOK0 := keepHid hok
    obtain ⟨cn, hcn⟩ : ∃ cn, c.toNat = cn := ⟨_, rfl⟩
    rw [hcn] at hix HOK0
    have hvb : (valB 16 B 0 : Int) < 4294967296 := by omega
    have hvg : (0 : Int) ≤ (valB 16 B 0 : Int) := by omega
    have HDV : Hid (decide (4294967296 ≤ valB 16 B 0) = false) := keepHid (decide_eq_false (by have := HV0.out; omega))
    obtain ⟨V, hV⟩ : ∃ V, (valB 16 B 0 : Int) = V := ⟨_, rfl⟩
    rw [hV] at hvb hvg ⊢
    have HVV := keepHid hV
    have HVAL' : Hid (∀ S, S = strB (l.take (2 + N)) → numBad l = false → ∀ v : Int, v = V → resV (numT l) = .tuple #[.agg (tkA 2 S v 0), .int .i64 (2 + (N : Int))]) := keepHid fun S h1 h2 v h3 => HVAL.out S h1 h2 v (by rw [h3, HVV.out])
    clear HVAL hV hcn hc hok hv hne
    have HVAL := HVAL'
    clear HVAL'
    by_cases h48 : cn = 48
    · have i48 : (cn : Int) = 48 := by omega
      by_cases hgt : 1 < N
      · have igt : (1 : Int) < (N : Int) := by omega
        have HBAD : Hid (numBad l = true) := keepHid (by rw [HNB.out, HOK0.out, decide_eq_true h48, decide_eq_true hgt, HDV.out]; first | rfl | simp)
        clear HHD HNB HOK0 HVAL
        go_wp2
        refine bodyPost_ret (tok_res rfl _ _ w.heap.size 0 ⟨#[]⟩ 0 0 (put4 HK3.out) rfl _ rfl) rfl ?_
        exact ⟨by rw [num_bad HBAD.out]; rfl, set4 HB3.out (Nat.le_refl _) _ _ _ _⟩
      · have igt : ¬ (1 : Int) < (N : Int) := by omega
        have HOK : Hid (numBad l = letAt l (2 + N)) := keepHid (by rw [HNB.out, HOK0.out, decide_eq_false hgt, HDV.out]; simp)
        clear HHD HNB HOK0
        rcases Nat.lt_or_ge (2 + N) M with hlt | hlt
        · obtain ⟨d, hd⟩ : ∃ d, l[2 + N]? = some d := ⟨_, List.getElem?_eq_getElem (by rw [HM.out]; exact hlt)⟩
          have hi1 : (2 + (N : Int)) < (M : Int) := by omega
          have hdx : ∀ w, (Instr.index 9 (.string (strB l)) (.int .i64 (2 + (N : Int)))).run Tryz.prog w = .ok (.int .u8 (d.toNat : Int)) w := fun w => run_idx hd _ (by omega) w
          have HH : Hid (∀ w, Calls Tryz.prog 36 #[.string ⟨#[97, 98, 99, 100, 101, 102, 103, 104, 105, 106, 107, 108, 109, 110, 111, 112, 113, 114, 115, 116, 117, 118, 119, 120, 121, 122]⟩, .int .u8 (d.toNat : Int)] w fun e w' => e = .returned (.bool (letL.contains d)) ∧ w' = w) := keepHid (ahas_any letL d)
          have HLA := keepHid (let_at_lt hd)
          obtain ⟨la, hla⟩ : ∃ la, letL.contains d = la := ⟨_, rfl⟩
          rw [hla] at HH HLA
          clear hla hd
          generalize d.toNat = dn at *
          cases la
          · have HGOOD : Hid (numBad l = false) := keepHid (HOK.out.trans HLA.out)
            have HV := keepHid (HVAL.out S HS.out HGOOD.out _ rfl)
            clear HVAL HGOOD
            go_wp2_with (go_at_call 36; refine (HH.out _).mono ?_; rintro e w' ⟨rfl, rfl⟩)
            refine (HP.out _).mono ?_
            rintro e w5 ⟨rfl, hb5⟩
            have HK5 := keepHid (HK3.out.below hb5 HK3.out.lt)
            have HB5 := keepHid (HB3.out.trans (hb5.mono HB3.out.size))
            clear hb5 HP
            go_upto_region 9 with (fail)
            obtain ⟨w7, hw7⟩ : ∃ w7, w5.alloc (.cells #[.int .i64 2, .string S, .int .i64 0, .int .i64 0] 87) = w7 := ⟨_, rfl⟩
            rw [hw7]
            have hbw : Below w5.heap.size w5 w7 := by rw [← hw7]; exact (Below.refl _ _).alloc (Nat.le_refl _) _
            have HK7 : Hid (Blk w7 w5.heap.size 87 #[.int .i64 2, .string S, .int .i64 0, .int .i64 0]) := keepHid (by rw [← hw7]; exact Blk.new w5 _ _)
            have HK7r := keepHid (HK5.out.below hbw HK5.out.lt)
            have HB7 := keepHid (HB5.out.trans (hbw.mono HB5.out.size))
            have HL6 : Hid (w.heap.size < w5.heap.size) := keepHid HK5.out.lt
            clear hw7 hbw HK5 HB5
            generalize w5.heap.size = g2 at *
            obtain ⟨a0, a1, a2, a3, af⟩ := blk4 HK7.out
            go_upto_region 10 with (fail)
            obtain ⟨w8, hw8⟩ : ∃ w8, w7.setCell ⟨g2, 2, none⟩ (.int .i64 V) = w8 := ⟨_, rfl⟩
            rw [hw8]
            have HK8 : Hid (Blk w8 g2 87 #[.int .i64 2, .string S, .int .i64 V, .int .i64 0]) := keepHid (by rw [← hw8]; exact HK7.out.put 2 _)
            have HK8r : Hid (Blk w8 w.heap.size 87 #[.int .i64 0, .string ⟨#[]⟩, .int .i64 0, .int .i64 0]) := keepHid (by rw [← hw8]; exact HK7r.out.far (p := ⟨g2, 2, none⟩) (by have := HL6.out; show _ ≠ g2; omega) _)
            have HB8 : Hid (Below w.heap.size w w8) := keepHid (by rw [← hw8]; exact HB7.out.setCell (Nat.le_of_lt HL6.out) _)
            clear hw8 a0 a1 a2 a3 af HK7 HK7r HB7
            obtain ⟨a0, a1, a2, a3, af⟩ := blk4 HK8.out
            obtain ⟨b0, b1, b2, b3, bf⟩ := blk4 HK8r.out
            go_wp2
            refine bodyPost_ret (tok_res rfl _ _ w.heap.size 2 S V 0 (put4 HK8r.out) rfl _ rfl) rfl ?_
            exact ⟨by rw [HV.out]; rfl, set4 HB8.out (Nat.le_refl _) _ _ _ _⟩
          · have HBAD : Hid (numBad l = true) := keepHid (HOK.out.trans HLA.out)
            go_wp2_with (refine (HH.out _).mono ?_; rintro e w' ⟨rfl, rfl⟩)
            refine bodyPost_ret (tok_res rfl _ _ w.heap.size 0 ⟨#[]⟩ 0 0 (put4 HK3.out) rfl _ rfl) rfl ?_
            exact ⟨by rw [num_bad HBAD.out]; rfl, set4 HB3.out (Nat.le_refl _) _ _ _ _⟩
        · have hi1 : (M : Int) ≤ (2 + (N : Int)) := by omega
          have HGOOD : Hid (numBad l = false) := keepHid (HOK.out.trans (let_at_ge (by rw [HM.out]; exact hlt)))
          have HV := keepHid (HVAL.out S HS.out HGOOD.out _ rfl)
          clear HVAL HGOOD
          go_wp2_with (fail)
          refine (HP.out _).mono ?_
          rintro e w5 ⟨rfl, hb5⟩
          have HK5 := keepHid (HK3.out.below hb5 HK3.out.lt)
          have HB5 := keepHid (HB3.out.trans (hb5.mono HB3.out.size))
          clear hb5 HP
          go_upto_region 9 with (fail)
          obtain ⟨w7, hw7⟩ : ∃ w7, w5.alloc (.cells #[.int .i64 2, .string S, .int .i64 0, .int .i64 0] 87) = w7 := ⟨_, rfl⟩
          rw [hw7]
          have hbw : Below w5.heap.size w5 w7 := by rw [← hw7]; exact (Below.refl _ _).alloc (Nat.le_refl _) _
          have HK7 : Hid (Blk w7 w5.heap.size 87 #[.int .i64 2, .string S, .int .i64 0, .int .i64 0]) := keepHid (by rw [← hw7]; exact Blk.new w5 _ _)
          have HK7r := keepHid (HK5.out.below hbw HK5.out.lt)
          have HB7 := keepHid (HB5.out.trans (hbw.mono HB5.out.size))
          have HL6 : Hid (w.heap.size < w5.heap.size) := keepHid HK5.out.lt
          clear hw7 hbw HK5 HB5
          generalize w5.heap.size = g2 at *
          obtain ⟨a0, a1, a2, a3, af⟩ := blk4 HK7.out
          go_upto_region 10 with (fail)
          obtain ⟨w8, hw8⟩ : ∃ w8, w7.setCell ⟨g2, 2, none⟩ (.int .i64 V) = w8 := ⟨_, rfl⟩
          rw [hw8]
          have HK8 : Hid (Blk w8 g2 87 #[.int .i64 2, .string S, .int .i64 V, .int .i64 0]) := keepHid (by rw [← hw8]; exact HK7.out.put 2 _)
          have HK8r : Hid (Blk w8 w.heap.size 87 #[.int .i64 0, .string ⟨#[]⟩, .int .i64 0, .int .i64 0]) := keepHid (by rw [← hw8]; exact HK7r.out.far (p := ⟨g2, 2, none⟩) (by have := HL6.out; show _ ≠ g2; omega) _)
          have HB8 : Hid (Below w.heap.size w w8) := keepHid (by rw [← hw8]; exact HB7.out.setCell (Nat.le_of_lt HL6.out) _)
          clear hw8 a0 a1 a2 a3 af HK7 HK7r HB7
          obtain ⟨a0, a1, a2, a3, af⟩ := blk4 HK8.out
          obtain ⟨b0, b1, b2, b3, bf⟩ := blk4 HK8r.out
          go_wp2
          refine bodyPost_ret (tok_res rfl _ _ w.heap.size 2 S V 0 (put4 HK8r.out) rfl _ rfl) rfl ?_
          exact ⟨by rw [HV.out]; rfl, set4 HB8.out (Nat.le_refl _) _ _ _ _⟩
    · have i48 : ¬ (cn : Int) = 48 := by omega
      have HOK : Hid (numBad l = letAt l (2 + N)) := keepHid (by rw [HNB.out, HOK0.out, decide_eq_false h48, HDV.out]; simp)
      clear HHD HNB HOK0
      rcases Nat.lt_or_ge (2 + N) M with hlt | hlt
      · obtain ⟨d, hd⟩ : ∃ d, l[2 + N]? = some d := ⟨_, List.getElem?_eq_getElem (by rw [HM.out]; exact hlt)⟩
        have hi1 : (2 + (N : Int)) < (M : Int) := by omega
        have hdx : ∀ w, (Instr.index 9 (.string (strB l)) (.int .i64 (2 + (N : Int)))).run Tryz.prog w = .ok (.int .u8 (d.toNat : Int)) w := fun w => run_idx hd _ (by omega) w
        have HH : Hid (∀ w, Calls Tryz.prog 36 #[.string ⟨#[97, 98, 99, 100, 101, 102, 103, 104, 105, 106, 107, 108, 109, 110, 111, 112, 113, 114, 115, 116, 117, 118, 119, 120, 121, 122]⟩, .int .u8 (d.toNat : Int)] w fun e w' => e = .returned (.bool (letL.contains d)) ∧ w' = w) := keepHid (ahas_any letL d)
        have HLA := keepHid (let_at_lt hd)
        obtain ⟨la, hla⟩ : ∃ la, letL.contains d = la := ⟨_, rfl⟩
        rw [hla] at HH HLA
        clear hla hd
        generalize d.toNat = dn at *
        cases la
        · have HGOOD : Hid (numBad l = false) := keepHid (HOK.out.trans HLA.out)
          have HV := keepHid (HVAL.out S HS.out HGOOD.out _ rfl)
          clear HVAL HGOOD
          go_wp2_with (go_at_call 36; refine (HH.out _).mono ?_; rintro e w' ⟨rfl, rfl⟩)
          refine (HP.out _).mono ?_
          rintro e w5 ⟨rfl, hb5⟩
          have HK5 := keepHid (HK3.out.below hb5 HK3.out.lt)
          have HB5 := keepHid (HB3.out.trans (hb5.mono HB3.out.size))
          clear hb5 HP
          go_upto_region 9 with (fail)
          obtain ⟨w7, hw7⟩ : ∃ w7, w5.alloc (.cells #[.int .i64 2, .string S, .int .i64 0, .int .i64 0] 87) = w7 := ⟨_, rfl⟩
          rw [hw7]
          have hbw : Below w5.heap.size w5 w7 := by rw [← hw7]; exact (Below.refl _ _).alloc (Nat.le_refl _) _
          have HK7 : Hid (Blk w7 w5.heap.size 87 #[.int .i64 2, .string S, .int .i64 0, .int .i64 0]) := keepHid (by rw [← hw7]; exact Blk.new w5 _ _)
          have HK7r := keepHid (HK5.out.below hbw HK5.out.lt)
          have HB7 := keepHid (HB5.out.trans (hbw.mono HB5.out.size))
          have HL6 : Hid (w.heap.size < w5.heap.size) := keepHid HK5.out.lt
          clear hw7 hbw HK5 HB5
          generalize w5.heap.size = g2 at *
          obtain ⟨a0, a1, a2, a3, af⟩ := blk4 HK7.out
          go_upto_region 10 with (fail)
          obtain ⟨w8, hw8⟩ : ∃ w8, w7.setCell ⟨g2, 2, none⟩ (.int .i64 V) = w8 := ⟨_, rfl⟩
          rw [hw8]
          have HK8 : Hid (Blk w8 g2 87 #[.int .i64 2, .string S, .int .i64 V, .int .i64 0]) := keepHid (by rw [← hw8]; exact HK7.out.put 2 _)
          have HK8r : Hid (Blk w8 w.heap.size 87 #[.int .i64 0, .string ⟨#[]⟩, .int .i64 0, .int .i64 0]) := keepHid (by rw [← hw8]; exact HK7r.out.far (p := ⟨g2, 2, none⟩) (by have := HL6.out; show _ ≠ g2; omega) _)
          have HB8 : Hid (Below w.heap.size w w8) := keepHid (by rw [← hw8]; exact HB7.out.setCell (Nat.le_of_lt HL6.out) _)
          clear hw8 a0 a1 a2 a3 af HK7 HK7r HB7
          obtain ⟨a0, a1, a2, a3, af⟩ := blk4 HK8.out
          obtain ⟨b0, b1, b2, b3, bf⟩ := blk4 HK8r.out
          go_wp2
          refine bodyPost_ret (tok_res rfl _ _ w.heap.size 2 S V 0 (put4 HK8r.out) rfl _ rfl) rfl ?_
          exact ⟨by rw [HV.out]; rfl, set4 HB8.out (Nat.le_refl _) _ _ _ _⟩
        · have HBAD : Hid (numBad l = true) := keepHid (HOK.out.trans HLA.out)
          go_wp2_with (refine (HH.out _).mono ?_; rintro e w' ⟨rfl, rfl⟩)
          refine bodyPost_ret (tok_res rfl _ _ w.heap.size 0 ⟨#[]⟩ 0 0 (put4 HK3.out) rfl _ rfl) rfl ?_
          exact ⟨by rw [num_bad HBAD.out]; rfl, set4 HB3.out (Nat.le_refl _) _ _ _ _⟩
      · have hi1 : (M : Int) ≤ (2 + (N : Int)) := by omega
        have HGOOD : Hid (numBad l = false) := keepHid (HOK.out.trans (let_at_ge (by rw [HM.out]; exact hlt)))
        have HV := keepHid (HVAL.out S HS.out HGOOD.out _ rfl)
        clear HVAL HGOOD
        go_wp2_with (fail)
        refine (HP.out _).mono ?_
        rintro e w5 ⟨rfl, hb5⟩
        have HK5 := keepHid (HK3.out.below hb5 HK3.out.lt)
        have HB5 := keepHid (HB3.out.trans (hb5.mono HB3.out.size))
        clear hb5 HP
        go_upto_region 9 with (fail)
        obtain ⟨w7, hw7⟩ : ∃ w7, w5.alloc (.cells #[.int .i64 2, .string S, .int .i64 0, .int .i64 0] 87) = w7 := ⟨_, rfl⟩
        rw [hw7]
        have hbw : Below w5.heap.size w5 w7 := by rw [← hw7]; exact (Below.refl _ _).alloc (Nat.le_refl _) _
        have HK7 : Hid (Blk w7 w5.heap.size 87 #[.int .i64 2, .string S, .int .i64 0, .int .i64 0]) := keepHid (by rw [← hw7]; exact Blk.new w5 _ _)
        have HK7r := keepHid (HK5.out.below hbw HK5.out.lt)
        have HB7 := keepHid (HB5.out.trans (hbw.mono HB5.out.size))
        have HL6 : Hid (w.heap.size < w5.heap.size) := keepHid HK5.out.lt
        clear hw7 hbw HK5 HB5
        generalize w5.heap.size = g2 at *
        obtain ⟨a0, a1, a2, a3, af⟩ := blk4 HK7.out
        go_upto_region 10 with (fail)
        obtain ⟨w8, hw8⟩ : ∃ w8, w7.setCell ⟨g2, 2, none⟩ (.int .i64 V) = w8 := ⟨_, rfl⟩
        rw [hw8]
        have HK8 : Hid (Blk w8 g2 87 #[.int .i64 2, .string S, .int .i64 V, .int .i64 0]) := keepHid (by rw [← hw8]; exact HK7.out.put 2 _)
        have HK8r : Hid (Blk w8 w.heap.size 87 #[.int .i64 0, .string ⟨#[]⟩, .int .i64 0, .int .i64 0]) := keepHid (by rw [← hw8]; exact HK7r.out.far (p := ⟨g2, 2, none⟩) (by have := HL6.out; show _ ≠ g2; omega) _)
        have HB8 : Hid (Below w.heap.size w w8) := keepHid (by rw [← hw8]; exact HB7.out.setCell (Nat.le_of_lt HL6.out) _)
        clear hw8 a0 a1 a2 a3 af HK7 HK7r HB7
        obtain ⟨a0, a1, a2, a3, af⟩ := blk4 HK8.out
        obtain ⟨b0, b1, b2, b3, bf⟩ := blk4 HK8r.out
        go_wp2
        refine bodyPost_ret (tok_res rfl _ _ w.heap.size 2 S V 0 (put4 HK8r.out) rfl _ rfl) rfl ?_
        exact ⟨by rw [HV.out]; rfl, set4 HB8.out (Nat.le_refl _) _ _ _ _⟩
  · have HBAD : Hid (numBad l = true) := keepHid (by
      rw [HNB.out]
      rcases hbad with h | h
      · rw [h]; rfl
      · rw [decide_eq_true h]; simp)
    clear HHD HNB HVAL hbad
    go_wp2
    refine bodyPost_ret (tok_res rfl _ _ w.heap.size 0 ⟨#[]⟩ 0 0 (put4 HK3.out) rfl _ rfl) rfl ?_
    exact ⟨by rw [num_bad HBAD.out]; rfl, set4 HB3.out (Nat.le_refl _) _ _ _ _⟩


/-- So far the text has made this of it. -/
def Stx (l : List UInt8) (k : Nat) (acc : List UInt8) : Prop := strT (l.drop 1) = (strT (l.drop k)).map fun x => (acc ++ x.1, x.2 + (k - 1))
theorem stx_0 (l : List UInt8) : Stx l 1 [] := by
  unfold Stx
  cases strT (l.drop 1) <;> simp
theorem drop_at {l : List UInt8} {k : Nat} {c : UInt8} (h : l[k]? = some c) : l.drop k = c :: l.drop (k + 1) := by
  obtain ⟨hk, hc⟩ := List.getElem?_eq_some_iff.1 h
  rw [List.drop_eq_getElem_cons hk, hc]
theorem strT_bad {c : UInt8} {r : List UInt8} (h1 : c ≠ 34) (h2 : c ≠ 92) (h : prn c = false) : strT (c :: r) = none := by
  cases r with
  | nil => simp [strT, h1]
  | cons e r => rw [strT, if_neg h1, if_neg h2, if_neg (by rw [h]; decide)]
theorem stx_end {l acc : List UInt8} {k : Nat} (h : Stx l k acc) (hk : l.length ≤ k) : strT (l.drop 1) = none := by
  unfold Stx at h; rw [h, List.drop_of_length_le hk]; rfl
theorem stx_quote {l acc : List UInt8} {k : Nat} (h : Stx l k acc) (hk : l[k]? = some 34) (h1 : 1 ≤ k) : strT (l.drop 1) = some (acc, k) := by
  unfold Stx at h
  rw [h, drop_at hk, strT_quote]
  simp; omega
theorem stx_bad {l acc : List UInt8} {k : Nat} {c : UInt8} (h : Stx l k acc) (hk : l[k]? = some c) (h1 : c ≠ 34) (h2 : c ≠ 92) (hp : prn c = false) : strT (l.drop 1) = none := by
  unfold Stx at h
  rw [h, drop_at hk, strT_bad h1 h2 hp]; rfl
theorem stx_prn {l acc : List UInt8} {k : Nat} {c : UInt8} (h : Stx l k acc) (hk : l[k]? = some c) (h0 : 1 ≤ k) (h1 : c ≠ 34) (h2 : c ≠ 92) (hp : prn c = true) : Stx l (k + 1) (acc ++ [c]) := by
  unfold Stx at h ⊢
  rw [h, drop_at hk, strT_prn h1 h2 hp]
  cases strT (l.drop (k + 1)) with
  | none => rfl
  | some x => simp; omega
theorem stx_esc {l acc : List UInt8} {k : Nat} (h : Stx l k acc) (hk : l[k]? = some 92) (h0 : 1 ≤ k) :
    (escV (l.drop (k + 1)) = .tuple #[.int .u8 0, .bool false] ∧ strT (l.drop 1) = none) ∨
    ∃ d : UInt8, escV (l.drop (k + 1)) = .tuple #[.int .u8 (d.toNat : Int), .bool true] ∧ k + 1 < l.length ∧ Stx l (k + 2) (acc ++ [d]) := by
  unfold Stx at h ⊢
  rw [h, drop_at hk]
  cases hr : l.drop (k + 1) with
  | nil => exact .inl ⟨rfl, by simp [strT]⟩
  | cons e r =>
    have hlt : k + 1 < l.length := by
      rcases Nat.lt_or_ge (k + 1) l.length with hl | hl
      · exact hl
      · rw [List.drop_of_length_le hl] at hr; cases hr
    have hd2 : l.drop (k + 2) = r := by
      have : l.drop (k + 1 + 1) = (l.drop (k + 1)).drop 1 := by rw [List.drop_drop]
      rw [show k + 2 = k + 1 + 1 by omega, this, hr]; rfl
    cases hd : escD e with
    | none => exact .inl ⟨by simp only [escV, hd], by rw [strT, if_neg (by decide), if_pos rfl, hd]; rfl⟩
    | some d =>
      refine .inr ⟨d, by simp only [escV, hd], hlt, ?_⟩
      rw [hd2, strT, if_neg (by decide), if_pos rfl, hd]
      simp only
      cases strT r with
      | none => rfl
      | some x => simp; omega
/-- What holds in the loop. -/
structure TxR (w : World) (l : List UInt8) (k : Nat) (bv : Value) (n : Nat) (acc : List UInt8) (wr : World) : Prop where
  own : OwnB wr (w.heap.size + 1) 5 bv n acc
  res : Blk wr w.heap.size 87 #[.int .i64 0, .string ⟨#[]⟩, .int .i64 0, .int .i64 0]
  bel : Below w.heap.size w wr
  stx : Stx l k acc
  one : 1 ≤ k
  len : n < k
theorem txr_step {w wq wa w' : World} {l acc : List UInt8} {k k' n c c' : Nat} {A A' : Option Addr} {d : UInt8} (h : TxR w l k (.slice A n c) n acc wq) (hb : Below wq.heap.size wq wa) (ho : OwnB w' (w.heap.size + 1) 5 (.slice A' (n + 1) c') (n + 1) (acc ++ [d]))
    (ht : Turn (fun i => (Value.slice A n c).ownBlock = some i) wa w') (hst : Stx l k' (acc ++ [d])) (hk : k < k') : TxR w l k' (.slice A' (n + 1) c') (n + 1) (acc ++ [d]) w' := by
  have hg := h.res.lt
  have hbase := own_base h.own
  refine ⟨ho, ht.blk (h.res.below hb hg) (fun e => ?_), (h.bel.trans (hb.mono h.bel.size)).trans (ht.below (fun i hi => ?_) (Nat.le_trans h.bel.size hb.size)), hst, by have := h.one; omega, by have := h.len; omega⟩
  · have := hbase _ e; omega
  · have := hbase _ hi; omega
set_option maxRecDepth 100000 in
set_option maxHeartbeats 4000000 in
theorem ttext_any (l : List UInt8) (hl : l.length ≤ 4096) (hne : l ≠ []) (w : World) :
    Calls Tryz.prog 62 #[.string (strB l)] w fun e w' => e = .returned (resV (textT l)) ∧ Below w.heap.size w w' := by
  obtain ⟨w1, hw1⟩ : ∃ w1, w.alloc (.cells #[.int .i64 0, .string ⟨#[]⟩, .int .i64 0, .int .i64 0] 87) = w1 := ⟨_, rfl⟩
  have hsz1 : w1.heap.size = w.heap.size + 1 := by rw [← hw1]; simp
  have HR := keepHid (tok_new w w1 hw1)
  have hlen : (strB l).size = l.length := strB_size l
  have h1 : 1 ≤ l.length := by
    cases l with
    | nil => exact absurd rfl hne
    | cons a r => simp
  obtain ⟨N, hN⟩ : ∃ N, l.length = N := ⟨_, rfl⟩
  have HN := keepHid hN
  rw [hN] at hlen hl h1
  have HS0 : Hid (TxR w l 1 (.slice none 0 0) 0 [] w1) := keepHid ⟨OwnB.nil _ _ _, HR.out.1, HR.out.2, stx_0 l, Nat.le_refl _, by omega⟩
  have HNO : Hid (strT (l.drop 1) = none → resV (textT l) = .tuple #[.agg (tkA 0 ⟨#[]⟩ 0 0), .int .i64 0]) := keepHid fun h => by unfold textT; rw [h]; rfl
  have HYES : Hid (∀ acc k, strT (l.drop 1) = some (acc, k) → resV (textT l) = .tuple #[.agg (tkA 3 (strB acc) 0 0), .int .i64 ((k : Int) + 1)]) := keepHid fun acc k h => by unfold textT; rw [h]; rfl
  clear hN hne
  go_enter Tryz.func62, Tryz.ntmps62
  go_wp2
  clear hw1
  go_loopw [4, 5] (fun bv iv wr => ∃ (k n : Nat) (A : Option Addr) (c : Nat) (acc : List UInt8), k ≤ N ∧ bv = .slice A n c ∧ iv = .int .i64 (k : Int) ∧ Hid (TxR w l k (.slice A n c) n acc wr)) (fun _ iv _ => N - (intOf iv).toNat)
  case atStart => exact ⟨1, 0, none, 0, [], h1, rfl, rfl, HS0⟩
  case round =>
    obtain ⟨k, n, A, c, acc, hk, rfl, rfl, HX⟩ := hrel
    generalize wr = wq at *
    obtain ⟨c0, c1, c2, c3, cf⟩ := blk4 HX.out.res
    have hk1 := HX.out.one
    have hnk := HX.out.len
    by_cases hkN : k < N
    · obtain ⟨ch, hch⟩ : ∃ ch, l[k]? = some ch := ⟨_, List.getElem?_eq_getElem (by rw [HN.out]; exact hkN)⟩
      have hidx := fun w => run_idx hch (k : Int) rfl w
      have HCH := keepHid hch
      obtain ⟨cn, hcn⟩ : ∃ cn, ch.toNat = cn := ⟨_, rfl⟩
      have hc256 : cn < 256 := by rw [← hcn]; exact ch.toNat_lt
      have HEQ : Hid (∀ d : UInt8, (ch = d) ↔ cn = d.toNat) := keepHid fun d => by rw [← hcn]; exact ⟨fun h => by rw [h], fun h => UInt8.toNat_inj.1 h⟩
      have HPR := keepHid (printable_any ch)
      rw [hcn] at hidx HPR
      clear hch
      by_cases h34 : cn = 34
      · have hstr := run_str (P := Tryz.prog) (c := c) 31 5 9 Tryz.underlying31 Tryz.underlying5 Tryz.underlying9 (HX.out.own.bys (by omega))
        have HV := keepHid (HYES.out acc k (stx_quote HX.out.stx (by rw [HCH.out, (HEQ.out 34).2 h34]) HX.out.one))
        subst h34
        clear HPR HYES HNO HEQ
        generalize strB acc = S at *
        go_wp2
        refine bodyPost_ret (tok_res rfl _ _ w.heap.size 3 S 0 0 (put4 HX.out.res) rfl _ rfl) rfl ?_
        exact ⟨by rw [HV.out]; try rfl, set4 HX.out.bel (Nat.le_refl _) _ _ _ _⟩
      · by_cases h92 : cn = 92
        · have hfrom : ∀ w, (Instr.slice 9 (.string (strB l)) (some (.int .i64 ((k : Int) + 1))) none none).run Tryz.prog w = .ok (.string (strB (l.drop (k + 1)))) w := fun w => run_from (k := k + 1) (by rw [HN.out]; omega) _ (by omega) w
          have HESC := keepHid (escaped_any (l.drop (k + 1)))
          have hcase := stx_esc HX.out.stx (by rw [HCH.out, (HEQ.out 92).2 h92]) HX.out.one
          subst h92
          rcases hcase with ⟨hv, hno⟩ | ⟨d, hv, hlt, hst⟩
          · rw [hv] at HESC
            have HV := keepHid (HNO.out hno)
            clear HPR HYES HNO HEQ hv hno h34
            go_wp2_with (refine (HESC.out _).mono ?_; rintro e w' ⟨rfl, rfl⟩)
            refine bodyPost_ret (tok_res rfl _ _ w.heap.size 0 ⟨#[]⟩ 0 0 (put4 HX.out.res) rfl _ rfl) rfl ?_
            exact ⟨by rw [HV.out]; try rfl, set4 HX.out.bel (Nat.le_refl _) _ _ _ _⟩
          · rw [hv] at HESC
            have HST := keepHid hst
            rw [HN.out] at hlt
            clear HPR HYES HNO HEQ hv hst h34
            have hbn : w.heap.size + 1 ≤ wq.heap.size := HX.out.res.lt
            have hbd : Below wq.heap.size wq (wq.alloc (.cells #[.int .u8 (d.toNat : Int)] 5)) := (Below.refl _ _).alloc (Nat.le_refl _) _
            have HB1 : Hid (Bys (wq.alloc (.cells #[.int .u8 (d.toNat : Int)] 5)) (wq.heap.size + 1) (some ⟨wq.heap.size, 0, none⟩) 1 [d]) := keepHid (bys_new wq 5 [d] 1 rfl (by decide) _ rfl _ rfl)
            have HO1 := keepHid (HX.out.own.alloc (.cells #[.int .u8 (d.toNat : Int)] 5))
            have HBD := keepHid hbd
            clear hbd
            go_wp2_with (first | (refine (HESC.out _).mono ?_; rintro e w' ⟨rfl, rfl⟩) | (at_builtin; refine wpList_append_bytes _ rfl _ _ 31 rfl (w.heap.size + 1) 5 byteT (.slice A n c) n acc (by rfl) HO1.out _ _ 1 1 [d] (by rfl) HB1.out (n + 1) rfl (by omega) (by simp; omega) ?_))
            intro A2 c2' w4 q1 q2 q3 q4 q5
            have HX2 := keepHid (txr_step HX.out HBD.out q1 q2 HST.out (by omega))
            clear q1 q2 q3 q4 q5 HX HBD HO1 HB1 HST HESC
            go_wp2
            go_roundw
            case rel => exact ⟨k + 2, n + 1, A2, c2', _, by omega, rfl, by go_num, HX2⟩
            case measure => simp [intOf]; omega
        · have hn1 : ch ≠ 34 := fun e => h34 ((HEQ.out 34).1 e)
          have hn2 : ch ≠ 92 := fun e => h92 ((HEQ.out 92).1 e)
          have i34 : ((cn : Int) == 34) = false := by simp; omega
          have i92 : ((cn : Int) == 92) = false := by simp; omega
          cases hp : prn ch with
          | false =>
            have HV := keepHid (HNO.out (stx_bad HX.out.stx HCH.out hn1 hn2 hp))
            rw [hp] at HPR
            clear HYES HNO HEQ hp hn1 hn2
            go_wp2_with (refine (HPR.out _).mono ?_; rintro e w' ⟨rfl, rfl⟩)
            refine bodyPost_ret (tok_res rfl _ _ w.heap.size 0 ⟨#[]⟩ 0 0 (put4 HX.out.res) rfl _ rfl) rfl ?_
            exact ⟨by rw [HV.out]; try rfl, set4 HX.out.bel (Nat.le_refl _) _ _ _ _⟩
          | true =>
            have HST := keepHid (stx_prn HX.out.stx HCH.out HX.out.one hn1 hn2 hp)
            rw [hp] at HPR
            have hbn : w.heap.size + 1 ≤ wq.heap.size := HX.out.res.lt
            have HCN := keepHid hcn
            have HB1 : Hid (Bys (wq.alloc (.cells #[.int .u8 (cn : Int)] 5)) (wq.heap.size + 1) (some ⟨wq.heap.size, 0, none⟩) 1 [ch]) := keepHid (by rw [← hcn]; exact bys_new wq 5 [ch] 1 rfl (by decide) _ rfl _ rfl)
            have HO1 := keepHid (HX.out.own.alloc (.cells #[.int .u8 (cn : Int)] 5))
            have HBD : Hid (Below wq.heap.size wq (wq.alloc (.cells #[.int .u8 (cn : Int)] 5))) := keepHid ((Below.refl _ _).alloc (Nat.le_refl _) _)
            clear HYES HNO HEQ hp hn1 hn2 hcn
            go_wp2_with (first | (refine (HPR.out _).mono ?_; rintro e w' ⟨rfl, rfl⟩) | (at_builtin; refine wpList_append_bytes _ rfl _ _ 31 rfl (w.heap.size + 1) 5 byteT (.slice A n c) n acc (by rfl) HO1.out _ _ 1 1 [ch] (by rfl) HB1.out (n + 1) rfl (by omega) (by simp; omega) ?_))
            intro A2 c2' w4 q1 q2 q3 q4 q5
            have HX2 := keepHid (txr_step HX.out HBD.out q1 q2 HST.out (by omega))
            clear q1 q2 q3 q4 q5 HX HBD HO1 HB1 HST HPR
            go_wp2
            go_roundw
            case rel => exact ⟨k + 1, n + 1, A2, c2', _, by omega, rfl, by go_num, HX2⟩
            case measure => simp [intOf]; omega
    · obtain rfl : k = N := by omega
      have HV := keepHid (HNO.out (stx_end HX.out.stx (by rw [HN.out]; exact Nat.le_refl _)))
      clear HYES HNO
      go_wp2
      refine bodyPost_ret (tok_res rfl _ _ w.heap.size 0 ⟨#[]⟩ 0 0 (put4 HX.out.res) rfl _ rfl) rfl ?_
      exact ⟨by rw [HV.out]; try rfl, set4 HX.out.bel (Nat.le_refl _) _ _ _ _⟩


theorem resV_form (x : Option (Tk × Nat)) : ∃ (k : Int) (S : ByteArray) (v q n : Int), resV x = .tuple #[.agg #[.int .i64 k, .string S, .int .i64 v, .int .i64 q], .int .i64 n] := by
  cases x with
  | none => exact ⟨0, ⟨#[]⟩, 0, 0, 0, rfl⟩
  | some y => exact ⟨y.1.kind, strB y.1.text, y.1.val, y.1.pos, y.2, rfl⟩
theorem tnumber_any (l : List UInt8) (hl : l.length ≤ 4096) (w : World) (hE : Errs w) :
    Calls Tryz.prog 61 #[.string (strB l)] w fun e w' => e = .returned (resV (numT l)) ∧ Below w.heap.size w w' := by
  cases hx : isHex l with
  | false => exact number10 l hl hx w hE
  | true => exact number16 l hl hx w hE
theorem quo_let : letL.contains 34 = false := by decide
theorem quo_dec : decL.contains 34 = false := by decide

set_option maxRecDepth 100000 in
set_option maxHeartbeats 4000000 in
theorem first_any (c : UInt8) (r : List UInt8) (hl : (c :: r).length ≤ 4096) (w : World) (hE : Errs w) :
    Calls Tryz.prog 38 #[.string (strB (c :: r))] w fun e w' => e = .returned (resV (firstT (c :: r))) ∧ Below w.heap.size w w' := by
  obtain ⟨w1, hw1⟩ : ∃ w1, w.alloc (.cells #[.int .i64 0, .string ⟨#[]⟩, .int .i64 0, .int .i64 0] 87) = w1 := ⟨_, rfl⟩
  have HR := keepHid (tok_new w w1 hw1)
  have HE := keepHid (hE.below HR.out.2 (Nat.le_refl _))
  have hidx := fun w => run_idx (l := c :: r) (k := 0) (c := c) rfl 0 rfl w
  have H1 : Hid (∀ w, Calls Tryz.prog 36 #[.string ⟨#[97, 98, 99, 100, 101, 102, 103, 104, 105, 106, 107, 108, 109, 110, 111, 112, 113, 114, 115, 116, 117, 118, 119, 120, 121, 122]⟩, .int .u8 (c.toNat : Int)] w fun e w' => e = .returned (.bool (letL.contains c)) ∧ w' = w) := keepHid (ahas_any letL c)
  have H2 : Hid (∀ w, Calls Tryz.prog 36 #[.string ⟨#[48, 49, 50, 51, 52, 53, 54, 55, 56, 57]⟩, .int .u8 (c.toNat : Int)] w fun e w' => e = .returned (.bool (decL.contains c)) ∧ w' = w) := keepHid (ahas_any decL c)
  have H3 : Hid (∀ w, Calls Tryz.prog 36 #[.string ⟨#[58, 59, 44, 123, 125]⟩, .int .u8 (c.toNat : Int)] w fun e w' => e = .returned (.bool (signL.contains c)) ∧ w' = w) := keepHid (ahas_any signL c)
  have HP := keepHid (plain_any 1 (c :: r) (runOf wordL (c :: r)).length (runOf_len _ _) (by omega))
  have HRUN : Hid (∀ w, Calls Tryz.prog 60 #[.string (strB (c :: r)), .string ⟨#[97, 98, 99, 100, 101, 102, 103, 104, 105, 106, 107, 108, 109, 110, 111, 112, 113, 114, 115, 116, 117, 118, 119, 120, 121, 122, 48, 49, 50, 51, 52, 53, 54, 55, 56, 57, 45]⟩] w fun e w' => e = .returned (.int .i64 ((runOf wordL (c :: r)).length : Int)) ∧ Below w.heap.size w w') := keepHid (run_any (c :: r) wordL (by decide) asc_word (by omega))
  have HN := keepHid (tnumber_any (c :: r) hl)
  have HT := keepHid (ttext_any (c :: r) hl (by simp))
  have HSG := keepHid (plain_any 4 (c :: r) 1 (by simp) (by omega))
  obtain ⟨k, S, v, q, n, hres⟩ := resV_form (firstT (c :: r))
  have HRES := keepHid hres
  have HQ : Hid ((c = 34) ↔ c.toNat = 34) := keepHid ⟨fun h => by rw [h]; rfl, fun h => UInt8.toNat_inj.1 h⟩
  rw [hres]
  cases hb1 : letL.contains c with
  | true =>
    have hf := hres
    rw [first_let (c := c) (r := r) hb1] at hf
    have hk : S = strB ((c :: r).take (runOf wordL (c :: r)).length) ∧ k = 1 ∧ v = 0 ∧ q = 0 ∧ n = ((runOf wordL (c :: r)).length : Int) := by
      rw [runOf_take]
      simp [resV, tkA] at hf
      exact ⟨hf.1.2.1.symm, hf.1.1.symm, hf.1.2.2.1.symm, hf.1.2.2.2.symm, hf.2.symm⟩
    obtain ⟨rfl, rfl, rfl, rfl, rfl⟩ := hk
    unfold tkA at HP
    rw [hb1] at H1
    generalize strB ((c :: r).take (runOf wordL (c :: r)).length) = S at *
    generalize ((runOf wordL (c :: r)).length : Int) = n at *
    generalize strB (c :: r) = X at *
    generalize (c.toNat : Int) = cn at *
    clear hf hres hb1 H2 H3 HN HT HSG hE HRES
    go_enter Tryz.func38, Tryz.ntmps38
    go_wp2_with ((with_reducible refine (H1.out _).mono ?_); rintro e w' ⟨rfl, rfl⟩)
    clear hw1
    refine (HRUN.out _).mono ?_
    rintro e w2 ⟨rfl, hb2⟩
    have HB2 := keepHid (HR.out.2.trans (hb2.mono HR.out.2.size))
    have HK2 := keepHid (HR.out.1.below hb2 HR.out.1.lt)
    clear hb2
    go_wp2_with fail
    refine (HP.out _).mono ?_
    rintro e w3 ⟨rfl, hb3⟩
    have HB3 := keepHid (HB2.out.trans (hb3.mono HB2.out.size))
    have HK3 := keepHid (HK2.out.below hb3 HK2.out.lt)
    obtain ⟨c0, c1, c2, c3, cf⟩ := blk4 HK3.out
    clear hb3
    go_wp2
    refine bodyPost_ret (tok_res rfl _ _ w.heap.size 1 S 0 0 (put4 HK3.out) rfl _ rfl) rfl ?_
    exact ⟨rfl, set4 HB3.out (Nat.le_refl _) _ _ _ _⟩
  | false =>
    rw [hb1] at H1
    cases hb2 : decL.contains c with
    | true =>
      rw [first_dec (c := c) (r := r) hb1 hb2] at hres
      rw [hres] at HN
      rw [hb2] at H2
      generalize strB (c :: r) = X at *
      generalize (c.toNat : Int) = cn at *
      clear hres hb1 hb2 H3 HRUN HP HT HSG hE HRES
      go_enter Tryz.func38, Tryz.ntmps38
      go_wp2_with (first | ((with_reducible refine (H1.out _).mono ?_); rintro e w' ⟨rfl, rfl⟩) | ((with_reducible refine (H2.out _).mono ?_); rintro e w' ⟨rfl, rfl⟩))
      clear hw1
      refine (HN.out _ HE.out).mono ?_
      rintro e w3 ⟨rfl, hb3⟩
      have HB3 := keepHid (HR.out.2.trans (hb3.mono HR.out.2.size))
      have HK3 := keepHid (HR.out.1.below hb3 HR.out.1.lt)
      obtain ⟨c0, c1, c2, c3, cf⟩ := blk4 HK3.out
      clear hb3
      go_wp2
      refine bodyPost_ret (tok_res rfl _ _ w.heap.size k S v q (put4 HK3.out) rfl _ rfl) rfl ?_
      exact ⟨rfl, set4 HB3.out (Nat.le_refl _) _ _ _ _⟩
    | false =>
      rw [hb2] at H2
      by_cases h34 : c = 34
      · rw [first_quo (c := c) (r := r) h34] at hres
        rw [hres] at HT
        subst h34
        have hidx' : ∀ w, (Instr.index 9 (.string (strB (34 :: r))) (.int .i64 0)).run Tryz.prog w = .ok (.int .u8 34) w := hidx
        have H1' : Hid (∀ w, Calls Tryz.prog 36 #[.string ⟨#[97, 98, 99, 100, 101, 102, 103, 104, 105, 106, 107, 108, 109, 110, 111, 112, 113, 114, 115, 116, 117, 118, 119, 120, 121, 122]⟩, .int .u8 34] w fun e w' => e = .returned (.bool false) ∧ w' = w) := keepHid H1.out
        have H2' : Hid (∀ w, Calls Tryz.prog 36 #[.string ⟨#[48, 49, 50, 51, 52, 53, 54, 55, 56, 57]⟩, .int .u8 34] w fun e w' => e = .returned (.bool false) ∧ w' = w) := keepHid H2.out
        generalize strB (34 :: r) = X at *
        clear hres hb1 hb2 H3 HRUN HP HN HSG hE HRES H1 H2 hidx HQ
        go_enter Tryz.func38, Tryz.ntmps38
        go_wp2_with (first | ((with_reducible refine (H1'.out _).mono ?_); rintro e w' ⟨rfl, rfl⟩) | ((with_reducible refine (H2'.out _).mono ?_); rintro e w' ⟨rfl, rfl⟩))
        clear hw1
        refine (HT.out _).mono ?_
        rintro e w3 ⟨rfl, hb3⟩
        have HB3 := keepHid (HR.out.2.trans (hb3.mono HR.out.2.size))
        have HK3 := keepHid (HR.out.1.below hb3 HR.out.1.lt)
        obtain ⟨c0, c1, c2, c3, cf⟩ := blk4 HK3.out
        clear hb3
        go_wp2
        refine bodyPost_ret (tok_res rfl _ _ w.heap.size k S v q (put4 HK3.out) rfl _ rfl) rfl ?_
        exact ⟨rfl, set4 HB3.out (Nat.le_refl _) _ _ _ _⟩
      · have e34 : ¬ c.toNat = 34 := fun h => h34 (HQ.out.2 h)
        have i34 : ((c.toNat : Int) == 34) = false := by simp; omega
        cases hb3 : signL.contains c with
        | true =>
          rw [first_sign (c := c) (r := r) hb1 hb2 h34 hb3] at hres
          have hk : S = strB ((c :: r).take 1) ∧ k = 4 ∧ v = 0 ∧ q = 0 ∧ n = 1 := by
            simp [resV, tkA] at hres
            exact ⟨hres.1.2.1.symm, hres.1.1.symm, hres.1.2.2.1.symm, hres.1.2.2.2.symm, hres.2.symm⟩
          obtain ⟨rfl, rfl, rfl, rfl, rfl⟩ := hk
          have HSG' : Hid (∀ w, Calls Tryz.prog 59 #[.int .i64 4, .string (strB (c :: r)), .int .i64 1] w fun e w' => e = .returned (.tuple #[.agg #[.int .i64 4, .string (strB ((c :: r).take 1)), .int .i64 0, .int .i64 0], .int .i64 1]) ∧ Below w.heap.size w w') := keepHid HSG.out
          rw [hb3] at H3
          generalize strB ((c :: r).take 1) = S at *
          generalize strB (c :: r) = X at *
          generalize (c.toNat : Int) = cn at *
          clear hres hb1 hb2 hb3 HRUN HP HN HT HSG hE HRES h34 e34
          go_enter Tryz.func38, Tryz.ntmps38
          go_wp2_with (first | ((with_reducible refine (H1.out _).mono ?_); rintro e w' ⟨rfl, rfl⟩) | ((with_reducible refine (H2.out _).mono ?_); rintro e w' ⟨rfl, rfl⟩) | ((with_reducible refine (H3.out _).mono ?_); rintro e w' ⟨rfl, rfl⟩))
          clear hw1
          refine (HSG'.out _).mono ?_
          rintro e w3 ⟨rfl, hb3⟩
          have HB3 := keepHid (HR.out.2.trans (hb3.mono HR.out.2.size))
          have HK3 := keepHid (HR.out.1.below hb3 HR.out.1.lt)
          obtain ⟨c0, c1, c2, c3, cf⟩ := blk4 HK3.out
          clear hb3
          go_wp2
          refine bodyPost_ret (tok_res rfl _ _ w.heap.size 4 S 0 0 (put4 HK3.out) rfl _ rfl) rfl ?_
          exact ⟨rfl, set4 HB3.out (Nat.le_refl _) _ _ _ _⟩
        | false =>
          rw [first_no (c := c) (r := r) hb1 hb2 h34 hb3] at hres
          have HRES0 := keepHid hres
          rw [hb3] at H3
          generalize strB (c :: r) = X at *
          generalize (c.toNat : Int) = cn at *
          clear hres hb1 hb2 hb3 HRUN HP HN HT HSG hE HRES h34 e34
          obtain ⟨c0, c1, c2, c3, cf⟩ := blk4 HR.out.1
          go_enter Tryz.func38, Tryz.ntmps38
          go_wp2_with (first | ((with_reducible refine (H1.out _).mono ?_); rintro e w' ⟨rfl, rfl⟩) | ((with_reducible refine (H2.out _).mono ?_); rintro e w' ⟨rfl, rfl⟩) | ((with_reducible refine (H3.out _).mono ?_); rintro e w' ⟨rfl, rfl⟩))
          refine bodyPost_ret (tok_res rfl _ _ w.heap.size 0 ⟨#[]⟩ 0 0 (put4 HR.out.1) rfl _ rfl) rfl ?_
          exact ⟨by rw [← HRES0.out]; rfl, set4 HR.out.2 (Nat.le_refl _) _ _ _ _⟩
end Go.Proofs.YtgndcgknedmalaaGreatDoor
