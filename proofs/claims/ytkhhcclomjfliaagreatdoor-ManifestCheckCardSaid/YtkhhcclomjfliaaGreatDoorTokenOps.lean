/-
  The program's small helpers: a byte of a set, a run, a comment, a token that is plain, a byte behind a backslash.
-/
import Derived.Test.YtkhhcclomjfliaaGreatDoorTokenRows
import Derived.Test.YtkhhcclomjfliaaGreatDoorStr
import Derived.Test.YtkhhcclomjfliaaGreatDoorShelf
namespace Go.Proofs.YtkhhcclomjfliaaGreatDoor
open Go.RowKit
set_option linter.unusedVariables false

/-! ### a byte of a set -/
theorem ix_has : ∀ (l : List UInt8) (c : UInt8), -1 ≤ Lib.indexByte l c ∧ decide (0 ≤ Lib.indexByte l c) = l.contains c
  | [], c => by simp [Lib.indexByte]
  | b :: l, c => by
    obtain ⟨h1, h2⟩ := ix_has l c
    unfold Lib.indexByte
    rw [List.contains_cons]
    by_cases hb : b = c
    · subst hb; simp
    · have e1 : (b == c) = false := by simpa using hb
      have e2 : (c == b) = false := by simpa using fun e => hb e.symm
      rw [e1, e2, Bool.false_or, ← h2]
      simp only [Bool.false_eq_true, if_false]
      by_cases hm : Lib.indexByte l c = -1
      · simp [hm]
      · have : (Lib.indexByte l c == -1) = false := by simpa using hm
        simp only [this, Bool.false_eq_true, if_false]
        exact ⟨by omega, decide_eq_decide.2 (by omega)⟩
theorem ix_com : ∀ (l : List UInt8), (0 ≤ Lib.indexByte l 10 → Lib.indexByte l 10 = (comN l : Int)) ∧ (Lib.indexByte l 10 < 0 → comN l = l.length)
  | [] => by simp [Lib.indexByte, comN]
  | b :: l => by
    obtain ⟨h1, h2⟩ := ix_com l
    have h3 := (ix_has l 10).1
    unfold Lib.indexByte
    by_cases hb : b = 10
    · subst hb
      simp [comN]
    · have e1 : (b == 10) = false := by simpa using hb
      have e2 : comN (b :: l) = comN l + 1 := by
        unfold comN
        rw [List.takeWhile_cons_of_pos (by simp [e1])]
        simp
      rw [e1, e2]
      simp only [Bool.false_eq_true, if_false]
      by_cases hm : Lib.indexByte l 10 = -1
      · simp only [hm]
        refine ⟨by simp, fun _ => ?_⟩
        rw [h2 (by omega)]; simp
      · have : (Lib.indexByte l 10 == -1) = false := by simpa using hm
        simp only [this, Bool.false_eq_true, if_false]
        exact ⟨fun _ => by rw [h1 (by omega)]; simp, fun h => by omega⟩
theorem ixb_any (l : List UInt8) (c : UInt8) (w : World) :
    Calls Tryz.prog 47 #[.string (strB l), .int .u8 (c.toNat : Int)] w fun e w' => e = .returned (.int .i64 (Lib.indexByte l c)) ∧ w' = w :=
  (Tryz.strings_IndexByte _ _ w).mono fun e w' ⟨he, hw⟩ => ⟨by
    rw [he]
    have e1 : ((c.toNat : Int)).toNat.toUInt8 = c := by simp
    rw [e1]
    rfl, hw⟩
theorem has_any (l : List UInt8) (c : UInt8) (w : World) :
    Calls Tryz.prog 27 #[.string (strB l), .int .u8 (c.toNat : Int)] w fun e w' => e = .returned (.bool (l.contains c)) ∧ w' = w := by
  have HX := keepHid (ixb_any l c)
  have HD := keepHid (ix_has l c).2
  generalize Lib.indexByte l c = z at *
  generalize l.contains c = b at *
  go_enter Tryz.func27, Tryz.ntmps27
  go_wp2_with (refine (HX.out _).mono ?_; rintro e w' ⟨rfl, rfl⟩)
  go_ret
  exact ⟨ret_bool HD.out, rfl⟩
theorem comment_any (l : List UInt8) (w : World) (hl : l.length ≤ 140737488351232) :
    Calls Tryz.prog 28 #[.string (strB l)] w fun e w' => e = .returned (.int .i64 (comN l : Int)) ∧ w' = w := by
  have HX := keepHid (ixb_any l 10)
  obtain ⟨d1, d2⟩ := ix_com l
  have hsz : (strB l).size = l.length := strB_size l
  generalize Lib.indexByte l 10 = z at *
  have HX' : Hid (∀ w, Calls Tryz.prog 47 #[.string (strB l), .int .u8 10] w fun e w' => e = .returned (.int .i64 z) ∧ w' = w) := keepHid HX.out
  by_cases hz : 0 ≤ z
  · have HD := keepHid (d1 hz)
    clear d1 d2 HX
    go_enter Tryz.func28, Tryz.ntmps28
    go_wp2_with (refine (HX'.out _).mono ?_; rintro e w' ⟨rfl, rfl⟩)
    go_ret
    exact ⟨ret_int HD.out, rfl⟩
  · have HD : Hid ((l.length : Int) = (comN l : Int)) := keepHid (by rw [d2 (by omega)])
    clear d1 d2 HX
    go_enter Tryz.func28, Tryz.ntmps28
    go_wp2_with (refine (HX'.out _).mono ?_; rintro e w' ⟨rfl, rfl⟩)
    go_ret
    exact ⟨ret_int HD.out, rfl⟩

/-! ### a run -/
theorem run_split (set l : List UInt8) : (Lib.trimLeftS l set).length + (runOf set l).length = l.length := by
  have := congrArg List.length (List.takeWhile_append_dropWhile (p := fun c => set.contains c) (l := l))
  unfold Lib.trimLeftS runOf
  rw [List.length_append] at this
  omega
theorem run_any (l set : List UInt8) (hs : set.length ≤ 100) (ha : ∀ c ∈ set, c.toNat < 128) (hl : l.length ≤ 140737488351232) (w : World) :
    Calls Tryz.prog 49 #[.string (strB l), .string (strB set)] w fun e w' => e = .returned (.int .i64 ((runOf set l).length : Int)) ∧ Below w.heap.size w w' := by
  have HT := keepHid (fun w => Tryz.strings_TrimLeft_ascii (strB l) (strB set) w (by rw [strB_size]; omega) (fun j b h => ha b (List.mem_of_getElem? h)))
  have hsp := run_split set l
  have hsz : (strB l).size = l.length := strB_size l
  obtain ⟨T, hT⟩ : ∃ T, Lib.trimLeftS (strB l).data.toList (strB set).data.toList = T := ⟨_, rfl⟩
  have hT' : Lib.trimLeftS l set = T := hT
  have hq : (⟨T.toArray⟩ : ByteArray).size = T.length := strB_size T
  rw [hT'] at hsp
  rw [hT] at HT
  have HSP : Hid ((l.length : Int) - (T.length : Int) = ((runOf set l).length : Int)) := keepHid (by omega)
  have h1 : (T.length : Int) ≤ (l.length : Int) := by omega
  have h2 : (l.length : Int) ≤ 140737488351232 := by omega
  generalize ((runOf set l).length : Int) = R at *
  clear hT hT' hsp ha hl hs
  go_enter Tryz.func49, Tryz.ntmps49
  go_wp2_with fail
  refine (HT.out _).mono ?_
  rintro e w' ⟨rfl, hb⟩
  have HB := keepHid hb
  clear hb
  go_wp2
  go_ret
  exact ⟨ret_int HSP.out, HB.out⟩

/-! ### what a String may have -/
theorem printable_any (c : UInt8) (w : World) :
    Calls Tryz.prog 57 #[.int .u8 (c.toNat : Int)] w fun e w' => e = .returned (.bool (prn c)) ∧ w' = w := by
  have HP : Hid (prn c = (decide (32 ≤ c.toNat) && decide (c.toNat ≤ 126))) := keepHid rfl
  obtain ⟨n, hn⟩ : ∃ n, c.toNat = n := ⟨_, rfl⟩
  have hlt : n < 256 := by rw [← hn]; exact c.toNat_lt
  rw [hn] at HP ⊢
  generalize prn c = b at *
  clear hn
  go_enter Tryz.func57, Tryz.ntmps57
  go_wp2
  all_goals
    go_ret
    exact ⟨ret_bool (by rw [HP.out, Bool.eq_iff_iff]; simp only [Bool.and_eq_true, decide_eq_true_eq, Bool.false_eq_true, false_iff]; omega), rfl⟩
def escV : List UInt8 → Value
  | [] => .tuple #[.int .u8 0, .bool false]
  | c :: _ => match escD c with
    | some d => .tuple #[.int .u8 (d.toNat : Int), .bool true]
    | none => .tuple #[.int .u8 0, .bool false]
def escOk (c : UInt8) : Bool := match escD c with
  | some d => decide (0 ≤ Lib.indexByte escL c) && decide (Lib.indexByte escL c < 4) && (denL[(Lib.indexByte escL c).toNat]? == some d)
  | none => decide (Lib.indexByte escL c < 0)
theorem esc_ix : ∀ n : Fin 256, escOk (UInt8.ofNat n.val) = true := by decide +kernel
theorem esc_ix' (c : UInt8) : (∀ d, escD c = some d → ∃ k : Nat, Lib.indexByte escL c = (k : Int) ∧ denL[k]? = some d) ∧ (escD c = none → Lib.indexByte escL c < 0) := by
  have h := esc_ix ⟨c.toNat, u8lt c⟩
  have e : UInt8.ofNat c.toNat = c := by simp
  simp only [e] at h
  unfold escOk at h
  cases hd : escD c with
  | none => rw [hd] at h; exact ⟨fun d k => by (cases k), fun _ => of_decide_eq_true h⟩
  | some d =>
    rw [hd] at h
    simp only [Bool.and_eq_true, decide_eq_true_eq, beq_iff_eq] at h
    exact ⟨fun d' k => by cases k; exact ⟨(Lib.indexByte escL c).toNat, by omega, h.2⟩, fun k => by (cases k)⟩
theorem escaped_any (l : List UInt8) (w : World) :
    Calls Tryz.prog 68 #[.string (strB l)] w fun e w' => e = .returned (escV l) ∧ w' = w := by
  cases l with
  | nil =>
    have hemp : (strB []).toList.isEmpty = true := by rw [strB_toList]; rfl
    go_enter Tryz.func68, Tryz.ntmps68
    go_wp2
    go_ret2
    exact ⟨rfl, rfl⟩
  | cons c r =>
    have hemp : (strB (c :: r)).toList.isEmpty = false := by rw [strB_toList]; rfl
    have hidx := fun w => run_idx (l := c :: r) (k := 0) (c := c) rfl 0 rfl w
    have HX : Hid (∀ w, Calls Tryz.prog 47 #[.string ⟨#[34, 92, 114, 110]⟩, .int .u8 (c.toNat : Int)] w fun e w' => e = .returned (.int .i64 (Lib.indexByte escL c)) ∧ w' = w) := keepHid (ixb_any escL c)
    obtain ⟨d1, d2⟩ := esc_ix' c
    cases hd : escD c with
    | none =>
      have hz := d2 hd
      have HV : Hid (escV (c :: r) = .tuple #[.int .u8 0, .bool false]) := keepHid (by simp only [escV, hd])
      generalize escV (c :: r) = v at *
      generalize Lib.indexByte escL c = z at *
      clear d1 d2 hd
      go_enter Tryz.func68, Tryz.ntmps68
      go_wp2_with (refine (HX.out _).mono ?_; rintro e w' ⟨rfl, rfl⟩)
      go_ret2
      exact ⟨by rw [HV.out]; rfl, rfl⟩
    | some d =>
      obtain ⟨k, hk, hdk⟩ := d1 d hd
      have HV : Hid (escV (c :: r) = .tuple #[.int .u8 (d.toNat : Int), .bool true]) := keepHid (by simp only [escV, hd])
      have hden : ∀ w, (Instr.index 9 (.string ⟨#[34, 92, 13, 10]⟩) (.int .i64 (k : Int))).run Tryz.prog w = .ok (.int .u8 (d.toNat : Int)) w := fun w => run_idx (l := denL) hdk _ rfl w
      have hz : (0 : Int) ≤ (k : Int) := by omega
      rw [hk] at HX
      generalize escV (c :: r) = v at *
      generalize (k : Int) = z at *
      clear d1 d2 hd hk hdk
      go_enter Tryz.func68, Tryz.ntmps68
      go_wp2_with (refine (HX.out _).mono ?_; rintro e w' ⟨rfl, rfl⟩)
      go_ret2
      exact ⟨by rw [HV.out]; rfl, rfl⟩

/-! ### a token that is plain -/
theorem clone_any (l : List UInt8) (w : World) (hl : l.length ≤ 140737488351232) :
    Calls Tryz.prog 64 #[.string (strB l)] w fun e w' => e = .returned (.string (strB l)) ∧ Below w.heap.size w w' := by
  have HC := keepHid (fun w => Tryz.stringslite_Clone (strB l) w (by rw [strB_size]; omega))
  go_enter Tryz.func64, Tryz.ntmps64
  go_wp2_with fail
  refine (HC.out _).mono ?_
  rintro e w' ⟨rfl, hb⟩
  have HB := keepHid hb
  clear hb
  go_wp2
  go_ret
  exact ⟨rfl, HB.out⟩
/-- A token is read at the return. -/
theorem tok_res {fn : Func} {p u : Tmp} (h : fn.results = #[.cell p 52, .tmp u]) (tmps : Array Value) (w : World) (g : Nat) (k : Int) (s : ByteArray) (v q : Int) (hb : Blk w g 52 (tkA k s v q))
    (hp : tmps.getD p undef = .pointer (some ⟨g, 0, none⟩)) (n : Value) (hu : tmps.getD u undef = n) : (results fn tmps).run Tryz.prog w = .ok (.tuple #[.agg (tkA k s v q), n]) w := by
  have q0 : w.cell? ⟨g, 0, none⟩ = some (.int .i64 k) := hb.cell 0
  have q1 : w.cell? ⟨g, 1, none⟩ = some (.string s) := hb.cell 1
  have q2 : w.cell? ⟨g, 2, none⟩ = some (.int .i64 v) := hb.cell 2
  have q3 : w.cell? ⟨g, 3, none⟩ = some (.int .i64 q) := hb.cell 3
  rw [results_cell_tmp (p := p) (u := u) (ty := 52) h, hp, hu]
  simp [go_sem, q0, q1, q2, q3, tkA]
theorem put4 {w : World} {g : Nat} {t : TypeId} {a b c d a' b' c' d' : Value} (hb : Blk w g t #[a, b, c, d]) :
    Blk ((((w.setCell ⟨g, 0, none⟩ a').setCell ⟨g, 1, none⟩ b').setCell ⟨g, 2, none⟩ c').setCell ⟨g, 3, none⟩ d') g t #[a', b', c', d'] := (((hb.put 0 a').put 1 b').put 2 c').put 3 d'
theorem set4 {w0 w : World} {B g : Nat} (h : Below B w0 w) (hg : B ≤ g) (a b c d : Value) :
    Below B w0 ((((w.setCell ⟨g, 0, none⟩ a).setCell ⟨g, 1, none⟩ b).setCell ⟨g, 2, none⟩ c).setCell ⟨g, 3, none⟩ d) := (((h.setCell hg _).setCell hg _).setCell hg _).setCell hg _
/-- The result's block at the beginning. -/
theorem tok_new (w w1 : World) (hw : w.alloc (.cells #[.int .i64 0, .string ⟨#[]⟩, .int .i64 0, .int .i64 0] 52) = w1) :
    Blk w1 w.heap.size 52 #[.int .i64 0, .string ⟨#[]⟩, .int .i64 0, .int .i64 0] ∧ Below w.heap.size w w1 := by
  rw [← hw]; exact ⟨Blk.new w _ _, (Below.refl _ _).alloc (Nat.le_refl _) _⟩
theorem blk4 {w : World} {g : Nat} {t : TypeId} {a b c d : Value} (h : Blk w g t #[a, b, c, d]) :
    w.cell? ⟨g, 0, none⟩ = some a ∧ w.cell? ⟨g, 1, none⟩ = some b ∧ w.cell? ⟨g, 2, none⟩ = some c ∧ w.cell? ⟨g, 3, none⟩ = some d ∧ ∀ k, w.frozen? ⟨g, k, none⟩ = false :=
  ⟨h.cell 0, h.cell 1, h.cell 2, h.cell 3, h.frozen⟩
theorem plain_any (k : Int) (l : List UInt8) (n : Nat) (hn : n ≤ l.length) (hl : l.length ≤ 140737488351232) (w : World) :
    Calls Tryz.prog 48 #[.int .i64 k, .string (strB l), .int .i64 (n : Int)] w fun e w' => e = .returned (.tuple #[.agg (tkA k (strB (l.take n)) 0 0), .int .i64 (n : Int)]) ∧ Below w.heap.size w w' := by
  obtain ⟨w1, hw1⟩ : ∃ w1, w.alloc (.cells #[.int .i64 0, .string ⟨#[]⟩, .int .i64 0, .int .i64 0] 52) = w1 := ⟨_, rfl⟩
  have HR := keepHid (tok_new w w1 hw1)
  have hcut := fun w => run_upto hn (n : Int) rfl w
  have HC := keepHid (fun w => clone_any (l.take n) w (by simp; omega))
  generalize strB (l.take n) = S at *
  clear hn hl
  go_enter Tryz.func48, Tryz.ntmps48
  go_wp2_with fail
  refine (HC.out _).mono ?_
  rintro e w2 ⟨rfl, hb⟩
  have HK := keepHid (HR.out.1.below hb HR.out.1.lt)
  have HB := keepHid (HR.out.2.trans (hb.mono HR.out.2.size))
  obtain ⟨c0, c1, c2, c3, cf⟩ := blk4 HK.out
  clear hb hw1 HR hcut HC
  go_wp2
  refine bodyPost_ret (tok_res rfl _ _ w.heap.size k S 0 0 (put4 HK.out) rfl _ rfl) rfl ?_
  exact ⟨rfl, set4 HB.out (Nat.le_refl _) _ _ _ _⟩
end Go.Proofs.YtkhhcclomjfliaaGreatDoor
