/-
  Dialogues, plainly: numbers that are in range, or not.
-/
import Derived.Test.YtdjmfapbaoddoaaGreatDoorDialogPlain
namespace Go.Proofs.YtdjmfapbaoddoaaGreatDoor
set_option linter.unusedVariables false

theorem fail_stay {no : Nat} {t : Tk} {s : PS} {x : Nat × Nat} (h : s.err = some x) : failP no t s = s := by unfold failP; rw [if_neg (by rw [h]; simp)]
theorem tak_stay {k : Nat} {s : PS} {x : Nat × Nat} (h : s.err = some x) : (takP k s).2 = s := by
  unfold takP
  split
  · exact fail_stay h
  · rw [if_pos (by rw [h]; simp)]
theorem must_stay {k : Nat} {y : List UInt8} {s : PS} {x : Nat × Nat} (h : s.err = some x) : mustP k y s = s := by
  unfold mustP
  split
  · exact tak_stay h
  · rw [fail_stay h]; exact tak_stay h
theorem tgt_stay {s : PS} {x : Nat × Nat} (h : s.err = some x) : (tgtP s).2 = s := by
  show (takP 1 (mustP 1 dGo s)).2 = s
  rw [must_stay h]; exact tak_stay h
theorem numP_bad {t : Tk} {r : List Tk} {most : Nat} (hk : t.kind = 2) (h : t.val < 1 ∨ most < t.val) : (numP most ⟨t :: r, none⟩).2 = ⟨r, some (5, t.pos)⟩ := by
  show (if (takP 2 ⟨t :: r, none⟩).1.val < 1 ∨ most < (takP 2 ⟨t :: r, none⟩).1.val then failP 5 (takP 2 ⟨t :: r, none⟩).1 (takP 2 ⟨t :: r, none⟩).2 else (takP 2 ⟨t :: r, none⟩).2) = _
  rw [tak_go hk, if_pos h]
  rfl
def hdTk : List Tk := [wK [97], sK 58, wK dExpect, qK [120], wK dGo, wK [97], wK dAfter]
/-- A number of ticks that is none. -/
theorem stp_bad1 {H U : List Tk} {t : Tk} (hH : H.map bare = hdTk) (hk : t.kind = 2) (h : t.val < 1 ∨ 99 < t.val) : (stpP ⟨H ++ (t :: U), none⟩).2.err = some (5, t.pos) ∧ (hdP ⟨H ++ (t :: U), none⟩).kind ≠ 0 := by
  obtain ⟨t1, H, rfl, e1, hH⟩ := map_one hH
  obtain ⟨t2, H, rfl, e2, hH⟩ := map_one hH
  obtain ⟨t3, H, rfl, e3, hH⟩ := map_one hH
  obtain ⟨T, V, rfl, e4, hV⟩ := map_two (show H.map bare = skArms [⟨[120], [97]⟩] ++ [wK dAfter] from hH)
  obtain ⟨t7, V, rfl, e7, hV⟩ := map_one hV
  obtain rfl := map_nil hV
  have e : (t1 :: (t2 :: (t3 :: (T ++ [t7])))) ++ (t :: U) = t1 :: (t2 :: (t3 :: (T ++ (t7 :: (t :: U))))) := by simp
  rw [e]
  refine ⟨?_, by show t1.kind ≠ 0; rw [(bare_w e1).1]; decide⟩
  have hl : labP ⟨t1 :: (t2 :: (t3 :: (T ++ (t7 :: (t :: U))))), none⟩ = ([97], ⟨t3 :: (T ++ (t7 :: (t :: U))), none⟩) := by
    unfold labP
    rw [if_pos (show isT (sndP ⟨t1 :: (t2 :: (t3 :: (T ++ (t7 :: (t :: U))))), none⟩) 4 [58] = true from isT_go (bare_s e2).1 (bare_s e2).2), tak_go (bare_w e1).1]
    dsimp only
    rw [must_go (bare_s e2).1 (bare_s e2).2, (bare_w e1).2]
  rw [stp_2, hl]
  dsimp only
  rw [kin_go (k := 1) (by decide) e3]
  dsimp only
  have hu2 : isT (hdP ⟨t7 :: (t :: U), none⟩) 4 [44] = false := isT_no (.inl (by rw [show hdP ⟨t7 :: (t :: U), none⟩ = t7 from rfl, (bare_w e7).1]; decide))
  have hx : (expP [97] (hdP ⟨t1 :: (t2 :: (t3 :: (T ++ (t7 :: (t :: U))))), none⟩).pos ⟨T ++ (t7 :: (t :: U)), none⟩).2 = ⟨U, some (5, t.pos)⟩ := by
    dsimp only [expP]
    rw [arms_go (by simp) e4 hu2, must_go (bare_w e7).1 (bare_w e7).2, numP_bad hk h, tgt_stay rfl]
  rw [show bodP [97] (hdP ⟨t1 :: (t2 :: (t3 :: (T ++ (t7 :: (t :: U))))), none⟩).pos 1 ⟨T ++ (t7 :: (t :: U)), none⟩ = expP [97] (hdP ⟨t1 :: (t2 :: (t3 :: (T ++ (t7 :: (t :: U))))), none⟩).pos ⟨T ++ (t7 :: (t :: U)), none⟩ from rfl, hx, must_stay rfl]
/-- A number of tries that is none. -/
theorem stp_bad2 {t1 t : Tk} {U : List Tk} (e1 : bare t1 = wK dTry) (hk : t.kind = 2) (h : t.val < 1 ∨ 9 < t.val) : (stpP ⟨t1 :: (t :: U), none⟩).2.err = some (5, t.pos) ∧ (hdP ⟨t1 :: (t :: U), none⟩).kind ≠ 0 := by
  refine ⟨?_, by show t1.kind ≠ 0; rw [(bare_w e1).1]; decide⟩
  have hl : labP ⟨t1 :: (t :: U), none⟩ = ([], ⟨t1 :: (t :: U), none⟩) := by
    unfold labP
    rw [if_neg (by rw [show isT (sndP ⟨t1 :: (t :: U), none⟩) 4 [58] = false from isT_no (.inl (by show t.kind ≠ 4; rw [hk]; decide))]; decide)]
  rw [stp_2, hl]
  dsimp only
  rw [kin_go (k := 3) (by decide) e1]
  dsimp only
  have hx : (bodP [] (hdP ⟨t1 :: (t :: U), none⟩).pos 3 ⟨t :: U, none⟩).2 = ⟨U, some (5, t.pos)⟩ := by
    show (tgtP (numP 9 ⟨t :: U, none⟩).2).2 = _
    rw [numP_bad hk h, tgt_stay rfl]
  rw [hx, must_stay rfl]
/-! ### the law's text -/
def nHead : List UInt8 := [97, 58, 32, 101, 120, 112, 101, 99, 116, 32, 34, 120, 34, 32, 103, 111, 32, 97, 32, 97, 102, 116, 101, 114, 32]
def nMid : List UInt8 := [32, 103, 111, 32, 97, 59, 32, 116, 114, 121, 32]
def nEnd : List UInt8 := [32, 103, 111, 32, 97, 59]
def nText (n m : Nat) : List UInt8 := nHead ++ digL 10 n ++ nMid ++ digL 10 m ++ nEnd
theorem isw_a : IsW [97] := ⟨97, [], rfl, by decide, fun b hb => by cases hb⟩
theorem isw_expect : IsW dExpect := ⟨101, _, rfl, by decide, by decide⟩
theorem isw_try : IsW dTry := ⟨116, _, rfl, by decide, by decide⟩
theorem cut_head : Cut false nHead hdTk := by
  have h1 := (cut_w isw_a).app (cut_colon.app cut_sp (fun h => by cases h)) (fun _ r _ => w58' [32] r)
  have h2 := h1.app ((cut_w isw_expect).app cut_sp (fun _ r _ => w32' [] r)) (fun h => by cases h)
  have h3 := h2.app (cut_q (l := [120]) ⟨[120], by decide⟩) (fun h => by cases h)
  have h4 := h3.app cut_go (fun h => by cases h)
  have h5 := h4.app ((cut_w isw_a).app cut_after (fun _ r _ => w32' _ r)) (fun h => by cases h)
  exact h5
theorem cut_mid : Cut false nMid [wK dGo, wK [97], sK 59, wK dTry] := by
  have h1 := cut_go.app ((cut_w isw_a).app (cut_semi.app cut_sp (fun h => by cases h)) (fun _ r _ => w59' [32] r)) (fun h => by cases h)
  have h2 := h1.app ((cut_w isw_try).app cut_sp (fun _ r _ => w32' [] r)) (fun h => by cases h)
  exact h2
theorem cut_end : Cut false nEnd [wK dGo, wK [97], sK 59] := by
  have h1 := cut_go.app ((cut_w isw_a).app cut_semi (fun _ r _ => w59' [] r)) (fun h => by cases h)
  exact h1
theorem num_cut (n m : Nat) (hn : n < 4294967296) (hm : m < 4294967296) : ∃ H M T p, H.map bare = hdTk ∧ M.map bare = [wK dGo, wK [97], sK 59, wK dTry] ∧ T.map bare = [wK dGo, wK [97], sK 59] ∧
    cutR (nText n m) 0 = .ok (H ++ ⟨2, digL 10 n, n, nHead.length⟩ :: (M ++ ⟨2, digL 10 m, m, nHead.length + (digL 10 n).length + nMid.length⟩ :: (T ++ [⟨0, [], 0, p⟩]))) := by
  obtain ⟨H, h1, h2⟩ := cut_head (digL 10 n ++ (nMid ++ (digL 10 m ++ nEnd))) 0 (fun h => by cases h)
  obtain ⟨M, m1, m2⟩ := cut_mid (digL 10 m ++ nEnd) (nHead.length + (digL 10 n).length) (fun h => by cases h)
  obtain ⟨T, t1, t2⟩ := cut_end [] (nHead.length + (digL 10 n).length + nMid.length + (digL 10 m).length) (fun h => by cases h)
  rw [List.append_nil, cut_nil] at t2
  refine ⟨H, M, T, nHead.length + (digL 10 n).length + nMid.length + (digL 10 m).length + nEnd.length, h1, m1, t1, ?_⟩
  have e : nText n m = nHead ++ (digL 10 n ++ (nMid ++ (digL 10 m ++ nEnd))) := by unfold nText; simp only [List.append_assoc]
  rw [e, h2]
  have e3 : cutR (digL 10 n ++ (nMid ++ (digL 10 m ++ nEnd))) (0 + nHead.length) = preT [⟨2, digL 10 n, n, 0 + nHead.length⟩] (cutR (nMid ++ (digL 10 m ++ nEnd)) (0 + nHead.length + (digL 10 n).length)) := dec_cut (by decide) hn
  rw [e3, Nat.zero_add, m2]
  have e4 : cutR (digL 10 m ++ nEnd) (nHead.length + (digL 10 n).length + nMid.length) = preT [⟨2, digL 10 m, m, nHead.length + (digL 10 n).length + nMid.length⟩] (cutR nEnd (nHead.length + (digL 10 n).length + nMid.length + (digL 10 m).length)) := dec_cut (by decide) hm
  rw [e4, t2]
  simp only [preT, List.cons_append, List.nil_append]
theorem isw_x0 (n : Nat) (h : 1 ≤ n ∧ n ≤ 99) : TellS ⟨[97], 1, [], [⟨[120], [97]⟩], (n : Int), [97], 0⟩ :=
  ⟨.inr isw_a, (show (0 : Int) ≤ 1 ∧ (1 : Int) ≤ 5 by decide), (by rw [if_neg (show ¬ (1 : Int) = 0 by decide)]), (by rw [if_pos rfl]; exact ⟨by simp, fun a ha => by
    have e : a = ⟨[120], [97]⟩ := by simpa using ha
    rw [e]
    exact ⟨⟨[120], by decide⟩, isw_a⟩⟩), (by rw [if_pos rfl]; dsimp only; omega), (by rw [if_pos (.inl rfl)]; exact isw_a)⟩
theorem isw_x1 (m : Nat) (h : 1 ≤ m ∧ m ≤ 9) : TellS ⟨[], 3, [], [], (m : Int), [97], 0⟩ :=
  ⟨.inl rfl, (show (0 : Int) ≤ 3 ∧ (3 : Int) ≤ 5 by decide), (by rw [if_neg (show ¬ (3 : Int) = 0 by decide)]), (by rw [if_neg (show ¬ (3 : Int) = 1 by decide)]), (by rw [if_neg (show ¬ (3 : Int) = 1 by decide), if_pos rfl]; dsimp only; omega), (by rw [if_pos (.inr (.inr rfl))]; exact isw_a)⟩
theorem num_parse (n m : Nat) (hn : n < 4294967296) (hm : m < 4294967296) :
    ((n < 1 ∨ 99 < n) → parseD (nText n m) = .error (5, nHead.length)) ∧
    (1 ≤ n → n ≤ 99 → (m < 1 ∨ 9 < m) → parseD (nText n m) = .error (5, nHead.length + (digL 10 n).length + nMid.length)) ∧
    (1 ≤ n → n ≤ 99 → 1 ≤ m → m ≤ 9 → ∃ x y, parseD (nText n m) = .ok [x, y] ∧ x.n = (n : Int) ∧ y.n = (m : Int) ∧ y.kind = 3) := by
  obtain ⟨H, M, T, p, h1, h2, h3, h4⟩ := num_cut n m hn hm
  have hP : parseD (nText n m) = parP (H ++ (⟨2, digL 10 n, n, nHead.length⟩ : Tk) :: (M ++ (⟨2, digL 10 m, m, nHead.length + (digL 10 n).length + nMid.length⟩ : Tk) :: (T ++ [(⟨0, [], 0, p⟩ : Tk)]))).length [] ⟨H ++ ⟨2, digL 10 n, n, nHead.length⟩ :: (M ++ ⟨2, digL 10 m, m, nHead.length + (digL 10 n).length + nMid.length⟩ :: (T ++ [⟨0, [], 0, p⟩])), none⟩ := by
    unfold parseD; rw [h4]
  obtain ⟨f, hf⟩ : ∃ f, (H ++ (⟨2, digL 10 n, n, nHead.length⟩ : Tk) :: (M ++ ⟨2, digL 10 m, m, nHead.length + (digL 10 n).length + nMid.length⟩ :: (T ++ [⟨0, [], 0, p⟩]))).length = f + 3 := ⟨H.length + M.length + T.length, by simp; omega⟩
  rw [hf] at hP
  refine ⟨fun hb => ?_, fun g1 g2 hb => ?_, fun g1 g2 g3 g4 => ?_⟩
  · obtain ⟨e1, e2⟩ := stp_bad1 (U := M ++ ⟨2, digL 10 m, m, nHead.length + (digL 10 n).length + nMid.length⟩ :: (T ++ [⟨0, [], 0, p⟩])) (t := ⟨2, digL 10 n, n, nHead.length⟩) h1 rfl hb
    rw [hP, par_bad e2 e1]
  all_goals
    obtain ⟨t1, M1, rfl, a1, h2⟩ := map_one h2
    obtain ⟨t2, M2, rfl, a2, h2⟩ := map_one h2
    obtain ⟨t3, M3, rfl, a3, h2⟩ := map_one h2
    obtain ⟨t4, M4, rfl, a4, h2⟩ := map_one h2
    obtain rfl := map_nil h2
    have hT : (H ++ (⟨2, digL 10 n, n, nHead.length⟩ : Tk) :: [t1, t2, t3]).map bare = skS ⟨[97], 1, [], [⟨[120], [97]⟩], (n : Int), [97], 0⟩ := by
      rw [List.map_append, h1, List.map_cons, List.map_cons, List.map_cons, List.map_cons, List.map_nil, a1, a2, a3]
      rfl
    obtain ⟨q, e1, e2⟩ := stp_go (isw_x0 n ⟨g1, g2⟩) (us := t4 :: (⟨2, digL 10 m, m, nHead.length + (digL 10 n).length + nMid.length⟩ :: (T ++ [⟨0, [], 0, p⟩]))) hT
    have ee : H ++ (⟨2, digL 10 n, n, nHead.length⟩ : Tk) :: ([t1, t2, t3, t4] ++ ⟨2, digL 10 m, m, nHead.length + (digL 10 n).length + nMid.length⟩ :: (T ++ [⟨0, [], 0, p⟩])) = (H ++ (⟨2, digL 10 n, n, nHead.length⟩ : Tk) :: [t1, t2, t3]) ++ (t4 :: (⟨2, digL 10 m, m, nHead.length + (digL 10 n).length + nMid.length⟩ :: (T ++ [⟨0, [], 0, p⟩]))) := by simp
    rw [ee] at hP
  · obtain ⟨e3, e4⟩ := stp_bad2 (U := T ++ [⟨0, [], 0, p⟩]) (t := ⟨2, digL 10 m, m, nHead.length + (digL 10 n).length + nMid.length⟩) a4 rfl hb
    rw [hP, par_go e2 (by rw [e1]), e1]
    dsimp only
    rw [par_bad e4 e3]
  · have hT2 : (t4 :: ((⟨2, digL 10 m, m, nHead.length + (digL 10 n).length + nMid.length⟩ : Tk) :: T)).map bare = skS ⟨[], 3, [], [], (m : Int), [97], 0⟩ := by
      rw [List.map_cons, List.map_cons, h3, a4]
      rfl
    obtain ⟨q2, e3, e4⟩ := stp_go (isw_x1 m ⟨g3, g4⟩) (us := [⟨0, [], 0, p⟩]) hT2
    refine ⟨⟨[97], 1, [], [⟨[120], [97]⟩], (n : Int), [97], (q : Int)⟩, ⟨[], 3, [], [], (m : Int), [97], (q2 : Int)⟩, ?_, rfl, rfl, rfl⟩
    rw [hP, par_go e2 (by rw [e1]), e1]
    dsimp only
    have e5 : t4 :: ((⟨2, digL 10 m, m, nHead.length + (digL 10 n).length + nMid.length⟩ : Tk) :: (T ++ [⟨0, [], 0, p⟩])) = (t4 :: ((⟨2, digL 10 m, m, nHead.length + (digL 10 n).length + nMid.length⟩ : Tk) :: T)) ++ [⟨0, [], 0, p⟩] := rfl
    rw [e5, par_go e4 (by rw [e3]), e3]
    dsimp only
    rw [par_end rfl]
    rfl
end Go.Proofs.YtdjmfapbaoddoaaGreatDoor
