/-
  'lifelinelaw18.PlayOver' answers true for every input of the row, and leaves its arguments as they were.
  Conditions: the arguments hold together at most 1048576 values and bytes, each counted each time that it is reached; the package-level variables that the row lists lie as the program's own text lays them (the card ties them to it; what is pinned is a constant of the library's).
-/
import Derived.Test.YtgndcgknedmalaaGreatDoorRows
import Derived.Test.YtgndcgknedmalaaGreatDoorPlayStep
import Derived.Test.YtgndcgknedmalaaGreatDoorDialogAct
import Derived.Test.YtgndcgknedmalaaGreatDoorFrame
import Derived.Test.YtgndcgknedmalaaGreatDoorFrameEight
import Derived.Test.YtgndcgknedmalaaGreatDoorCards
import Derived.WalkKit
import Derived.ProofKit
import Derived.OpenShut
import Derived.ShutString
import Derived.ChangeOld
import Derived.Below
import Derived.Deep.DeepHandedRow
import Derived.Deep.DeepWitnessRowRef
namespace Go.Proofs.YtgndcgknedmalaaGreatDoor
open Go.RowKit
set_option linter.unusedVariables false

/-! ### patterns that numbers make, behind a byte -/
/-- One piece, or two. -/
def Two (grp : List UInt8 → R Re) (l rest : List UInt8) : Prop := endsF l = false ∧ ((∃ n, pieceF grp l = (some n, rest)) ∨ ∃ n q m, pieceF grp l = (some n, q) ∧ endsF q = false ∧ pieceF grp q = (some m, rest))
theorem bld_two : ∀ (d : Nat) (ns : List UInt8) (k : Nat) (rest : List UInt8), 2 * d ≤ k → endsF rest = true → Two (grpN k) ((bldL d ns).1 ++ rest) rest
  | d, [], k, rest, hk, he => by
    have e : bldL d [] = ([97], .one (withS st0 97), []) := by unfold bldL; rfl
    rw [e]
    exact ⟨ends_cons _ _ (by decide) (by decide), .inl ⟨_, piece_plain (atom_lit 97 rest (by decide)) (ends3 he)⟩⟩
  | 0, n :: ns, k, rest, hk, he => by
    have h3 : n.toNat % 3 < 3 := Nat.mod_lt _ (by omega)
    unfold bldL
    simp only
    generalize n.toNat % 3 = j at *
    rcases (by omega : j = 0 ∨ j = 1 ∨ j = 2) with rfl | rfl | rfl
    · exact ⟨ends_cons _ _ (by decide) (by decide), .inl ⟨_, piece_plain (atom_lit 97 rest (by decide)) (ends3 he)⟩⟩
    · exact ⟨ends_cons _ _ (by decide) (by decide), .inl ⟨_, piece_plain (atom_lit 98 rest (by decide)) (ends3 he)⟩⟩
    · exact ⟨ends_cons _ _ (by decide) (by decide), .inl ⟨_, piece_plain (atom_lit 99 rest (by decide)) (ends3 he)⟩⟩
  | d + 1, n :: ns, k, rest, hk, he => by
    obtain ⟨k', rfl⟩ : ∃ k', k = k' + 2 := ⟨k - 2, by omega⟩
    have i1 := fun rest he => bld_seq d ns (k' + 1) rest (by omega) he
    have i2 := fun rest he => bld_seq d (bldL d ns).2.2 (k' + 1) rest (by omega) he
    have i3 := fun rest he => bld_seq d (bldL d ns).2.2 k' rest (by omega) he
    generalize hx : (bldL d ns).1 = x at *
    generalize hy : (bldL d (bldL d ns).2.2).1 = y at *
    generalize hm : (bldL d (bldL d ns).2.2).2.1 = m at *
    generalize hn : (bldL d ns).2.1 = nn at *
    have a1 : ∀ q, altN (k' + 1) (x ++ 41 :: q) = (some nn, 41 :: q) := fun q => by rw [altN_eq]; exact alt_one (i1 _ (ends41 q)) rfl
    have a2 : ∀ q, altN (k' + 1) (y ++ 41 :: q) = (some m, 41 :: q) := fun q => by rw [altN_eq]; exact alt_one (i2 _ (ends41 q)) rfl
    have a3 : ∀ q, altN k' (y ++ 41 :: q) = (some m, 41 :: q) := fun q => by rw [altN_eq]; exact alt_one (i3 _ (ends41 q)) rfl
    unfold bldL
    rw [hx, hy, hm, hn]
    split
    · have e : ([40] ++ x ++ [41, 40] ++ y ++ [41]) ++ rest = 40 :: (x ++ 41 :: (40 :: (y ++ 41 :: rest))) := by simp
      show Two _ (([40] ++ x ++ [41, 40] ++ y ++ [41]) ++ rest) _
      rw [e]
      exact ⟨ends_cons _ _ (by decide) (by decide), .inr ⟨_, _, _, piece_plain (atom_grp (a1 _)) (three 40 (by decide) (by decide) (by decide) _), ends_cons _ _ (by decide) (by decide), piece_plain (atom_grp (a2 _)) (ends3 he)⟩⟩
    split
    · have e : ([40] ++ x ++ [124, 40] ++ y ++ [41, 41]) ++ rest = 40 :: ((x ++ 124 :: 40 :: (y ++ [41])) ++ 41 :: rest) := by simp
      have e2 : (x ++ 124 :: 40 :: (y ++ [41])) ++ 41 :: rest = x ++ (124 :: 40 :: (y ++ 41 :: 41 :: rest)) := by simp
      show Two _ (([40] ++ x ++ [124, 40] ++ y ++ [41, 41]) ++ rest) _
      rw [e]
      have hin : altN (k' + 1) ((x ++ 124 :: 40 :: (y ++ [41])) ++ 41 :: rest) = (some (.alt nn m), 41 :: rest) := by
        rw [e2, altN_eq]
        exact alt_two (i1 _ (ends124 _)) (seq_one (piece_plain (atom_grp (a3 _)) (three 41 (by decide) (by decide) (by decide) _)) (ends_cons _ _ (by decide) (by decide)) (ends41 _)) rfl
      exact ⟨ends_cons _ _ (by decide) (by decide), .inl ⟨_, piece_plain (atom_grp hin) (ends3 he)⟩⟩
    split
    · have e : ([40] ++ x ++ [41, 42]) ++ rest = 40 :: (x ++ 41 :: (42 :: rest)) := by simp
      show Two _ (([40] ++ x ++ [41, 42]) ++ rest) _
      rw [e]
      have hp : pieceF (grpN (k' + 2)) (40 :: (x ++ 41 :: (42 :: rest))) = (some (.star nn), rest) := by
        unfold pieceF; rw [atom_grp (a1 _)]; simp [nx_cons]
      exact ⟨ends_cons _ _ (by decide) (by decide), .inl ⟨_, hp⟩⟩
    split
    · have e : ([40] ++ x ++ [41, 63]) ++ rest = 40 :: (x ++ 41 :: (63 :: rest)) := by simp
      show Two _ (([40] ++ x ++ [41, 63]) ++ rest) _
      rw [e]
      have hp : pieceF (grpN (k' + 2)) (40 :: (x ++ 41 :: (63 :: rest))) = (some (.alt nn .nil), rest) := by
        unfold pieceF; rw [atom_grp (a1 _)]; simp [nx_cons]
      exact ⟨ends_cons _ _ (by decide) (by decide), .inl ⟨_, hp⟩⟩
    split
    · have e : ([40] ++ x ++ [41, 43]) ++ rest = 40 :: (x ++ 41 :: (43 :: rest)) := by simp
      show Two _ (([40] ++ x ++ [41, 43]) ++ rest) _
      rw [e]
      have hp : pieceF (grpN (k' + 2)) (40 :: (x ++ 41 :: (43 :: rest))) = (some (.thn nn (.star nn)), rest) := by
        unfold pieceF; rw [atom_grp (a1 _)]; simp [nx_cons]
      exact ⟨ends_cons _ _ (by decide) (by decide), .inl ⟨_, hp⟩⟩
    split
    · exact ⟨ends_cons _ _ (by decide) (by decide), .inl ⟨_, piece_plain (atom_any_byte rest) (ends3 he)⟩⟩
    · exact ⟨ends_cons _ _ (by decide) (by decide), .inl ⟨_, piece_plain (atom_cls rest) (ends3 he)⟩⟩
theorem piece_bad (grp : List UInt8 → R Re) (c : UInt8) (r : List UInt8) (h : c = 42 ∨ c = 43 ∨ c = 63) : pieceF grp (c :: r) = (none, c :: r) := by
  rcases h with rfl | rfl | rfl <;> (unfold pieceF atomF; simp [nx_cons])
theorem piece_head {grp : List UInt8 → R Re} {l q : List UInt8} {n : Re} (h : pieceF grp l = (some n, q)) : nx 42 l = false ∧ nx 43 l = false ∧ nx 63 l = false := by
  cases l with
  | nil => exact ⟨rfl, rfl, rfl⟩
  | cons c r =>
    rw [nx_cons, nx_cons, nx_cons]
    refine ⟨?_, ?_, ?_⟩ <;>
    · rw [beq_eq_false_iff_ne]
      intro e
      rw [piece_bad grp c r (by subst e; decide)] at h
      cases h
theorem seq_byte {grp : List UInt8 → R Re} {l rest : List UInt8} (h : Two grp l rest) (he : endsF rest = true) : ∃ r, seqF grp (98 :: l) = (some r, rest) ∧ emp r = false := by
  obtain ⟨hl, h⟩ := h
  have hd : nx 42 l = false ∧ nx 43 l = false ∧ nx 63 l = false := by
    rcases h with ⟨n, h⟩ | ⟨n, q, m, h, _⟩ <;> exact piece_head h
  have hb : pieceF grp (98 :: l) = (some (.one (withS st0 98)), l) := piece_plain (atom_lit 98 l (by decide)) hd
  rcases h with ⟨n, h⟩ | ⟨n, q, m, h, hq, h2⟩
  · exact ⟨_, seq_two hb (ends_cons _ _ (by decide) (by decide)) hl h he, by simp [emp]⟩
  · refine ⟨.thn (.thn (.one (withS st0 98)) n) m, ?_, by simp [emp]⟩
    unfold seqF
    rw [if_neg (by simp [ends_cons 98 l (by decide) (by decide)]), hb]
    show seqL grp (64 + 1) _ l = _
    unfold seqL
    rw [if_neg (by simp [hl]), h]
    show seqL grp (63 + 1) _ q = _
    unfold seqL
    rw [if_neg (by simp [hq]), h2]
    show seqL grp (62 + 1) _ rest = _
    unfold seqL
    rw [if_pos he]
theorem pat_byte (p : List UInt8) : ∃ r, pat9 (98 :: (bldL 2 p).1) = .inl r := by
  obtain ⟨r, hr, he⟩ := seq_byte (bld_two 2 p 6 [] (by omega) rfl) rfl
  rw [List.append_nil] at hr
  have hl : (98 :: (bldL 2 p).1).length ≤ 64 := by
    have := Nat.le_trans (bld_len 2 p) (show bldM 2 ≤ 63 by decide)
    rw [List.length_cons]; omega
  refine ⟨r, pat9_of hl ?_ he⟩
  have h2 : altN 6 (98 :: (bldL 2 p).1) = (some r, []) := by rw [altN_eq]; exact alt_one hr rfl
  unfold parseF
  rw [h2]
theorem of9_all : ∀ (ls : List (List UInt8)), (∀ l ∈ ls, ∃ r, pat9 l = .inl r) → ∃ rs, of9 ls = .inl rs
  | [], _ => ⟨[], rfl⟩
  | l :: ls, h => by
    obtain ⟨r, hr⟩ := h l List.mem_cons_self
    obtain ⟨rs, hrs⟩ := of9_all ls (fun x hx => h x (List.mem_cons_of_mem _ hx))
    exact ⟨r :: rs, by simp [of9, hr, hrs]⟩
theorem armsU_mem {d : Dc} {n : Nat} {a : Ar} : ∀ (j : Nat), a ∈ armsU d n j → ∃ i p, a = armN d n i p
  | 0, h => by cases h
  | j + 1, h => by
    cases hp : d.pats[j]? with
    | none =>
      have e : armsU d n (j + 1) = armsU d n j := by simp [armsU, hp]
      rw [e] at h
      exact armsU_mem j h
    | some p =>
      rw [arms_next hp] at h
      rcases List.mem_append.1 h with h | h
      · exact armsU_mem j h
      · exact ⟨j, p, by simpa using h⟩
theorem armsN_mem {d : Dc} {n : Nat} {a : Ar} (h : a ∈ armsN d n) : (∃ r, pat9 a.pat = .inl r) ∧ ∃ j, a.dst = labN (j % n) := by
  unfold armsN at h
  split at h
  · obtain rfl : a = ⟨[61, 62, 32], labN (d.tg % n)⟩ := by simpa using h
    refine ⟨?_, d.tg, rfl⟩
    obtain ⟨qs, hq⟩ := of9_one (l := [61, 62, 32]) (by decide +kernel)
    cases hp : pat9 [61, 62, 32] with
    | inl r => exact ⟨r, rfl⟩
    | inr v => simp [of9, hp] at hq
  · obtain ⟨i, p, rfl⟩ := armsU_mem _ h
    exact ⟨pat_byte p, d.tg + i, rfl⟩
/-! ### what numbers make is right -/
theorem stepN_lab (d : Dc) (k n : Nat) : (stepN d k n).label = labN k := by
  unfold stepN
  (repeat' split) <;> rfl
theorem stepsU_len {ds : List Dc} {n : Nat} : ∀ k, k ≤ ds.length → (stepsU ds n k).length = k
  | 0, _ => rfl
  | k + 1, h => by
    obtain ⟨d, hd⟩ : ∃ d, ds[k]? = some d := ⟨_, List.getElem?_eq_getElem (by omega)⟩
    rw [steps_next hd, List.length_append, stepsU_len k (by omega)]; rfl
theorem stepsU_at {ds : List Dc} {n i : Nat} : ∀ k, k ≤ ds.length → i < k → ∃ d, (stepsU ds n k)[i]? = some (stepN d i n)
  | 0, _, h => by omega
  | k + 1, h, hi => by
    obtain ⟨d, hd⟩ : ∃ d, ds[k]? = some d := ⟨_, List.getElem?_eq_getElem (by omega)⟩
    rw [steps_next hd]
    have hl := stepsU_len (ds := ds) (n := n) k (by omega)
    by_cases e : i = k
    · subst e
      exact ⟨d, by rw [List.getElem?_append_right (l₁ := stepsU ds n i) (by rw [hl]; exact Nat.le_refl _), hl]; simp⟩
    · obtain ⟨d', h'⟩ := stepsU_at (ds := ds) (n := n) (i := i) k (by omega) (by omega)
      exact ⟨d', by rw [List.getElem?_append_left (l₁ := stepsU ds n k) (by rw [hl]; omega)]; exact h'⟩
theorem stepsU_labs {ds : List Dc} {n : Nat} : ∀ k, k ≤ ds.length → (stepsU ds n k).map Sp.label = (List.range k).map labN
  | 0, _ => rfl
  | k + 1, h => by
    obtain ⟨d, hd⟩ : ∃ d, ds[k]? = some d := ⟨_, List.getElem?_eq_getElem (by omega)⟩
    rw [steps_next hd, List.map_append, stepsU_labs k (by omega), List.range_succ, List.map_append]
    show _ ++ [(stepN d k n).label] = _
    rw [stepN_lab]; rfl
theorem lab_find : ∀ k : Fin 13, ∀ j : Fin 12, findG ((List.range k.val).map labN) (labN j.val) 0 = if j.val < k.val then (j.val : Int) else -1 := by decide +kernel
theorem findS_lab {ss : List Sp} {k j : Nat} (h : ss.map Sp.label = (List.range k).map labN) (hk : k ≤ 12) (hj : j < 12) : findS ss (labN j) = if j < k then (j : Int) else -1 := by
  unfold findS
  rw [if_neg (by unfold labN; simp), h]
  exact lab_find ⟨k, by omega⟩ ⟨j, hj⟩
theorem stepsN_ok {ds : List Dc} (h0 : ds ≠ []) : OfOk (stepsN ds) := by
  have hl0 : 0 < ds.length := List.length_pos_iff.2 h0
  obtain ⟨n, hn⟩ : ∃ n, min ds.length 12 = n := ⟨_, rfl⟩
  have hn1 : 1 ≤ n := by omega
  have hn12 : n ≤ 12 := by omega
  have hnd : n ≤ ds.length := by omega
  have e : stepsN ds = stepsU ds n n := by unfold stepsN; rw [hn]
  rw [e]
  have hlen := stepsU_len (ds := ds) (n := n) n hnd
  have hlab := stepsU_labs (ds := ds) (n := n) n hnd
  have hmem : ∀ x ∈ stepsU ds n n, ∃ d i, i < n ∧ x = stepN d i n := fun x hx => by
    obtain ⟨i, hi, hix⟩ := List.getElem_of_mem hx
    rw [hlen] at hi
    obtain ⟨d, hd⟩ := stepsU_at (ds := ds) (n := n) n hnd hi
    rw [List.getElem?_eq_getElem (by rw [hlen]; exact hi), hix] at hd
    exact ⟨d, i, hi, Option.some.inj hd⟩
  have htg : ∀ j, 0 ≤ findS (stepsU ds n n) (labN (j % n)) := fun j => by
    have hj := Nat.mod_lt j (show 0 < n by omega)
    rw [findS_lab hlab hn12 (by omega), if_pos hj]; omega
  have h6 : ∀ d : Dc, d.kd % 6 = 0 ∨ d.kd % 6 = 1 ∨ d.kd % 6 = 2 ∨ d.kd % 6 = 3 ∨ d.kd % 6 = 4 ∨ d.kd % 6 = 5 := fun d => by omega
  refine ⟨by rw [hlen]; omega, fun i x hx => ?_, fun x hx => ?_, fun x hx a ha => ?_, fun x hx => ?_, fun x hx => ?_⟩
  · have hi : i < n := by have := (List.getElem?_eq_some_iff.1 hx).1; omega
    obtain ⟨d, hd⟩ := stepsU_at (ds := ds) (n := n) n hnd hi
    rw [hx] at hd
    have hd := Option.some.inj hd
    subst hd
    have hf : findS ((stepsU ds n n).take i) (stepN d i n).label < 0 := by
      rw [stepN_lab]
      have hlt : ((stepsU ds n n).take i).map Sp.label = (List.range i).map labN := by
        rw [List.map_take, hlab, ← List.map_take, List.take_range, Nat.min_eq_left (by omega)]
      rw [findS_lab hlt (by omega) (by omega), if_neg (by omega)]; decide
    refine ⟨hf, ?_, ?_, ?_⟩
    · rcases h6 d with h | h | h | h | h | h
      · rw [step0 h]; exact fun hk => absurd (show (0 : Int) = 1 from hk) (by decide)
      · rw [step1 h]
        obtain ⟨h7, h8, h9⟩ := armsN_good d (show 0 < n by omega) hn12
        refine fun _ => ⟨?_, ?_, of9_all _ (fun l hl => ?_)⟩
        · show 1 ≤ (armsN d n).length
          exact List.length_pos_iff.2 h8
        · show (armsN d n).length ≤ 8
          omega
        · obtain ⟨a, ha, rfl⟩ := List.mem_map.1 hl
          exact (armsN_mem ha).1
      · rw [step2 h]; exact fun hk => absurd (show (2 : Int) = 1 from hk) (by decide)
      · rw [step3 h]; exact fun hk => absurd (show (3 : Int) = 1 from hk) (by decide)
      · rw [step4 h]; exact fun hk => absurd (show (4 : Int) = 1 from hk) (by decide)
      · rw [step5 h]; exact fun hk => absurd (show (5 : Int) = 1 from hk) (by decide)
    · rcases h6 d with h | h | h | h | h | h
      · rw [step0 h]; exact Nat.zero_le _
      · rw [step1 h]
        obtain ⟨h7, h8, h9⟩ := armsN_good d (show 0 < n by omega) hn12
        show (armsN d n).length ≤ _
        omega
      · rw [step2 h]; exact Nat.zero_le _
      · rw [step3 h]; exact Nat.zero_le _
      · rw [step4 h]; exact Nat.zero_le _
      · rw [step5 h]; exact Nat.zero_le _
    · rcases h6 d with h | h | h | h | h | h
      · rw [step0 h]; exact fun t ht => by cases (show t ∈ ([] : List (List UInt8)) from ht)
      · rw [step1 h]
        intro t ht
        have ht' : t ∈ labN (d.tg % n) :: (armsN d n).map Ar.dst := ht
        rcases List.mem_cons.1 ht' with rfl | ht'
        · exact htg _
        · obtain ⟨a, ha, rfl⟩ := List.mem_map.1 ht'
          obtain ⟨j, hj⟩ := (armsN_mem ha).2
          rw [hj]; exact htg _
      · rw [step2 h]
        intro t ht
        obtain rfl : t = labN (d.tg % n) := by simpa using (show t ∈ [labN (d.tg % n)] from ht)
        exact htg _
      · rw [step3 h]
        intro t ht
        obtain rfl : t = labN (d.tg % n) := by simpa using (show t ∈ [labN (d.tg % n)] from ht)
        exact htg _
      · rw [step4 h]; exact fun t ht => by cases (show t ∈ ([] : List (List UInt8)) from ht)
      · rw [step5 h]; exact fun t ht => by cases (show t ∈ ([] : List (List UInt8)) from ht)
  · obtain ⟨d, i, hi, rfl⟩ := hmem x hx
    exact Nat.le_trans (step_good d hi hn12).text (by decide)
  · obtain ⟨d, i, hi, rfl⟩ := hmem x hx
    exact Nat.le_trans ((step_good d hi hn12).arms a ha).2.1 (by decide)
  · obtain ⟨d, i, hi, rfl⟩ := hmem x hx
    rcases h6 d with h | h | h | h | h | h
    · rw [step0 h]; exact (by decide : -9223372036854775808 ≤ (0 : Int) ∧ (0 : Int) ≤ 9223372036854775807)
    · rw [step1 h]; exact (by decide : -9223372036854775808 ≤ (1 : Int) ∧ (1 : Int) ≤ 9223372036854775807)
    · rw [step2 h]; exact (by decide : -9223372036854775808 ≤ (2 : Int) ∧ (2 : Int) ≤ 9223372036854775807)
    · rw [step3 h]; exact (by decide : -9223372036854775808 ≤ (3 : Int) ∧ (3 : Int) ≤ 9223372036854775807)
    · rw [step4 h]; exact (by decide : -9223372036854775808 ≤ (4 : Int) ∧ (4 : Int) ≤ 9223372036854775807)
    · rw [step5 h]; exact (by decide : -9223372036854775808 ≤ (5 : Int) ∧ (5 : Int) ≤ 9223372036854775807)
  · obtain ⟨d, i, hi, rfl⟩ := hmem x hx
    rcases h6 d with h | h | h | h | h | h
    · rw [step0 h]; exact (by decide : -9223372036854775808 ≤ (0 : Int) ∧ (0 : Int) ≤ 1000000)
    · rw [step1 h]; show -9223372036854775808 ≤ 1 + ((d.nn % 9 : Nat) : Int) ∧ 1 + ((d.nn % 9 : Nat) : Int) ≤ 1000000; omega
    · rw [step2 h]; exact (by decide : -9223372036854775808 ≤ (0 : Int) ∧ (0 : Int) ≤ 1000000)
    · rw [step3 h]; show -9223372036854775808 ≤ 1 + ((d.nn % 9 : Nat) : Int) ∧ 1 + ((d.nn % 9 : Nat) : Int) ≤ 1000000; omega
    · rw [step4 h]; exact (by decide : -9223372036854775808 ≤ (0 : Int) ∧ (0 : Int) ≤ 1000000)
    · rw [step5 h]; exact (by decide : -9223372036854775808 ≤ (0 : Int) ∧ (0 : Int) ≤ 1000000)
/-! ### the walk -/
/-- So much was heard and traced. -/
def PdK (n : Nat) (p : Pd) : Prop := p.heard.length ≤ n ∧ p.tr.length ≤ n
theorem pdk_put {xs : List Pst} {p : Pd} {n : Nat} (c : UInt8) (h : PdK n p) : PdK (n + 1) (putP xs p c).1 := by
  obtain ⟨h1, h2⟩ := h
  unfold putP PdK
  split
  · split
    · dsimp only; rw [List.length_append]; exact ⟨by show _ + 1 ≤ _; omega, by omega⟩
    · unfold goP; dsimp only; rw [List.length_append]; exact ⟨Nat.zero_le _, by show _ + 1 ≤ _; omega⟩
  · exact ⟨Nat.le_succ_of_le h1, Nat.le_succ_of_le h2⟩
theorem pdk_tick {xs : List Pst} {p : Pd} {n : Nat} (h : PdK n p) : PdK (n + 1) (tickP xs p).1 := by
  obtain ⟨h1, h2⟩ := h
  unfold tickP PdK
  split
  · split
    · exact ⟨Nat.le_succ_of_le h1, Nat.le_succ_of_le h2⟩
    · unfold goP; dsimp only; exact ⟨Nat.zero_le _, Nat.le_succ_of_le h2⟩
  · exact ⟨Nat.le_succ_of_le h1, Nat.le_succ_of_le h2⟩
/-- A Play that the law made, after so many bytes and ticks. -/
structure OvMid (w wr : World) (O : Nat → Prop) (gp : Nat) (xs : List Pst) (p : Pd) (n : Nat) : Prop where
  ply : Ply wr O gp xs p
  low : ∀ b, O b → w.heap.size ≤ b
  bel : Below w.heap.size w wr
  live : p.st = 0 → PstsOk xs ∧ PdOk xs p ∧ PdT p
  few : PdK n p
theorem ov_put {w wr : World} {O : Nat → Prop} {gp n : Nat} {xs : List Pst} {p : Pd} (h : OvMid w wr O gp xs p n) (hn : n < 1000000000) (c : UInt8) :
    Calls Tryz.prog 14 #[.pointer (some ⟨gp, 0, none⟩), .int .u8 (c.toNat : Int)] wr fun e w' => ∃ O' A m k p', e = .returned (.slice A m k) ∧ OvMid w w' O' gp xs p' (n + 1) := by
  by_cases hst : p.st = 0
  · obtain ⟨hX, hk, ht⟩ := h.live hst
    refine (put_ply hX h.ply hk (by have := h.few.1; omega) (by have := h.few.2; omega) c).mono fun e w' h' => ?_
    obtain ⟨O', A, k, he, ho⟩ := h'.out
    exact ⟨O', A, _, k, _, he, ⟨ho.ply, ho.low h.low h.bel.size, h.bel.trans (ho.below h.low h.bel.size), fun _ => ⟨hX, (put_ok hX c hk).1, pdt_put hX c ht⟩, pdk_put c h.few⟩⟩
  · refine (put_over18 h.ply hst c).mono fun e w' ⟨he, hw⟩ => ?_
    subst hw
    exact ⟨O, none, 0, 0, p, he, ⟨h.ply, h.low, h.bel, h.live, ⟨Nat.le_succ_of_le h.few.1, Nat.le_succ_of_le h.few.2⟩⟩⟩
theorem ov_tick {w wr : World} {O : Nat → Prop} {gp n : Nat} {xs : List Pst} {p : Pd} (h : OvMid w wr O gp xs p n) :
    Calls Tryz.prog 10 #[.pointer (some ⟨gp, 0, none⟩)] wr fun e w' => ∃ O' A m k p', e = .returned (.slice A m k) ∧ OvMid w w' O' gp xs p' (n + 1) := by
  by_cases hst : p.st = 0
  · obtain ⟨hX, hk, ht⟩ := h.live hst
    refine (tick_ply hX h.ply hk ht.le).mono fun e w' h' => ?_
    obtain ⟨O', A, k, he, ho⟩ := h'.out
    exact ⟨O', A, _, k, _, he, ⟨ho.ply, ho.low h.low h.bel.size, h.bel.trans (ho.below h.low h.bel.size), fun _ => ⟨hX, (tick_ok hX hk).1, pdt_tick hX ht⟩, pdk_tick h.few⟩⟩
  · refine (tick_over18 h.ply hst).mono fun e w' ⟨he, hw⟩ => ?_
    subst hw
    exact ⟨O, none, 0, 0, p, he, ⟨h.ply, h.low, h.bel, h.live, ⟨Nat.le_succ_of_le h.few.1, Nat.le_succ_of_le h.few.2⟩⟩⟩
/-- No dialogue without steps. -/
theorem dcheck_none (A : Option Addr) (c : Nat) (w : World) :
    Calls Tryz.prog 17 #[.slice A 0 c] w fun e w' => e = .returned (.tuple #[.int .i64 (-1), errnoV 7]) ∧ w' = w := by
  go_enter Tryz.func17, Tryz.ntmps17
  go_wp2
  go_ret2
  exact ⟨rfl, rfl⟩
set_option maxHeartbeats 4000000 in
theorem of_none18 (A : Option Addr) (c : Nat) (w : World) :
    Calls Tryz.prog 8 #[.slice A 0 c] w fun e w' => ∃ O gp A' k, e = .returned (.tuple #[.pointer (some ⟨gp, 0, none⟩), .slice A' 0 k]) ∧ OvMid w w' O gp [] illP 0 := by
  have HC := keepHid (dcheck_none A c w)
  obtain ⟨w1, hw1⟩ : ∃ w1, w.alloc (.cells #[.slice none 0 0, .int .i64 0, .pointer none, .int .i64 0, .int .i64 2, .slice none 0 0] 57) = w1 := ⟨_, rfl⟩
  have HM : Hid (OvMid w w1 (fun b => b = w.heap.size) w.heap.size [] illP 0) := keepHid (by
    have hk : Blk w1 w.heap.size 57 (plyC (.slice none 0 0) 0 (.pointer none) 0 2 (.slice none 0 0)) := by rw [← hw1]; exact Blk.new w _ _
    have hb : Below w.heap.size w w1 := by rw [← hw1]; exact (Below.refl _ _).alloc (Nat.le_refl _) _
    refine ⟨⟨fun b e => by subst e; exact ⟨Nat.le_refl _, hk.lt⟩, .inr ⟨by decide, w.heap.size + 1, .slice none 0 0, ⟨hk, World.ownsRow_nil _ _ _ _, Nat.lt_succ_self _, hk.lt⟩, rfl, (fun b e => by cases e)⟩⟩, (fun b e => by omega), hb, (fun e => by cases e), ⟨Nat.le_refl _, Nat.le_refl _⟩⟩)
  unfold errnoV at HC
  go_enter Tryz.func8, Tryz.ntmps8
  go_wp2_with fail
  refine HC.out.mono ?_
  rintro e w2 ⟨rfl, rfl⟩
  go_wp2_with fail
  try rw [hw1]
  go_wp2
  go_ret2
  exact ⟨_, _, none, 0, rfl, HM.out⟩
/-- A byte of a string, by a byte. -/
theorem run_idx8 {l : List UInt8} {k : Nat} {c : UInt8} (h : l[k]? = some c) (i : Int) (hi : i = (k : Int)) (w : World) :
    (Instr.index 9 (.string (strB l)) (.int .u8 i)).run Tryz.prog w = .ok (.int .u8 (c.toNat : Int)) w := by
  subst hi
  have hk : k < l.length := (List.getElem?_eq_some_iff.1 h).1
  rw [run_index_string w 9 (strB l) .u8 k Tryz.underlying9, dif_pos ⟨by omega, by rw [strB_size]; omega⟩]
  have key : ∀ (i : Nat) (hi : i < (strB l).size), i = k → (strB l)[i] = c := by
    rintro i hi rfl
    have h2 : (strB l).data[i]? = some c := by show l.toArray[i]? = some c; simpa using h
    exact (Array.getElem?_eq_some_iff.1 h2).2
  rw [key _ _ (by omega)]
def ovL : List UInt8 := [97, 98, 99, 61, 62, 32, 98]
set_option maxRecDepth 100000 in
set_option maxHeartbeats 16000000 in
theorem over_walk (a0 : Option Addr) (n0 c0 : Nat) (d0s : List Dc) (l0 : n0 ≤ c0) (s0 : c0 ≤ 9223372036854775807) (a1 : Option Addr) (n1 c1 : Nat) (b1 : List UInt8) (m1 : n1 ≤ 1048576) (a2 : Option Addr) (n2 c2 : Nat) (b2 : List UInt8) (w : World) (hE : Errs w) (h0 : DctS w a0 n0 d0s) (h1 : Bys w w.heap.size a1 n1 b1) (h2 : Bys w w.heap.size a2 n2 b2) :
    Calls Tryz.prog 6 #[.slice a0 n0 c0, .slice a1 n1 c1, .slice a2 n2 c2] w fun e w' => e = .returned (.bool true) ∧ Below w.heap.size w w' := by
  have HA := keepHid (awake_any w hE)
  have H0 := keepHid h0
  have H1 := keepHid h1
  have H2 := keepHid h2
  have HST := keepHid (fun w' (hb : Below w.heap.size w w') => steps_any d0s a0 n0 c0 l0 s0 w' (h0.below hb))
  have hmx2 := h2.max
  clear hE h0 h1 h2
  go_enter Tryz.func6, Tryz.ntmps6
  go_wp2_with fail
  refine HA.out.mono ?_
  rintro e w1 ⟨rfl, hb1⟩
  have HB1 := keepHid hb1
  have HS1 := keepHid (HST.out w1 hb1)
  clear hb1 HA HST
  go_wp2_with fail
  refine HS1.out.mono ?_
  rintro e w2 ⟨⟨B, m, cb, rfl, hown⟩, hb2⟩
  have HB2 := keepHid (HB1.out.trans (hb2.mono HB1.out.size))
  have HOF : Hid (Calls Tryz.prog 8 #[.slice B m cb] w2 fun e w' => ∃ O gp A' j k xs p, e = .returned (.tuple #[.pointer (some ⟨gp, 0, none⟩), .slice A' j k]) ∧ OvMid w w' O gp xs p 0) := keepHid (by
    have hl := hown.len
    obtain ⟨A', c', e0, hc1, hc2, _⟩ := hown.form
    obtain ⟨rfl, rfl⟩ : B = A' ∧ cb = c' := by injection e0 with e1 e2 e3; exact ⟨e1, e3⟩
    by_cases hd : d0s = []
    · have hm : m = 0 := by rw [← hl, hd]; rfl
      subst hm
      refine (of_none18 B cb w2).mono fun e w' h => ?_
      obtain ⟨O, gp, A', k, he, hm⟩ := h
      exact ⟨O, gp, A', 0, k, [], illP, he, ⟨hm.ply, fun b hb => Nat.le_trans HB2.out.size (hm.low b hb), HB2.out.trans (hm.bel.mono HB2.out.size), hm.live, hm.few⟩⟩
    · have hok := stepsN_ok hd
      have hX := psts_ok hok
      refine (of_any18 hok B m cb hc1 hc2 w2 hown.sts).mono fun e w' h => ?_
      obtain ⟨O, gp, A', k, he, ho, hp, hlow, ha, hb⟩ := h
      exact ⟨O, gp, A', _, k, _, _, he, ⟨hp, fun b hb' => Nat.le_trans HB2.out.size (hlow b hb'), HB2.out.trans (hb.mono HB2.out.size), fun _ => ⟨hX, (of_ok hX).1, pdt_of hX⟩, ⟨Nat.zero_le _, Nat.zero_le _⟩⟩⟩)
  clear hown hb2 HS1
  go_wp2_with fail
  refine HOF.out.mono ?_
  rintro e w3 ⟨O3, gp, A3, j3, k3, xs, p3, rfl, hm3⟩
  have HM3 := keepHid hm3
  clear hm3 HOF
  go_wp2_with fail
  go_loopw [26] (fun iv wr => ∃ (i : Nat) (O : Nat → Prop) (p : Pd), i ≤ n1 ∧ iv = .int .i64 (i : Int) ∧ Hid (OvMid w wr O gp xs p i)) (fun iv _ => n1 - (intOf iv).toNat)
  case atStart => exact ⟨0, O3, p3, Nat.zero_le _, rfl, HM3⟩
  case round =>
    obtain ⟨i, O, p, hi, rfl, HM⟩ := hrel
    generalize wr = wq at *
    clear HM3
    by_cases hlt : i < n1
    · have hltI : (i : Int) < (n1 : Int) := by omega
      obtain ⟨ad, c, rfl, hadl, hc, hcell⟩ := (H1.out.below HM.out.bel).at_ hlt
      have hc256 := u8lt c
      obtain ⟨x, hx⟩ : ∃ x, c.toNat = x := ⟨_, rfl⟩
      rw [hx] at hcell hc256
      obtain ⟨r5, hr5⟩ : ∃ r, x % 5 = r := ⟨_, rfl⟩
      obtain ⟨r7, hr7⟩ : ∃ r, x % 7 = r := ⟨_, rfl⟩
      have e1 : (x : Int) % 5 = (r5 : Int) := by omega
      have e2 : Int.tmod (x : Int) 5 = (r5 : Int) := by rw [Int.tmod_eq_emod_of_nonneg (by omega)]; exact e1
      have e3 : IntKind.u8.wrap (r5 : Int) = (r5 : Int) := by unfold IntKind.wrap; simp [IntKind.signed, IntKind.bits]; omega
      have f1 : (x : Int) % 7 = (r7 : Int) := by omega
      have f2 : Int.tmod (x : Int) 7 = (r7 : Int) := by rw [Int.tmod_eq_emod_of_nonneg (by omega)]; exact f1
      have f3 : IntKind.u8.wrap (r7 : Int) = (r7 : Int) := by unfold IntKind.wrap; simp [IntKind.signed, IntKind.bits]; omega
      have h7 : r7 < 7 := by omega
      obtain ⟨d, hd⟩ : ∃ d, ovL[r7]? = some d := ⟨_, List.getElem?_eq_getElem (by unfold ovL; simpa using h7)⟩
      have hidx : ∀ W, (Instr.index 9 (.string ⟨#[97, 98, 99, 61, 62, 32, 98]⟩) (.int .u8 (r7 : Int))).run Tryz.prog W = .ok (.int .u8 (d.toNat : Int)) W := fun W => run_idx8 hd (r7 : Int) rfl W
      have HPU := keepHid (ov_put HM.out (by omega) d)
      have HTK := keepHid (ov_tick HM.out)
      clear hx hc hd hr5 hr7 hadl
      by_cases h4 : r5 = 4
      · subst h4
        have e4 : (((4 : Nat) : Int) == 4) = true := by rfl
        go_wp2_with fail
        refine HTK.out.mono ?_
        rintro e w5 ⟨O5, A5, m5, k5, p5, rfl, hm5⟩
        have HM5 := keepHid hm5
        clear hm5 hidx hcell HPU HTK
        go_wp2
        go_roundw
        case rel => exact ⟨i + 1, O5, p5, by omega, by go_num, HM5⟩
        case measure => simp [intOf]; omega
      · have e4 : ((r5 : Int) == 4) = false := by simp; omega
        go_wp2_with fail
        refine HPU.out.mono ?_
        rintro e w5 ⟨O5, A5, m5, k5, p5, rfl, hm5⟩
        have HM5 := keepHid hm5
        clear hm5 hidx hcell HPU HTK
        go_wp2
        go_roundw
        case rel => exact ⟨i + 1, O5, p5, by omega, by go_num, HM5⟩
        case measure => simp [intOf]; omega
    · obtain rfl : i = n1 := by omega
      have HSA := keepHid (state_any18 HM.out.ply)
      have HAT := keepHid (at_any18 HM.out.ply)
      have HTR := keepHid (trace_any18 HM.out.ply (by have := HM.out.few.2; omega))
      obtain ⟨z, hz⟩ : ∃ z, p.st = z := ⟨_, rfl⟩
      rw [hz] at HSA
      by_cases hz0 : z = 0
      · subst hz0
        have HBE := keepHid HM.out.bel
        rw [show ((0 : Nat) : Int) = 0 from rfl] at HSA
        clear HAT HTR hz
        go_wp2_with ((with_reducible refine HSA.out.mono ?_); rintro e w6 ⟨rfl, rfl⟩)
        go_ret
        exact ⟨rfl, HBE.out⟩
      · have hzb : ((z : Int) == 0) = false := by simp; omega
        have HZ : Hid (p.st ≠ 0) := keepHid (by rw [hz]; exact hz0)
        obtain ⟨q, hq⟩ : ∃ q, p.pos = q := ⟨_, rfl⟩
        obtain ⟨L, hL⟩ : ∃ L, p.tr.length = L := ⟨_, rfl⟩
        rw [hq] at HAT
        rw [hL] at HTR
        have HLL := keepHid hL
        have HQQ := keepHid hq
        have HZZ := keepHid hz
        clear hz hz0 hq hL
        go_wp2_with (first | ((with_reducible refine HSA.out.mono ?_); rintro e w6 ⟨rfl, rfl⟩) | ((with_reducible refine HAT.out.mono ?_); rintro e w6 ⟨rfl, rfl⟩) | fail)
        refine HTR.out.mono ?_
        rintro e w7 ⟨⟨At, kt, rfl, _⟩, hb7⟩
        have HP7 := keepHid (HM.out.ply.below hb7)
        have HB7 := keepHid (HM.out.bel.trans (hb7.mono HM.out.bel.size))
        have HP8 := keepHid (fun c => put_over18 HP7.out HZ.out c)
        have HT8 := keepHid (tick_over18 HP7.out HZ.out)
        have HSA7 := keepHid (state_any18 HP7.out)
        have HAT7 := keepHid (at_any18 HP7.out)
        have HTR7 := keepHid (trace_any18 HP7.out (by have := HM.out.few.2; omega))
        rw [HZZ.out] at HSA7
        rw [HQQ.out] at HAT7
        rw [HLL.out] at HTR7
        clear hb7 HSA HAT HTR HM
        go_wp2_with fail
        go_loopw [53] (fun iv wr => ∃ i2 : Nat, i2 ≤ n2 ∧ iv = .int .i64 (i2 : Int) ∧ wr = w7) (fun iv _ => n2 - (intOf iv).toNat)
        case atStart => exact ⟨0, Nat.zero_le _, rfl, rfl⟩
        case round =>
          obtain ⟨i2, hi2, rfl, rfl⟩ := hrel
          by_cases hlt2 : i2 < n2
          · have hltI : (i2 : Int) < (n2 : Int) := by omega
            obtain ⟨ad, c, rfl, hadl, hc, hcell⟩ := (H2.out.below HB7.out).at_ hlt2
            have HPC := keepHid (HP8.out c)
            clear hc hadl
            go_wp2_with (first | ((with_reducible refine HPC.out.mono ?_); rintro e w8 ⟨rfl, rfl⟩) | ((with_reducible refine HT8.out.mono ?_); rintro e w8 ⟨rfl, rfl⟩))
            go_roundw
            case rel => exact ⟨i2 + 1, by omega, by go_num, by first | rfl | trivial⟩
            case measure => simp [intOf]; omega
          · obtain rfl : i2 = n2 := by omega
            go_wp2_with (first | ((with_reducible refine HSA7.out.mono ?_); rintro e w8 ⟨rfl, rfl⟩) | ((with_reducible refine HAT7.out.mono ?_); rintro e w8 ⟨rfl, rfl⟩) | ((with_reducible refine HTR7.out.mono ?_); rintro e w9 ⟨⟨At9, kt9, rfl, hst9⟩, hb9⟩; have HB9 := keepHid (HB7.out.trans (hb9.mono HB7.out.size)); clear hst9 hb9))
            go_ret
            exact ⟨rfl, HB9.out⟩
end Go.Proofs.YtgndcgknedmalaaGreatDoor

namespace Go.Proofs.YtgndcgknedmalaaGreatDoor.playOver
open Go.ChangeShapes Go.WideShapes Go.ChangeAt Go.RowKit
open Go.ChangeMaps (open_string shut_string)
set_option linter.unusedVariables false

theorem bulk_some {H : Type} (d : DataW H) : 1 ≤ Rows.uptoBulk d := by
  cases d with
  | lit l => cases l <;> simp [Rows.uptoBulk]
  | nil => simp [Rows.uptoBulk]
  | ptr d => simp [Rows.uptoBulk]
  | slice elems spare => simp [Rows.uptoBulk]
  | agg parts => simp [Rows.uptoBulk]
  | iface t d => simp [Rows.uptoBulk]
  | map entries => simp [Rows.uptoBulk]
  | held h => simp [Rows.uptoBulk]
theorem bulk_many {H : Type} : ∀ l : List (DataW H), l.length ≤ Rows.uptoBulkAll l
  | [] => by simp [Rows.uptoBulkAll]
  | x :: r => by have := bulk_some x; have := bulk_many r; simp only [Rows.uptoBulkAll, List.length_cons]; omega
theorem sized_bulk {H : Type} {d : DataW H} {n : Nat} (h : SizedAs d n) : n ≤ Rows.uptoBulk d := by
  rcases h with ⟨rfl, rfl⟩ | ⟨el, sp, rfl, rfl⟩
  · exact Nat.zero_le _
  · have := bulk_many el
    simp only [Rows.uptoBulk]
    omega
theorem bys_sized {H : Type} {enc : TypeId × Value → H} {P : Program} {W : World} {base : Nat} {held : Bool} {t e : TypeId} {A : Option Addr} {n c : Nat} {d : DataW H} {p : List MemPlace} (ht : P.underlying t = some (.slice e)) (he : P.underlying e = some (.int .u8)) (hc : P.cellsOf e = 1)
    (h : DataW.Trod enc P W base (fun _ => true) held t (.slice A n c) d p) : SizedAs d n := by
  obtain ⟨fuel, hf⟩ := h
  obtain ⟨A', n', c', bs, hcs, _, _, _, hs⟩ := bys_trod ht he hc hf
  simp [Value.cells] at hcs
  obtain ⟨_, rfl, _⟩ := hcs
  exact hs
theorem own : ownKnob Tryz.prog.godebug = none := by kernel_rfl
theorem laidOut : laidOutB Tryz.prog = true := by kernel_rfl

theorem walk (a0 : Option Addr) (n0 c0 : Nat) (d0s : List Dc) (a1 : Option Addr) (n1 c1 : Nat) (b1 : List UInt8) (a2 : Option Addr) (n2 c2 : Nat) (b2 : List UInt8) (w : World) (hE : Errs w) (hR : ErrT w) (h0 : DctS w a0 n0 d0s) (l0 : n0 ≤ c0) (s0 : c0 ≤ 9223372036854775807) (m1 : n1 ≤ 1048576) (h1 : Bys w w.heap.size a1 n1 b1) (l1 : n1 ≤ c1) (s1 : c1 ≤ 140737488351232) (h2 : Bys w w.heap.size a2 n2 b2) (l2 : n2 ≤ c2) (s2 : c2 ≤ 140737488351232) :
    Calls Tryz.prog 6 #[.slice a0 n0 c0, .slice a1 n1 c1, .slice a2 n2 c2] w fun e w' => e = .returned (.bool true) ∧ Below w.heap.size w w' := by
  exact over_walk a0 n0 c0 d0s l0 s0 a1 n1 c1 b1 m1 a2 n2 c2 b2 w hE h0 h1 h2

set_option maxRecDepth 100000 in
theorem lifted (os : Os) (started : os.Started) (H : Type) (enc : TypeId × Value → H) (F : Stop.Interp) :
    ReturnsInHanded {} Tryz.checked os 6 .any ((Rows.OpenSpec.upto Rows.playOverSpec).preRow enc Tryz.prog Tryz.f6 Rows.playOverUptoRow.domain false laid8) (((Rows.OpenSpec.upto Rows.playOverSpec).at F).post enc Tryz.prog Tryz.f6 false true false false) := by
  refine returnsInHanded_of_row (C := Tryz.checked) (s := Rows.OpenSpec.upto Rows.playOverSpec) own started (by kernel_rfl) Tryz.func6
    (witness_row_atRef (enc := enc) (C := Tryz.checked) false (worldF os) #[.slice none 0 0, .slice none 0 0, .slice none 0 0] (worldF_os os) (by kernel_rfl) (by kernel_rfl) (by kernel_rfl)
      (OpenSpec.preRow_of_cond 8 (x := ([.nil, .nil, .nil], [], [])) (by kernel_rfl) rfl (fun k hk => by cases hk; rfl) (by kernel_rfl) (door8 os _))) ?_
  intro W base args ds gs before hval0 hW hcnd hsmall0 hsz0 hL _ _
  have hsz : (DataW.weightsEach Tryz.prog (Tryz.f6.params.toList ++ Rows.playOverSpec.plain.varTypes Tryz.prog) (ds ++ gs)).all (· ≤ reachBytes) = true := hsz0
  clear hsz0
  have hsmall : Rows.uptoBulkAll (ds ++ gs) ≤ 1048576 := of_decide_eq_true (hsmall0 _ rfl)
  clear hsmall0
  have hval : ∀ (j : Nat) t v, Tryz.f6.params[j]? = some t → args[j]? = some v → Value.okWide Tryz.prog W .any base t v := hval0
  have hW' := hW
  obtain ⟨p, q, hA0, hV, rfl, hfz, hnd⟩ := hW
  have hA : DataW.TrodAll enc Tryz.prog W 0 (fun _ => true) true Tryz.f6.params.toList args.toList ds p := hA0
  rw [Tryz.params6] at hA hval hsz
  obtain ⟨v0, vs0, d0, ds0, p0, q0, hargs, rfl, rfl, h0, r0⟩ := trodAll_cons hA
  obtain ⟨v1, vs1, d1, ds1, p1, q1, rfl, rfl, rfl, h1, r1⟩ := trodAll_cons r0
  obtain ⟨v2, vs2, d2, ds2, p2, q2, rfl, rfl, rfl, h2, r2⟩ := trodAll_cons r1
  obtain ⟨rfl, rfl, rfl⟩ := trodAll_nil r2
  obtain rfl : args = #[v0, v1, v2] := by cases args; simp_all
  obtain ⟨rfl, rfl⟩ := trodVars_none hV
  have k0 := h0
  have lt0 : ∀ x ∈ p0, x.block < W.heap.size := by obtain ⟨m, hm⟩ := k0; exact DataW.trod_lt m _ _ _ hm
  have k1 := h1
  have lt1 : ∀ x ∈ p1, x.block < W.heap.size := by obtain ⟨m, hm⟩ := k1; exact DataW.trod_lt m _ _ _ hm
  have k2 := h2
  have lt2 : ∀ x ∈ p2, x.block < W.heap.size := by obtain ⟨m, hm⟩ := k2; exact DataW.trod_lt m _ _ _ hm
  obtain ⟨a0, n0, c0, d0s, rfl, w0, l0, s0⟩ := open_dact Tryz.underlying45 Tryz.underlying68 ⟨rfl, rfl⟩ ⟨rfl, rfl⟩ ⟨rfl, rfl⟩ ⟨rfl, rfl⟩ ⟨rfl, rfl⟩ ⟨rfl, rfl⟩ Tryz.underlying4 Tryz.underlying5 Tryz.underlying66 Tryz.underlying31 (by kernel_rfl) (by kernel_rfl) (by kernel_rfl) (by kernel_rfl) (by kernel_rfl) (hval 0 45 v0 rfl rfl) h0
  obtain ⟨a1, n1, c1, b1, rfl, w1, l1, s1⟩ := open_bys Tryz.underlying31 Tryz.underlying5 (by kernel_rfl) (by kernel_rfl) (hval 1 31 v1 rfl rfl) (fun _ => rfl) h1 (fun el sp hd => sized_slice hsz (j := 1) (t := 31) (e := 5) rfl (by rw [hd]; rfl) Tryz.underlying31)
  obtain ⟨a2, n2, c2, b2, rfl, w2, l2, s2⟩ := open_bys Tryz.underlying31 Tryz.underlying5 (by kernel_rfl) (by kernel_rfl) (hval 2 31 v2 rfl rfl) (fun _ => rfl) h2 (fun el sp hd => sized_slice hsz (j := 2) (t := 31) (e := 5) rfl (by rw [hd]; rfl) Tryz.underlying31)
  clear hA0 hval0
  simp only [List.append_nil, Rows.uptoBulkAll] at hsmall
  have m1 : n1 ≤ 1048576 := by have := sized_bulk (bys_sized Tryz.underlying31 Tryz.underlying5 (by kernel_rfl) h1); omega
  refine (walk a0 n0 c0 d0s a1 n1 c1 b1 a2 n2 c2 b2 W (errs8 hL) (errT8 hL) w0 l0 s0 m1 w1 l1 s1 w2 l2 s2).mono fun e W' ⟨he, bel⟩ => ?_
  subst he
  exact ⟨_, rfl, _, _, _, [], _, [], hW', trodAll_mk1 (shut_bool Tryz.underlying4 _), (trodAll_cons_mk (Below.trod laidOut (by kernel_rfl) (of_decide_eq_true (by kernel_rfl)) k0 bel lt0) (trodAll_cons_mk (Below.trod laidOut (by kernel_rfl) (of_decide_eq_true (by kernel_rfl)) k1 bel lt1) (trodAll_cons_mk (Below.trod laidOut (by kernel_rfl) (of_decide_eq_true (by kernel_rfl)) k2 bel lt2) trodAll_mk0))), rfl, bel.frame _, fun h => by cases h⟩

theorem over : Rows.playOverUptoRow.holds Tryz.pinned (Rows.OpenSpec.upto Rows.playOverSpec) :=
  OpenClaim.holds_of_cond 6 Tryz.f6 rfl rfl rfl rfl rfl rfl rfl ⟨rfl, rfl, rfl, rfl, rfl⟩ rfl rfl rfl rfl rfl (by kernel_rfl) Tryz.func6 (by kernel_rfl)
    (of_decide_eq_true (by kernel_rfl)) (by unfold Func.isWrapper; first | (rw [if_pos (by decide +kernel)]; kernel_rfl) | (rw [if_neg (by decide +kernel)]; exact ⟨rfl, rfl⟩))
    (fun os started H enc _ F => by rw [OpenClaim.pre_eq_preRow]; exact lifted os started H enc F)

/-- The card: what the row lists is tied to the program's own text. -/
theorem proved : Rows.PlayOverUptoCardSaid :=
  Claim7.holds_tied_plain_at .later [] [.data, .data, .data, .data, .handle, .sentinel, .sentinel, .pinned] true Rows.playOverUptoCard.stood.harness true
    over (fun _ h => by cases h) (by kernel_rfl) (fun _ h => by cases h) playOverUpto_row_tie rfl ⟨rfl, rfl⟩ (by kernel_rfl) rfl
    (fun f fn hf hfn => by
      obtain rfl : f = 6 := Option.some.inj ((show Tryz.prog.funcNamed "lifeline/lifelinelaw18.PlayOver" = some 6 by kernel_rfl).symm.trans hf) |>.symm
      obtain rfl : fn = Tryz.f6 := (Option.some.inj (Tryz.func6.symm.trans hfn)).symm
      exact ⟨by kernel_rfl, fun j t ht => by
        rw [Tryz.params6] at ht
        have hm : t ∈ [45, 31, 31] := by simpa using Array.mem_of_getElem? ht
        have hall : ([45, 31, 31].all fun u => !Tryz.prog.wantsStandIn u) = true := by kernel_rfl
        exact (show Tryz.prog.wantsStandIn t = false by simpa using List.all_eq_true.1 hall t hm)⟩)
    (by kernel_rfl)
end Go.Proofs.YtgndcgknedmalaaGreatDoor.playOver
