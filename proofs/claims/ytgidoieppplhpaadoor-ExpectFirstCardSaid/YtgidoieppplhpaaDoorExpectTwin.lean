/-
  'ps, ns = append(ps, s), append(ns, n)': whatever comes first, both rows have grown.
-/
import Derived.Test.YtgidoieppplhpaaDoorExpectRows
import Derived.Test.YtgidoieppplhpaaDoorMatchMid
import Derived.LoopTactic
import Derived.Deep.AppendLies
import Derived.Deep.RegionLaw
import GoSem.Machine.Early
namespace Go.Proofs.YtgidoieppplhpaaDoor
open Go.RowKit
set_option linter.unusedVariables false

theorem infoS10 : (Tryd.prog.info? 9).map (fun i => (i.zero, i.size, i.bytes)) = some (some (.string ⟨#[]⟩), 1, 16) := by kernel_rfl
theorem step_append_str {ops : Array Oper} {o : Oper} {a : Act} {w : World} {K : Act → World → Prop} {Q : Exit → Act → World → Prop} {E : Prop} (hgd : o.guard = none) (s x : Operand)
    (ho : o.op = .call { callee := .builtin .append, args := #[s, x], argTypes := #[25, 25] })
    (base : Nat) (v : Value) (n : Nat) (xs : List Value) (hs : a.eval s = v) (hown : w.ownsRow base 9 1 v n xs)
    (g : Nat) (hx : a.eval x = .slice (some ⟨g, 0, none⟩) 1 1) (u : Value) (hk : Blk w g 9 #[u]) (hu : u.oneCell' = true) (hn : n < 100) (hbase : base ≤ w.heap.size)
    (hK : ∀ G cap w', w'.ownsRow base 9 1 (.slice (some ⟨G, 0, none⟩) (n + 1) cap) (n + 1) (xs ++ [u]) → w.grownBy w' v.ownBlock → (v.ownBlock = some G ∨ G = w.heap.size) → K (a.put o.dst (.slice (some ⟨G, 0, none⟩) (n + 1) cap)) w') :
    if Region.wanted o (yielded ops a.tmps) = true then Oper.wp Tryd.prog o a w K Q else E := by
  obtain ⟨i, hi⟩ := Option.isSome_iff_exists.1 (show (Tryd.prog.info? 9).isSome = true by kernel_rfl)
  have h0 := infoS10
  rw [hi] at h0
  simp only [Option.map_some, Option.some.injEq, Prod.mk.injEq] at h0
  obtain ⟨hz, hsz, hby⟩ := h0
  have hcells : ∀ j y, ([u] : List Value)[j]? = some y → w.cell? ((⟨g, 0, none⟩ : Addr).add j) = some y := by
    intro j y hy
    rw [zero_add_ad, hk.cell]
    simpa using hy
  exact step_append_lies w hgd s x 25 ho base 9 i _ 1 16 Tryd.underlying25 hi hz hsz hby rfl (by omega) v n xs hs hown ⟨g, 0, none⟩ 1 1 [u] hx rfl hcells (by simpa using hu) (by omega) (by unfold maxLen; omega) (by omega) hbase _ rfl
    fun G cap w' h2 h3 h4 _ => hK G cap w' h2 h3 h4
theorem step_append_nd {ops : Array Oper} {o : Oper} {a : Act} {w : World} {K : Act → World → Prop} {Q : Exit → Act → World → Prop} {E : Prop} (hgd : o.guard = none) (s x : Operand)
    (ho : o.op = .call { callee := .builtin .append, args := #[s, x], argTypes := #[26, 26] })
    (base : Nat) (v : Value) (n : Nat) (xs : List Value) (hs : a.eval s = v) (hown : w.ownsRow base 32 6 v n xs)
    (g : Nat) (hx : a.eval x = .slice (some ⟨g, 0, none⟩) 1 1) (h : Hd) (hk : Blk w g 32 (hdC h)) (hn : n < 100) (hbase : base ≤ w.heap.size)
    (hK : ∀ G cap w', w'.ownsRow base 32 6 (.slice (some ⟨G, 0, none⟩) (n + 1) cap) (n + 1) (xs ++ hdL h) → w.grownBy w' v.ownBlock → (v.ownBlock = some G ∨ G = w.heap.size) → K (a.put o.dst (.slice (some ⟨G, 0, none⟩) (n + 1) cap)) w') :
    if Region.wanted o (yielded ops a.tmps) = true then Oper.wp Tryd.prog o a w K Q else E := by
  obtain ⟨i, hi⟩ := Option.isSome_iff_exists.1 (show (Tryd.prog.info? 32).isSome = true by kernel_rfl)
  have h0 := infoN
  rw [hi] at h0
  simp only [Option.map_some, Option.some.injEq, Prod.mk.injEq] at h0
  obtain ⟨hz, hsz, hby⟩ := h0
  have hcells : ∀ j y, (hdL h)[j]? = some y → w.cell? ((⟨g, 0, none⟩ : Addr).add j) = some y := by
    intro j y hy
    rw [zero_add_ad, hk.cell]
    simpa [hdC, hdL] using hy
  have h1 : ∀ y ∈ hdL h, y.oneCell' = true := by
    intro y hy
    simp [hdL] at hy
    rcases hy with rfl | rfl | rfl | rfl | rfl | rfl <;> rfl
  exact step_append_lies w hgd s x 26 ho base 32 i _ 6 64 Tryd.underlying26 hi hz hsz hby rfl (by omega) v n xs hs hown ⟨g, 0, none⟩ 1 1 (hdL h) hx rfl hcells h1 (by omega) (by unfold maxLen; omega) (by omega) hbase _ rfl
    fun G cap w' h2 h3 h4 _ => hK G cap w' h2 h3 h4
set_option maxHeartbeats 8000000 in
set_option maxRecDepth 100000 in
/-- The whole statement. -/
theorem twin_any {Q : Exit → Act → World → Prop} {L : Nat} {p : List UInt8} {x : Hd} {r : Re} {V1 V2 : Value} {ss : List (List UInt8)} {hs : List Hd} {rs : List Re} {V : Nat} {w0 : World} {T0 T1 T2 T3 T4 T7 T8 T11 T12 T13 T14 T15 T16 T17 T18 T19 T20 T21 T22 T23 T24 T25 T26 T27 T28 T29 T30 T31 T32 T33 T34 T35 T36 T37 T38 T39 T40 T41 T42 T43 T44 T45 : Value} {rest : List Value} (h4 : ss.length < 100 ∧ hs.length < 100)
    (hP : ∀ c (a : Act) (d : Option Tmp) (v : Value) (w : World), Q (.panic c) (a.put d v) w → Q (.panic c) a w)
    (hQ : ∀ (t46 t47 t48 t49 t50 t51 t52 t53 : Value) (w : World), R10 L p x r V1 V2 ss hs rs V w0 true true true true true t48 t49 t51 t52 t53 w → Q .normal { tmps := List.toArray (T0 :: T1 :: T2 :: T3 :: T4 :: t49 :: t53 :: T7 :: T8 :: .string (strB p) :: .pointer (some ⟨V, 0, none⟩) :: T11 :: T12 :: T13 :: T14 :: T15 :: T16 :: T17 :: T18 :: T19 :: T20 :: T21 :: T22 :: T23 :: T24 :: T25 :: T26 :: T27 :: T28 :: T29 :: T30 :: T31 :: T32 :: T33 :: T34 :: T35 :: T36 :: T37 :: T38 :: T39 :: T40 :: T41 :: T42 :: T43 :: T44 :: T45 :: t46 :: t47 :: t48 :: t49 :: t50 :: t51 :: t52 :: t53 :: rest), defers := [] } w)
    (t46 t47 t48 t49 t50 t51 t52 t53 : Value) (w : World) (hw : R10 L p x r V1 V2 ss hs rs V w0 false false false false false t48 t49 t51 t52 t53 w) :
    wpAny Tryd.prog .any (((Tryd.f3.body.map Code.opers).getD []).drop 30 |>.take 10).toArray Q 10 #[false, false, false, false, false, false, false, false, false, false] { tmps := List.toArray (T0 :: T1 :: T2 :: T3 :: T4 :: V1 :: V2 :: T7 :: T8 :: .string (strB p) :: .pointer (some ⟨V, 0, none⟩) :: T11 :: T12 :: T13 :: T14 :: T15 :: T16 :: T17 :: T18 :: T19 :: T20 :: T21 :: T22 :: T23 :: T24 :: T25 :: T26 :: T27 :: T28 :: T29 :: T30 :: T31 :: T32 :: T33 :: T34 :: T35 :: T36 :: T37 :: T38 :: T39 :: T40 :: T41 :: T42 :: T43 :: T44 :: T45 :: t46 :: t47 :: t48 :: t49 :: t50 :: t51 :: t52 :: t53 :: rest), defers := [] } w := by
  have s11111 : ∀ (t48 t49 t51 t52 t53 : Value) (w : World), R10 L p x r V1 V2 ss hs rs V w0 true true true true true t48 t49 t51 t52 t53 w → wpAny Tryd.prog .any (((Tryd.f3.body.map Code.opers).getD []).drop 30 |>.take 10).toArray Q 2 #[true, true, true, true, true, true, true, true, false, false] { tmps := List.toArray (T0 :: T1 :: T2 :: T3 :: T4 :: V1 :: V2 :: T7 :: T8 :: .string (strB p) :: .pointer (some ⟨V, 0, none⟩) :: T11 :: T12 :: T13 :: T14 :: T15 :: T16 :: T17 :: T18 :: T19 :: T20 :: T21 :: T22 :: T23 :: T24 :: T25 :: T26 :: T27 :: T28 :: T29 :: T30 :: T31 :: T32 :: T33 :: T34 :: T35 :: T36 :: T37 :: T38 :: T39 :: T40 :: T41 :: T42 :: T43 :: T44 :: T45 :: V1 :: .string (strB p) :: t48 :: t49 :: V2 :: t51 :: t52 :: t53 :: rest), defers := [] } w := by
    intro t48 t49 t51 t52 t53 w h
    obtain ⟨g1, q1, rfl⟩ := h.s49 rfl
    obtain ⟨g2, q2, rfl⟩ := h.s53 rfl
    refine wpAny_take (i := 8) (v := .slice (some ⟨g1, 0, none⟩) (ss.length + 1) q1) (ops_get rfl) (by kernel_rfl) (by kernel_rfl) (by kernel_rfl) (fun _ _ _ h => hP _ _ _ _ _ h) (Or.inl ⟨by rfl, ?_⟩) ?_
    · intro w
      go_simp
    refine wpAny_take (i := 9) (v := .slice (some ⟨g2, 0, none⟩) (hs.length + 1) q2) (ops_get rfl) (by kernel_rfl) (by kernel_rfl) (by kernel_rfl) (fun _ _ _ h => hP _ _ _ _ _ h) (Or.inl ⟨by rfl, ?_⟩) ?_
    · intro w
      go_simp
    simp only [Act.put, List.setIfInBounds_toArray, List.set_cons_zero, List.set_cons_succ]
    exact wpAny_done (by kernel_rfl) (hQ _ _ _ _ _ _ _ _ _ h) _
  have s11110 : ∀ (t48 t49 t51 t52 t53 : Value) (w : World), R10 L p x r V1 V2 ss hs rs V w0 true true true true false t48 t49 t51 t52 t53 w → wpAny Tryd.prog .any (((Tryd.f3.body.map Code.opers).getD []).drop 30 |>.take 10).toArray Q 3 #[true, true, true, true, true, true, true, false, false, false] { tmps := List.toArray (T0 :: T1 :: T2 :: T3 :: T4 :: V1 :: V2 :: T7 :: T8 :: .string (strB p) :: .pointer (some ⟨V, 0, none⟩) :: T11 :: T12 :: T13 :: T14 :: T15 :: T16 :: T17 :: T18 :: T19 :: T20 :: T21 :: T22 :: T23 :: T24 :: T25 :: T26 :: T27 :: T28 :: T29 :: T30 :: T31 :: T32 :: T33 :: T34 :: T35 :: T36 :: T37 :: T38 :: T39 :: T40 :: T41 :: T42 :: T43 :: T44 :: T45 :: V1 :: .string (strB p) :: t48 :: t49 :: V2 :: t51 :: t52 :: t53 :: rest), defers := [] } w := by
    intro t48 t49 t51 t52 t53 w h
    obtain ⟨g5, rfl, k5⟩ := h.s52 rfl rfl
    obtain rfl := h.s51 rfl
    obtain ⟨g1, q1, rfl⟩ := h.s49 rfl
    refine wpAny_ready (rs := [7]) (by kernel_rfl) (by simp) (AllReady.cons (ops_get rfl) (fun K' hK => ?_) AllReady.nil)
    · have hr := h.rows
      simp only [Bool.false_eq_true, if_false] at hr
      refine step_append_nd rfl (.tmp 50) (.tmp 52) rfl L V2 hs.length (hs.flatMap hdL) (by rfl) hr.own2 g5 (by rfl) x k5 h4.2 hr.base ?_
      intro G cap wd ho hg hG
      refine hK _ _ ?_
      exact s11111 _ _ _ _ _ _ (h.k53 ho hg hG)
  have s11100 : ∀ (t48 t49 t51 t52 t53 : Value) (w : World), R10 L p x r V1 V2 ss hs rs V w0 true true true false false t48 t49 t51 t52 t53 w → wpAny Tryd.prog .any (((Tryd.f3.body.map Code.opers).getD []).drop 30 |>.take 10).toArray Q 4 #[true, true, true, true, true, true, false, false, false, false] { tmps := List.toArray (T0 :: T1 :: T2 :: T3 :: T4 :: V1 :: V2 :: T7 :: T8 :: .string (strB p) :: .pointer (some ⟨V, 0, none⟩) :: T11 :: T12 :: T13 :: T14 :: T15 :: T16 :: T17 :: T18 :: T19 :: T20 :: T21 :: T22 :: T23 :: T24 :: T25 :: T26 :: T27 :: T28 :: T29 :: T30 :: T31 :: T32 :: T33 :: T34 :: T35 :: T36 :: T37 :: T38 :: T39 :: T40 :: T41 :: T42 :: T43 :: T44 :: T45 :: V1 :: .string (strB p) :: t48 :: t49 :: V2 :: t51 :: t52 :: t53 :: rest), defers := [] } w := by
    intro t48 t49 t51 t52 t53 w h
    obtain rfl := h.s51 rfl
    obtain ⟨g1, q1, rfl⟩ := h.s49 rfl
    refine wpAny_ready (rs := [6]) (by kernel_rfl) (by simp) (AllReady.cons (ops_get rfl) (fun K' hK => ?_) AllReady.nil)
    · unfold hdV
      go_simp
      refine hK _ _ ?_
      exact s11110 _ _ _ _ _ _ h.k52
  have s11000 : ∀ (t48 t49 t51 t52 t53 : Value) (w : World), R10 L p x r V1 V2 ss hs rs V w0 true true false false false t48 t49 t51 t52 t53 w → wpAny Tryd.prog .any (((Tryd.f3.body.map Code.opers).getD []).drop 30 |>.take 10).toArray Q 5 #[true, true, true, true, true, false, false, false, false, false] { tmps := List.toArray (T0 :: T1 :: T2 :: T3 :: T4 :: V1 :: V2 :: T7 :: T8 :: .string (strB p) :: .pointer (some ⟨V, 0, none⟩) :: T11 :: T12 :: T13 :: T14 :: T15 :: T16 :: T17 :: T18 :: T19 :: T20 :: T21 :: T22 :: T23 :: T24 :: T25 :: T26 :: T27 :: T28 :: T29 :: T30 :: T31 :: T32 :: T33 :: T34 :: T35 :: T36 :: T37 :: T38 :: T39 :: T40 :: T41 :: T42 :: T43 :: T44 :: T45 :: V1 :: .string (strB p) :: t48 :: t49 :: V2 :: t51 :: t52 :: t53 :: rest), defers := [] } w := by
    intro t48 t49 t51 t52 t53 w h
    obtain ⟨g1, q1, rfl⟩ := h.s49 rfl
    refine wpAny_ready (rs := [5]) (by kernel_rfl) (by simp) (AllReady.cons (ops_get rfl) (fun K' hK => ?_) AllReady.nil)
    · obtain ⟨n0, n1, n2, n3, n4, n5, nf⟩ := blk6 (show Blk w V 32 _ from h.var rfl)
      go_simp
      refine hK _ _ ?_
      exact s11100 _ _ _ _ _ _ h.k51
  have s10110 : ∀ (t48 t49 t51 t52 t53 : Value) (w : World), R10 L p x r V1 V2 ss hs rs V w0 true false true true false t48 t49 t51 t52 t53 w → wpAny Tryd.prog .any (((Tryd.f3.body.map Code.opers).getD []).drop 30 |>.take 10).toArray Q 4 #[true, true, true, false, true, true, true, false, false, false] { tmps := List.toArray (T0 :: T1 :: T2 :: T3 :: T4 :: V1 :: V2 :: T7 :: T8 :: .string (strB p) :: .pointer (some ⟨V, 0, none⟩) :: T11 :: T12 :: T13 :: T14 :: T15 :: T16 :: T17 :: T18 :: T19 :: T20 :: T21 :: T22 :: T23 :: T24 :: T25 :: T26 :: T27 :: T28 :: T29 :: T30 :: T31 :: T32 :: T33 :: T34 :: T35 :: T36 :: T37 :: T38 :: T39 :: T40 :: T41 :: T42 :: T43 :: T44 :: T45 :: V1 :: .string (strB p) :: t48 :: t49 :: V2 :: t51 :: t52 :: t53 :: rest), defers := [] } w := by
    intro t48 t49 t51 t52 t53 w h
    obtain ⟨g8, rfl, k8⟩ := h.s48 rfl rfl
    obtain ⟨g5, rfl, k5⟩ := h.s52 rfl rfl
    obtain rfl := h.s51 rfl
    refine wpAny_ready (rs := [3]) (by kernel_rfl) (by simp) (AllReady.cons (ops_get rfl) (fun K' hK => ?_) AllReady.nil)
    · have hr := h.rows
      simp only [Bool.false_eq_true, if_false] at hr
      refine step_append_str rfl (.tmp 46) (.tmp 48) rfl L V1 ss.length (ss.map strV) (by rfl) hr.own1 g8 (by rfl) (strV p) k8 rfl h4.1 hr.base ?_
      intro G cap wd ho hg hG
      refine hK _ _ ?_
      exact s11110 _ _ _ _ _ _ (h.k49 ho hg hG)
  have s10100 : ∀ (t48 t49 t51 t52 t53 : Value) (w : World), R10 L p x r V1 V2 ss hs rs V w0 true false true false false t48 t49 t51 t52 t53 w → wpAny Tryd.prog .any (((Tryd.f3.body.map Code.opers).getD []).drop 30 |>.take 10).toArray Q 5 #[true, true, true, false, true, true, false, false, false, false] { tmps := List.toArray (T0 :: T1 :: T2 :: T3 :: T4 :: V1 :: V2 :: T7 :: T8 :: .string (strB p) :: .pointer (some ⟨V, 0, none⟩) :: T11 :: T12 :: T13 :: T14 :: T15 :: T16 :: T17 :: T18 :: T19 :: T20 :: T21 :: T22 :: T23 :: T24 :: T25 :: T26 :: T27 :: T28 :: T29 :: T30 :: T31 :: T32 :: T33 :: T34 :: T35 :: T36 :: T37 :: T38 :: T39 :: T40 :: T41 :: T42 :: T43 :: T44 :: T45 :: V1 :: .string (strB p) :: t48 :: t49 :: V2 :: t51 :: t52 :: t53 :: rest), defers := [] } w := by
    intro t48 t49 t51 t52 t53 w h
    obtain ⟨g8, rfl, k8⟩ := h.s48 rfl rfl
    obtain rfl := h.s51 rfl
    refine wpAny_ready (rs := [3, 6]) (by kernel_rfl) (by simp) (AllReady.cons (ops_get rfl) (fun K' hK => ?_) (AllReady.cons (ops_get rfl) (fun K' hK => ?_) AllReady.nil))
    · have hr := h.rows
      simp only [Bool.false_eq_true, if_false] at hr
      refine step_append_str rfl (.tmp 46) (.tmp 48) rfl L V1 ss.length (ss.map strV) (by rfl) hr.own1 g8 (by rfl) (strV p) k8 rfl h4.1 hr.base ?_
      intro G cap wd ho hg hG
      refine hK _ _ ?_
      exact s11100 _ _ _ _ _ _ (h.k49 ho hg hG)
    · unfold hdV
      go_simp
      refine hK _ _ ?_
      exact s10110 _ _ _ _ _ _ h.k52
  have s10000 : ∀ (t48 t49 t51 t52 t53 : Value) (w : World), R10 L p x r V1 V2 ss hs rs V w0 true false false false false t48 t49 t51 t52 t53 w → wpAny Tryd.prog .any (((Tryd.f3.body.map Code.opers).getD []).drop 30 |>.take 10).toArray Q 6 #[true, true, true, false, true, false, false, false, false, false] { tmps := List.toArray (T0 :: T1 :: T2 :: T3 :: T4 :: V1 :: V2 :: T7 :: T8 :: .string (strB p) :: .pointer (some ⟨V, 0, none⟩) :: T11 :: T12 :: T13 :: T14 :: T15 :: T16 :: T17 :: T18 :: T19 :: T20 :: T21 :: T22 :: T23 :: T24 :: T25 :: T26 :: T27 :: T28 :: T29 :: T30 :: T31 :: T32 :: T33 :: T34 :: T35 :: T36 :: T37 :: T38 :: T39 :: T40 :: T41 :: T42 :: T43 :: T44 :: T45 :: V1 :: .string (strB p) :: t48 :: t49 :: V2 :: t51 :: t52 :: t53 :: rest), defers := [] } w := by
    intro t48 t49 t51 t52 t53 w h
    obtain ⟨g8, rfl, k8⟩ := h.s48 rfl rfl
    refine wpAny_ready (rs := [3, 5]) (by kernel_rfl) (by simp) (AllReady.cons (ops_get rfl) (fun K' hK => ?_) (AllReady.cons (ops_get rfl) (fun K' hK => ?_) AllReady.nil))
    · have hr := h.rows
      simp only [Bool.false_eq_true, if_false] at hr
      refine step_append_str rfl (.tmp 46) (.tmp 48) rfl L V1 ss.length (ss.map strV) (by rfl) hr.own1 g8 (by rfl) (strV p) k8 rfl h4.1 hr.base ?_
      intro G cap wd ho hg hG
      refine hK _ _ ?_
      exact s11000 _ _ _ _ _ _ (h.k49 ho hg hG)
    · obtain ⟨n0, n1, n2, n3, n4, n5, nf⟩ := blk6 (show Blk w V 32 _ from h.var rfl)
      go_simp
      refine hK _ _ ?_
      exact s10100 _ _ _ _ _ _ h.k51
  have s00110 : ∀ (t48 t49 t51 t52 t53 : Value) (w : World), R10 L p x r V1 V2 ss hs rs V w0 false false true true false t48 t49 t51 t52 t53 w → wpAny Tryd.prog .any (((Tryd.f3.body.map Code.opers).getD []).drop 30 |>.take 10).toArray Q 5 #[true, true, false, false, true, true, true, false, false, false] { tmps := List.toArray (T0 :: T1 :: T2 :: T3 :: T4 :: V1 :: V2 :: T7 :: T8 :: .string (strB p) :: .pointer (some ⟨V, 0, none⟩) :: T11 :: T12 :: T13 :: T14 :: T15 :: T16 :: T17 :: T18 :: T19 :: T20 :: T21 :: T22 :: T23 :: T24 :: T25 :: T26 :: T27 :: T28 :: T29 :: T30 :: T31 :: T32 :: T33 :: T34 :: T35 :: T36 :: T37 :: T38 :: T39 :: T40 :: T41 :: T42 :: T43 :: T44 :: T45 :: V1 :: .string (strB p) :: t48 :: t49 :: V2 :: t51 :: t52 :: t53 :: rest), defers := [] } w := by
    intro t48 t49 t51 t52 t53 w h
    obtain ⟨g5, rfl, k5⟩ := h.s52 rfl rfl
    obtain rfl := h.s51 rfl
    refine wpAny_ready (rs := [2]) (by kernel_rfl) (by simp) (AllReady.cons (ops_get rfl) (fun K' hK => ?_) AllReady.nil)
    · go_simp
      refine hK _ _ ?_
      exact s10110 _ _ _ _ _ _ h.k48
  have s00100 : ∀ (t48 t49 t51 t52 t53 : Value) (w : World), R10 L p x r V1 V2 ss hs rs V w0 false false true false false t48 t49 t51 t52 t53 w → wpAny Tryd.prog .any (((Tryd.f3.body.map Code.opers).getD []).drop 30 |>.take 10).toArray Q 6 #[true, true, false, false, true, true, false, false, false, false] { tmps := List.toArray (T0 :: T1 :: T2 :: T3 :: T4 :: V1 :: V2 :: T7 :: T8 :: .string (strB p) :: .pointer (some ⟨V, 0, none⟩) :: T11 :: T12 :: T13 :: T14 :: T15 :: T16 :: T17 :: T18 :: T19 :: T20 :: T21 :: T22 :: T23 :: T24 :: T25 :: T26 :: T27 :: T28 :: T29 :: T30 :: T31 :: T32 :: T33 :: T34 :: T35 :: T36 :: T37 :: T38 :: T39 :: T40 :: T41 :: T42 :: T43 :: T44 :: T45 :: V1 :: .string (strB p) :: t48 :: t49 :: V2 :: t51 :: t52 :: t53 :: rest), defers := [] } w := by
    intro t48 t49 t51 t52 t53 w h
    obtain rfl := h.s51 rfl
    refine wpAny_ready (rs := [2, 6]) (by kernel_rfl) (by simp) (AllReady.cons (ops_get rfl) (fun K' hK => ?_) (AllReady.cons (ops_get rfl) (fun K' hK => ?_) AllReady.nil))
    · go_simp
      refine hK _ _ ?_
      exact s10100 _ _ _ _ _ _ h.k48
    · unfold hdV
      go_simp
      refine hK _ _ ?_
      exact s00110 _ _ _ _ _ _ h.k52
  have s00000 : ∀ (t48 t49 t51 t52 t53 : Value) (w : World), R10 L p x r V1 V2 ss hs rs V w0 false false false false false t48 t49 t51 t52 t53 w → wpAny Tryd.prog .any (((Tryd.f3.body.map Code.opers).getD []).drop 30 |>.take 10).toArray Q 7 #[true, true, false, false, true, false, false, false, false, false] { tmps := List.toArray (T0 :: T1 :: T2 :: T3 :: T4 :: V1 :: V2 :: T7 :: T8 :: .string (strB p) :: .pointer (some ⟨V, 0, none⟩) :: T11 :: T12 :: T13 :: T14 :: T15 :: T16 :: T17 :: T18 :: T19 :: T20 :: T21 :: T22 :: T23 :: T24 :: T25 :: T26 :: T27 :: T28 :: T29 :: T30 :: T31 :: T32 :: T33 :: T34 :: T35 :: T36 :: T37 :: T38 :: T39 :: T40 :: T41 :: T42 :: T43 :: T44 :: T45 :: V1 :: .string (strB p) :: t48 :: t49 :: V2 :: t51 :: t52 :: t53 :: rest), defers := [] } w := by
    intro t48 t49 t51 t52 t53 w h
    refine wpAny_ready (rs := [2, 5]) (by kernel_rfl) (by simp) (AllReady.cons (ops_get rfl) (fun K' hK => ?_) (AllReady.cons (ops_get rfl) (fun K' hK => ?_) AllReady.nil))
    · go_simp
      refine hK _ _ ?_
      exact s10000 _ _ _ _ _ _ h.k48
    · obtain ⟨n0, n1, n2, n3, n4, n5, nf⟩ := blk6 (show Blk w V 32 _ from h.var rfl)
      go_simp
      refine hK _ _ ?_
      exact s00100 _ _ _ _ _ _ h.k51
  refine wpAny_take (i := 0) (v := V1) (ops_get rfl) (by kernel_rfl) (by kernel_rfl) (by kernel_rfl) (fun _ _ _ h => hP _ _ _ _ _ h) (Or.inl ⟨by rfl, ?_⟩) ?_
  · intro w
    go_simp
  refine wpAny_take (i := 1) (v := .string (strB p)) (ops_get rfl) (by kernel_rfl) (by kernel_rfl) (by kernel_rfl) (fun _ _ _ h => hP _ _ _ _ _ h) (Or.inl ⟨by rfl, ?_⟩) ?_
  · intro w
    go_simp
  refine wpAny_take (i := 4) (v := V2) (ops_get rfl) (by kernel_rfl) (by kernel_rfl) (by kernel_rfl) (fun _ _ _ h => hP _ _ _ _ _ h) (Or.inl ⟨by rfl, ?_⟩) ?_
  · intro w
    go_simp
  simp only [Act.put, List.setIfInBounds_toArray, List.set_cons_zero, List.set_cons_succ]
  exact s00000 _ _ _ _ _ _ hw
end Go.Proofs.YtgidoieppplhpaaDoor
