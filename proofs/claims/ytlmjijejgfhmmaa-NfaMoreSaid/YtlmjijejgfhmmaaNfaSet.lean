/-
  nfa's one, by contract.
-/
import Derived.Test.YtlmjijejgfhmmaaNfaOne
import Derived.Deep.RegionLaw
import Derived.Deep.RegionWith
namespace Go.Proofs.Ytlmjijejgfhmmaa
open Go.RowKit
set_option linter.unusedVariables false

theorem infoSet : (Try.prog.info? 27).map (fun i => (i.zero, i.size, i.bytes)) = some (some (.agg #[.int .u64 0, .int .u64 0, .int .u64 0, .int .u64 0]), 4, 32) := by kernel_rfl
/-- 'append(t.sets, s)', as one step of a region that draws. -/
theorem step_append_set {ops : Array Oper} {o : Oper} {a : Act} {w : World} {K : Act → World → Prop} {Q : Exit → Act → World → Prop} {E : Prop} (hg : o.guard = none) (s x : Operand)
    (ho : o.op = .call { callee := .builtin .append, args := #[s, x], argTypes := #[55, 55] })
    (base : Nat) (v : Value) (n : Nat) (xs : List Value) (hs : a.eval s = v) (hown : w.ownsRow base 27 4 v n xs)
    (g : Nat) (hx : a.eval x = .slice (some ⟨g, 0, none⟩) 1 1) (st : St) (hk : Blk w g 27 (setL st).toArray) (hn : n < 1000000) (hbase : base ≤ w.heap.size)
    (hK : ∀ P cap w', w'.ownsRow base 27 4 (.slice P (n + 1) cap) (n + 1) (xs ++ setL st) → w.grownBy w' v.ownBlock → ((Value.slice P (n + 1) cap).ownBlock = v.ownBlock ∨ (Value.slice P (n + 1) cap).ownBlock = some w.heap.size) → K (a.put o.dst (.slice P (n + 1) cap)) w') :
    if Region.wanted o (yielded ops a.tmps) = true then Oper.wp Try.prog o a w K Q else E := by
  have hw : Region.wanted o (yielded ops a.tmps) = true := by simp [Region.wanted, hg]
  rw [if_pos hw]
  obtain ⟨i, hi⟩ := Option.isSome_iff_exists.1 (show (Try.prog.info? 27).isSome = true by kernel_rfl)
  have h0 := infoSet
  rw [hi] at h0
  simp only [Option.map_some, Option.some.injEq, Prod.mk.injEq] at h0
  obtain ⟨hz, hsz, hby⟩ := h0
  have hcells : ∀ j u, (setL st)[j]? = some u → w.cell? ((⟨g, 0, none⟩ : Addr).add j) = some u := by
    intro j u hu
    rw [zero_add_ad, hk.cell]
    simpa using hu
  have h1 : ∀ u ∈ setL st, u.oneCell' = true := by
    intro u hu
    simp [setL] at hu
    rcases hu with rfl | rfl | rfl | rfl <;> rfl
  obtain ⟨v', w', hr, h2, h3, _, h5⟩ := run_append_own_at (P := Try.prog) w base 55 o.type 27 i _ 4 32 Try.underlying55 hi hz hsz hby rfl (by omega) v n xs hown ⟨g, 0, none⟩ 1 1 (setL st) rfl hcells h1 (by unfold maxLen; omega) (by omega) hbase
  obtain ⟨P, cap, rfl, _, _⟩ := own_val h2
  unfold Oper.wp execOp
  simp only [ho, resolve, invoke, builtin, Sem.run_bind, Sem.run_pure, Result.andThen_ok, List.map_toArray, List.map_cons, List.map_nil, hs, hx, hr]
  exact hK _ _ _ h2 h3 h5

def oneT (s : St) (T : TbD) : TbD := { T with sets := T.sets ++ [s] }
theorem set_tab {lo g : Nat} {v3 v4 v5 : Value} {T : TbD} {vs vs' vg : Value} {M : Nat} {vals : List Value} {w1 w2 : World} {s : St} (h : TabIn w1 lo g v3 v4 v5 T vs vg M vals)
    (ho : w2.ownsRow lo 27 4 vs' (T.sets.length + 1) (T.sets.flatMap setL ++ setL s)) (hg : w1.grownBy w2 vs.ownBlock) (hv2 : vs'.ownBlock = vs.ownBlock ∨ vs'.ownBlock = some w1.heap.size) :
    Tab (w2.setCell ⟨g, 0, none⟩ vs') lo g v3 v4 v5 (oneT s T) ∧ Tn lo w1 (w2.setCell ⟨g, 0, none⟩ vs') := by
  have t1 : Tn lo w1 w2 := Tn.grown hg fun i hi => .inl (h.mvs hi)
  have t2 : Tn lo w1 (w2.setCell ⟨g, 0, none⟩ vs') := t1.setCell (.inl h.mvg) _
  have k2 : Blk w2 g _ _ := (hg.block g h.blk.lt (fun e => h.ne_gs e.symm)).trans h.blk
  have far : ∀ i, i ≠ g → (w2.setCell ⟨g, 0, none⟩ vs').heap[i]? = w2.heap[i]? := fun i hi => Below.heap_setCell w2 ⟨g, 0, none⟩ vs' i hi
  refine ⟨⟨vs', vg, M, vals, ?_⟩, t2⟩
  refine ⟨by simpa using k2.put 0 vs', h.log, h.lom, ?_, ?_, ?_, ?_⟩
  · rw [show (oneT s T).sets.length = T.sets.length + 1 by simp [oneT], show (oneT s T).sets.flatMap setL = T.sets.flatMap setL ++ setL s by simp [oneT]]
    refine own_keep ho fun i hi hl => far i (fun e => ?_)
    subst e
    rcases hv2 with e | e
    · exact h.ne_gs (e ▸ hi)
    · rw [hi] at e
      have := Option.some.inj e
      have := h.blk.lt
      omega
  · exact own_keep h.groups fun i hi hl => (far i (fun e => h.ne_gv (e ▸ hi))).trans (hg.block i hl (fun e => h.ne_vs e.symm hi rfl))
  · intro i p hp
    obtain ⟨u, hu, hr⟩ := h.rows i p hp
    exact ⟨u, hu, t2.row hr⟩
  · exact h.leads.keep ((far M (fun e => h.ne_gm e.symm)).trans (hg.block M h.leads.lt (fun e => h.ne_ms e.symm)))
set_option maxHeartbeats 2000000 in
theorem one_part {lo g : Nat} {v3 v4 v5 : Value} {T : TbD} (s : St) {w : World} (ht : Tab w lo g v3 v4 v5 T) (hlo : lo ≤ w.heap.size) (hn : T.groups.length < 1000000) (hs : T.sets.length < 1000000) :
    Calls Try.prog 35 #[.pointer (some ⟨g, 0, none⟩), stV s] w (PartPost lo g v3 v4 v5 (oneF s T) w) := by
  obtain ⟨w2, hw2⟩ : ∃ w2, (w.alloc (.cells (setL s).toArray 27)).alloc (.cells #[.bool false, .int .i64 0, .int .i64 0] 61) = w2 := ⟨_, rfl⟩
  have hs2 : w2.heap.size = w.heap.size + 2 := by rw [← hw2]; simp
  have hb2 : Below w.heap.size w w2 := by rw [← hw2]; exact ((Below.refl _ _).alloc (Nat.le_refl _) _).alloc (by simp) _
  have ks2 : Blk w2 w.heap.size 27 (setL s).toArray := by rw [← hw2]; exact (Blk.new _ _ _).alloc _
  have kp2 : Blk w2 (w.heap.size + 1) 61 #[.bool false, .int .i64 0, .int .i64 0] := by rw [← hw2]; exact Blk.new_at _ _ _ _ (by simp)
  have HL := keepHid (tlen_any (ht.keep hb2))
  obtain ⟨w3, hw3⟩ : ∃ w3, w2.alloc (.cells #[.int .i64 (T.sets.length : Int)] 3) = w3 := ⟨_, rfl⟩
  have hb3 : Below w2.heap.size w2 w3 := by rw [← hw3]; exact (Below.refl _ _).alloc (Nat.le_refl _) _
  have hrow : w3.ownsRow lo 3 1 (.slice (some ⟨w2.heap.size, 0, none⟩) 1 1) 1 ([T.sets.length].map natV) := by
    have := World.ownsRow_lit (base := lo) (e := 3) (size := 1) w2 #[.int .i64 (T.sets.length : Int)] 1 (Nat.le_trans hlo hb2.size) (by unfold maxLen; omega) rfl
    rw [hw3] at this
    exact this
  have hw23 := hb2.trans (hb3.mono hb2.size)
  have hg := group_set (w := w3) [T.sets.length] (some ⟨w2.heap.size, 0, none⟩) 1 (ht.keep hw23) hrow (Nat.le_trans hlo hw23.size) hn
  rw [show [T.sets.length].length = 1 from rfl] at hg
  have HG := keepHid hg
  have HB23 := keepHid hw23
  have HK3 := keepHid (ks2.below hb3 ks2.lt)
  have HP3 := keepHid (kp2.below hb3 kp2.lt)
  have HW2 := keepHid hw2
  have HW3 := keepHid hw3
  have HLO := keepHid hlo
  have HS := keepHid hs
  have HS2 := keepHid hs2
  clear hg hw23 hrow hb3 hw3 ks2 kp2 hb2 hs2 hw2 ht hlo hs hn
  unfold stV
  unfold setL at HW2
  go_enter Try.func35, Try.ntmps35
  go_wp2_with fail
  rw [HW2.out]
  with_reducible refine HL.out.mono ?_
  rintro e w' ⟨rfl, rfl⟩
  unfold natV
  go_wp2_with fail
  rw [HW3.out]
  with_reducible refine HG.out.mono ?_
  rintro e w4 ⟨rfl, ht4, hn4, hset4⟩
  obtain ⟨vs, vg, M, vals, h4⟩ := id ht4
  have hlo4 : lo ≤ w4.heap.size := Nat.le_trans HLO.out (Nat.le_trans HB23.out.size hn4.size)
  obtain ⟨w5, hw5⟩ : ∃ w5, (w4.alloc (.cells (setL s).toArray 27)).drew = w5 := ⟨_, rfl⟩
  have hb5 : Below w4.heap.size w4 w5 := by rw [← hw5]; exact ((Below.refl _ _).alloc (Nat.le_refl _) _).drew
  have hk5 : Blk w5 w4.heap.size 27 (setL s).toArray := by rw [← hw5]; exact (Blk.new w4 _ _).drew
  have h5 := h4.keep hb5
  have hk4 := hset4 _ _ HK3.out
  have hp4 := hn4.blk HP3.out (by decide)
  have hne : vs.ownBlock ≠ some g := h4.ne_gs
  have HNE := keepHid hne
  have HOW := keepHid h5.sets
  have HK5 := keepHid hk5
  have HW5 := keepHid hw5
  have H5 := keepHid h5
  have HSZ : Hid (lo ≤ w5.heap.size) := keepHid (Nat.le_trans hlo4 hb5.size)
  have HP5 := keepHid (hp4.below hb5 hp4.lt)
  have HTN5 := keepHid (((Tn.of_below HB23.out).trans hn4).trans (Tn.of_below hb5))
  have c0 : w4.cell? ⟨g, 0, none⟩ = some vs := h4.blk.cell 0
  have c0' : (w4.alloc (.cells #[.int .u64 (s.a.toNat : Int), .int .u64 (s.b.toNat : Int), .int .u64 (s.c.toNat : Int), .int .u64 (s.d.toNat : Int)] 27)).cell? ⟨g, 0, none⟩ = some vs := (World.cell?_alloc_lt _ _ _ h4.blk.lt).trans c0
  obtain ⟨s0, s1, s2, s3, sf⟩ := blk4 (by unfold setL at hk4; exact hk4)
  clear hne ht4 h4 hlo4 hb5 hk5 h5 hk4 hp4 hw5 hset4 hn4
  unfold setL at HW5
  go_wp2
  go_region_law (rw [HW5.out]; refine step_append_set rfl (.tmp 15) (.tmp 17) rfl lo vs T.sets.length _ (by simp [Act.eval]) HOW.out w4.heap.size (by simp [Act.eval]) s HK5.out HS.out HSZ.out ?_; intro P cap w6 ho6 hg6 hv6; have HK6 : Hid (Blk w6 g _ _) := keepHid ((hg6.block g H5.out.blk.lt (fun e => HNE.out e.symm)).trans H5.out.blk); have d0 : w6.cell? ⟨g, 0, none⟩ = some vs := HK6.out.cell 0; have df := HK6.out.frozen 0; have HF6 := keepHid (set_tab H5.out ho6 hg6 hv6); clear ho6 hg6 hv6)
  all_goals
    obtain ⟨w7, hw7⟩ : ∃ w7, w6.setCell ⟨g, 0, none⟩ (.slice P (T.sets.length + 1) cap) = w7 := ⟨_, rfl⟩
    rw [hw7]
    obtain ⟨ht7, hn7⟩ := HF6.out
    have ht7' : Tab w7 lo g v3 v4 v5 (oneT s (T.push [T.sets.length])) := hw7 ▸ ht7
    have hn7' : Tn lo w5 w7 := hw7 ▸ hn7
    have hp7 := hn7'.blk HP5.out (by decide)
    have HF := keepHid (part_fin ht7' (HTN5.out.trans hn7') hp7 (Nat.le_succ _) (.bool false) (.int .i64 (T.groups.length : Int)) (.int .i64 (T.groups.length : Int)))
    obtain ⟨z0, z1, z2, zf⟩ := blk3 hp7
    clear ht7 hn7 ht7' hn7' hp7 hw7 d0 df c0 c0' s0 s1 s2 s3 sf
    unfold natV
    go_wp2
    refine bodyPost_ret (v := .agg #[.bool false, .int .i64 (T.groups.length : Int), .int .i64 (T.groups.length : Int)]) ?_ rfl (by unfold PartPost; exact ⟨rfl, HF.out⟩)
    rw [results_cell_one rfl]
    go_simp
end Go.Proofs.Ytlmjijejgfhmmaa
