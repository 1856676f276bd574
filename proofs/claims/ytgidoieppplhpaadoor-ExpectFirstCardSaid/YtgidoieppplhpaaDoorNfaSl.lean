/-
  Slices that read as lists; nfa.anyOf and nfa.mark, by contracts.
-/
import Derived.Test.YtgidoieppplhpaaDoorNfaPlain
import Derived.Test.YtgidoieppplhpaaDoorMake
import Derived.WalkKit
import Derived.OwnWalk
import Derived.ProofKit
import Derived.WalkLawsBesides
import Derived.IntWalk
import Derived.RegionTactic
import Derived.BigRegion
import Derived.ChangeAlike
import Derived.Deep.QuietTactic
import Derived.BigQuiet
import Derived.Deep.RegionHeld3
import Derived.Deep.DrawnRows
import Derived.Outline
namespace Go.Proofs.YtgidoieppplhpaaDoor
open Go.RowKit
set_option linter.unusedVariables false

def natV (n : Nat) : Value := .int .i64 (n : Int)
/-- The slice value '.slice A n _' reads as the list xs. -/
def Sl {α : Type} (f : α → Value) (w : World) (A : Option Addr) (n : Nat) (xs : List α) : Prop :=
  xs.length = n ∧ n ≤ maxLen ∧ ∀ k x, xs[k]? = some x → ∃ ad, A = some ad ∧ ad.block < w.heap.size ∧ w.cell? (ad.add k) = some (f x)
namespace Sl
variable {α : Type} {f : α → Value} {w w' : World} {A : Option Addr} {n : Nat} {xs : List α}
theorem nil : Sl f w none 0 [] := ⟨rfl, Nat.zero_le _, fun k x h => by simp at h⟩
theorem len (h : Sl f w A n xs) : xs.length = n := h.1
theorem max (h : Sl f w A n xs) : n ≤ 9223372036854775807 := by have := h.2.1; unfold maxLen at this; exact this
theorem keep (h : Sl f w A n xs) (hs : w.heap.size ≤ w'.heap.size) (hk : ∀ ad, A = some ad → w'.heap[ad.block]? = w.heap[ad.block]?) : Sl f w' A n xs :=
  ⟨h.1, h.2.1, fun k x hx => by
    obtain ⟨ad, e, hb, hc⟩ := h.2.2 k x hx
    exact ⟨ad, e, Nat.lt_of_lt_of_le hb hs, (World.cell?_of_block (by rw [ad_block]; exact hk ad e)).trans hc⟩⟩
theorem below (h : Sl f w A n xs) (hb : Below w.heap.size w w') : Sl f w' A n xs :=
  ⟨h.1, h.2.1, fun k x hx => by
    obtain ⟨ad, e, hl, hc⟩ := h.2.2 k x hx
    exact ⟨ad, e, Nat.lt_of_lt_of_le hl hb.size, (World.cell?_of_block (by rw [ad_block]; exact hb.block _ hl)).trans hc⟩⟩
theorem drew (h : Sl f w A n xs) : Sl f w.drew A n xs := h
theorem drewN (h : Sl f w A n xs) (k : Nat) : Sl f (w.drewN k) A n xs := h
/-- Of a row that a call has made. -/
theorem of_own {base : Nat} {e : TypeId} {c : Nat} (h : w.ownsRow base e 1 (.slice A n c) n (xs.map f)) (hm : n ≤ maxLen) : Sl f w A n xs := by
  have hl : xs.length = n := by have := h.1; simpa using this
  refine ⟨hl, hm, fun k x hx => ?_⟩
  rcases h.2 with ⟨_, h0⟩ | ⟨g, cap, cur, hv, _⟩
  · rw [h0] at hl
    have : xs = [] := List.eq_nil_of_length_eq_zero hl
    subst this; simp at hx
  · obtain rfl : A = some ⟨g, 0, none⟩ := by injection hv
    exact ⟨_, rfl, (h.lt g rfl).2, h.cells rfl k _ (by rw [List.getElem?_map, hx]; rfl)⟩
/-- Of a block that is known whole. -/
theorem of_blk {g : Nat} {t : TypeId} (hb : Blk w g t (xs.map f).toArray) (hn : xs.length = n) (hm : n ≤ maxLen) : Sl f w (some ⟨g, 0, none⟩) n xs := by
  refine ⟨hn, hm, fun k x hx => ⟨_, rfl, hb.lt, ?_⟩⟩
  have e : (⟨g, 0, none⟩ : Addr).add k = ⟨g, k, none⟩ := by unfold Addr.add; split <;> simp_all
  rw [e, hb.cell]
  simp [hx]
end Sl
theorem any_take {at_ : List Bool} {q : List Nat} {k p : Nat} (hp : q[k]? = some p) : anyB at_ (q.take (k + 1)) = (anyB at_ (q.take k) || at_.getD p false) := by
  rw [List.take_succ_of hp]; simp [anyB]
theorem any_hit {at_ : List Bool} {q : List Nat} {k p : Nat} (hp : q[k]? = some p) (h : at_.getD p false = true) : anyB at_ q = true := (any_iff at_ q).2 ⟨p, List.mem_of_getElem? hp, h⟩

set_option maxHeartbeats 1000000 in
theorem anyOf_any {A G : Option Addr} {n c m k : Nat} {at_ : List Bool} {q : List Nat} {w : World} (ha : Sl Value.bool w A n at_) (hg : Sl natV w G m q) :
    Calls Tryd.prog 48 #[.slice A n c, .slice G m k] w fun e w' => e = .returned (.bool (anyB at_ q)) ∧ w = w' := by
  have hm := hg.max
  have hn := ha.max
  have HA := keepHid ha
  have HG := keepHid hg
  clear ha hg
  go_enter Tryd.func48, Tryd.ntmps48
  go_wp2
  go_loop [9] (fun i => ∃ j : Nat, j ≤ m ∧ i = .int .i64 j ∧ Hid (anyB at_ (q.take j) = false)) (fun i => m - (intOf i).toNat)
  case atStart => exact ⟨0, Nat.zero_le _, rfl, keepHid (by simp [anyB])⟩
  case round =>
    obtain ⟨j, hj, rfl, HF⟩ := hrel
    rcases Nat.lt_or_ge j m with hlt | hge
    · have hx : j < q.length := by rw [HG.out.len]; exact hlt
      obtain ⟨p, hp⟩ : ∃ p, q[j]? = some p := ⟨_, List.getElem?_eq_getElem hx⟩
      obtain ⟨ad, rfl, _, hcell⟩ := HG.out.2.2 j p hp
      unfold natV at hcell
      have HP := keepHid hp
      clear hp
      rcases Nat.lt_or_ge p n with hpn | hpn
      · have hy : p < at_.length := by rw [HA.out.len]; exact hpn
        obtain ⟨b, hb⟩ : ∃ b, at_[p]? = some b := ⟨_, List.getElem?_eq_getElem hy⟩
        obtain ⟨ad2, rfl, _, hcell2⟩ := HA.out.2.2 p b hb
        have HB : Hid (at_.getD p false = b) := keepHid (by simp [List.getD, hb])
        clear hb
        cases b
        · go_wp2
          go_round
          case rel => exact ⟨j + 1, by omega, by go_num, keepHid (by rw [any_take HP.out, HF.out, HB.out]; rfl)⟩
          case measure => simp [intOf]; omega
        · go_wp2
          go_ret
          exact ⟨by rw [any_hit HP.out HB.out]; rfl, rfl⟩
      · have HB : Hid (at_.getD p false = false) := keepHid (by rw [List.getD, List.getElem?_eq_none (by rw [HA.out.len]; exact hpn)]; rfl)
        go_wp2
        go_round
        case rel => exact ⟨j + 1, by omega, by go_num, keepHid (by rw [any_take HP.out, HF.out, HB.out]; rfl)⟩
        case measure => simp [intOf]; omega
    · go_wp2
      go_ret
      exact ⟨by have := HF.out; rw [List.take_of_length_le (by rw [HG.out.len]; exact hge)] at this; rw [this]; rfl, rfl⟩

/-! ### Marks -/
def markB (xs : List Bool) (q : List Nat) : List Bool := q.foldl (fun xs p => xs.set p true) xs
theorem mark_len (q : List Nat) : ∀ xs : List Bool, (markB xs q).length = xs.length := by
  induction q with
  | nil => intro xs; rfl
  | cons p q ih => intro xs; show (markB (xs.set p true) q).length = _; rw [ih, List.length_set]
theorem mark_get (q : List Nat) : ∀ (xs : List Bool) (y : Nat), (∀ p ∈ q, p < xs.length) → (markB xs q).getD y false = (xs.getD y false || q.contains y) := by
  induction q with
  | nil => intro xs y _; simp [markB]
  | cons p q ih =>
    intro xs y hp
    show (markB (xs.set p true) q).getD y false = _
    rw [ih _ y (fun z hz => by rw [List.length_set]; exact hp z (by simp [hz]))]
    have h0 := hp p (by simp)
    by_cases e : p = y
    · subst e
      simp [List.getD, List.getElem?_set_self h0]
    · have e' : ¬ y = p := fun h => e h.symm
      simp [List.getD, List.getElem?_set_ne e, e']
theorem mark_take {xs : List Bool} {q : List Nat} {k p : Nat} (hp : q[k]? = some p) : markB xs (q.take (k + 1)) = (markB xs (q.take k)).set p true := by
  rw [List.take_succ_of hp]; simp [markB, List.foldl_append]
/-- The block of a call's own slice of bools. -/
def boolVals (xs : List Bool) : Array Value := (xs.map Value.bool).toArray
theorem bool_set (xs : List Bool) (p : Nat) : (boolVals xs).setIfInBounds p (.bool true) = boolVals (xs.set p true) := by simp [boolVals, List.map_set]
set_option maxHeartbeats 1000000 in
theorem mark_any {G : Option Addr} {b n c m k : Nat} {xs : List Bool} {q : List Nat} {w : World} (hb : Blk w b 4 (boolVals xs)) (hx : xs.length = n) (hg : Sl natV w G m q) (hgb : ∀ ad, G = some ad → ad.block ≠ b) (hq : ∀ p ∈ q, p < n) (hn : n ≤ 9223372036854775807) :
    Calls Tryd.prog 47 #[.slice (some ⟨b, 0, none⟩) n c, .slice G m k] w fun e w' => e = .returned (.tuple #[]) ∧ Blk w' b 4 (boolVals (markB xs q)) ∧ Only b w w' := by
  have hm := hg.max
  have HB := keepHid hb
  have HX := keepHid hx
  have HG := keepHid hg
  have HQ := keepHid hq
  have HGB := keepHid hgb
  clear hb hg hq hgb hx
  go_enter Tryd.func47, Tryd.ntmps47
  go_wp2
  go_loopw [8] (fun i wr => ∃ j : Nat, j ≤ m ∧ i = .int .i64 j ∧ Hid (Blk wr b 4 (boolVals (markB xs (q.take j)))) ∧ Hid (Only b w wr)) (fun i _ => m - (intOf i).toNat)
  case atStart => exact ⟨0, Nat.zero_le _, rfl, HB, keepHid (Only.refl _ _)⟩
  case round =>
    obtain ⟨j, hj, rfl, HR, HO⟩ := hrel
    rcases Nat.lt_or_ge j m with hlt | hge
    · have hx : j < q.length := by rw [HG.out.len]; exact hlt
      obtain ⟨p, hp⟩ : ∃ p, q[j]? = some p := ⟨_, List.getElem?_eq_getElem hx⟩
      obtain ⟨ad, rfl, hlo, hcell⟩ := HG.out.2.2 j p hp
      have hpn : p < n := HQ.out p (List.mem_of_getElem? hp)
      have hcell' : wr.cell? (ad.add j) = some (.int .i64 (p : Int)) :=
        (World.cell?_of_block (HO.out.block _ (by rw [ad_block]; exact hlo) (by rw [ad_block]; intro e; injection e with e; exact HGB.out ad rfl e))).trans hcell
      have hcur : ∃ v, wr.cell? ⟨b, p, none⟩ = some v := by
        have hl : p < (markB xs (q.take j)).length := by rw [mark_len, HX.out]; exact hpn
        rw [HR.out.cell]
        exact ⟨_, by simp [boolVals, List.getElem?_eq_getElem hl]; rfl⟩
      obtain ⟨v, hv⟩ := hcur
      have hfz := HR.out.frozen p
      have HP := keepHid hp
      have HR' : Hid (Blk (wr.setCell ⟨b, p, none⟩ (.bool true)) b 4 (boolVals (markB xs (q.take (j + 1))))) := keepHid (by rw [mark_take HP.out, ← bool_set]; exact HR.out.put p _)
      have HO' : Hid (Only b w (wr.setCell ⟨b, p, none⟩ (.bool true))) := keepHid (HO.out.setCell (.inl rfl) _)
      clear hp hcell hlo
      go_wp2
      go_roundw
      case rel => exact ⟨j + 1, by omega, by go_num, HR', HO'⟩
      case measure => simp [intOf]; omega
    · go_wp2
      go_end0
      have e : q.take j = q := List.take_of_length_le (by rw [HG.out.len]; exact hge)
      exact ⟨rfl, by have := HR.out; rwa [e] at this, HO.out⟩
end Go.Proofs.YtgidoieppplhpaaDoor
