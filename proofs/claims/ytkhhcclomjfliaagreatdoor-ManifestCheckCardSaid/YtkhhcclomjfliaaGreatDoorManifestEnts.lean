/-
  What holds of the entries that numbers make.
-/
import Derived.Test.YtkhhcclomjfliaaGreatDoorManifestActs
import Derived.Test.YtkhhcclomjfliaaGreatDoorManifestText
namespace Go.Proofs.YtkhhcclomjfliaaGreatDoor
open Go.RowKit
set_option linter.unusedVariables false

def plainC (c : UInt8) : Bool := (qe c).isNone && prn c && !(c == 59) && !(c == 10)
theorem quo_plain : ∀ (l : List UInt8), (∀ c ∈ l, plainC c = true) → quoL l = some l
  | [], _ => rfl
  | c :: r, h => by
    have ih := quo_plain r fun x hx => h x (List.mem_cons_of_mem _ hx)
    have hc := h c (List.mem_cons_self ..)
    unfold plainC at hc
    simp only [Bool.and_eq_true] at hc
    obtain ⟨⟨⟨h1, h2⟩, _⟩, _⟩ := hc
    have hq : quo1 c = some [c] := by
      unfold quo1
      cases hx : qe c with
      | some e => rw [hx] at h1; cases h1
      | none => simp only; rw [if_pos h2]
    simp only [quoL, hq, ih, Option.map_some]; rfl
theorem plain_pick (n : UInt8) : plainC (pickB n) = true := by
  have key : ∀ i : Fin 11, plainC (pickL.getD i.val 0) = true := by decide
  exact key ⟨n.toNat % 11, Nat.mod_lt _ (by omega)⟩
theorem plain_name (ns : List UInt8) {k : Nat} (hk : k < 8) : ∀ c ∈ nmL ns ++ [UInt8.ofNat (97 + k)], plainC c = true := by
  intro c hc
  rcases List.mem_append.1 hc with hc | hc
  · unfold nmL at hc
    rcases List.mem_cons.1 hc with rfl | hc
    · decide
    · obtain ⟨x, _, rfl⟩ := List.mem_map.1 hc
      exact plain_pick x
  · obtain rfl : c = UInt8.ofNat (97 + k) := by simpa using hc
    rcases (by omega : k = 0 ∨ k = 1 ∨ k = 2 ∨ k = 3 ∨ k = 4 ∨ k = 5 ∨ k = 6 ∨ k = 7) with rfl | rfl | rfl | rfl | rfl | rfl | rfl | rfl <;> decide
/-- An entry that numbers make. -/
structure EntG (e : En) : Prop where
  fits : EnF e
  tells : Tells e
  len : e.name.length ≤ 10
  safe : safeB (quoE e.name) = true
theorem ent_good {a : Mac} (h : MacF a) {k : Nat} (hk : k < 8) : EntG (entOf a k) := by
  have hl : (nmL a.nm ++ [UInt8.ofNat (97 + k)]).length ≤ 10 := by have := nmL_len a.nm; simp; omega
  have hp := plain_name a.nm hk
  have hq := quo_plain _ hp
  have h1 := h.ad
  have h2 := h.sz
  have h3 := h.pr
  have h4 := h.wy
  have ha : 0 ≤ (entOf a k).addr ∧ (entOf a k).addr < 65536 := by
    unfold entOf
    dsimp only
    split <;> omega
  have hs : 0 ≤ (entOf a k).size ∧ (entOf a k).size < 65536 := by
    unfold entOf
    dsimp only
    omega
  have hr : 0 ≤ (entOf a k).print ∧ (entOf a k).print ≤ 4294967295 := by
    unfold entOf
    dsimp only
    omega
  have hw : 0 ≤ (entOf a k).way ∧ (entOf a k).way ≤ 3 := by
    unfold entOf
    dsimp only
    omega
  refine ⟨⟨by show (nmL a.nm ++ [UInt8.ofNat (97 + k)]).length ≤ _; omega, by omega, by omega, hr, by omega⟩, ⟨⟨_, hq⟩, by omega, by omega, by omega, hw⟩, hl, ?_⟩
  show safeB (quoE (nmL a.nm ++ [UInt8.ofNat (97 + k)])) = true
  unfold quoE
  rw [hq]
  have e1 : 34 :: ((nmL a.nm ++ [UInt8.ofNat (97 + k)]) ++ [34]) = [34] ++ (nmL a.nm ++ [UInt8.ofNat (97 + k)]) ++ [34] := rfl
  show safeB (34 :: ((nmL a.nm ++ [UInt8.ofNat (97 + k)]) ++ [34])) = true
  rw [e1, safe_app, safe_app]
  have : safeB (nmL a.nm ++ [UInt8.ofNat (97 + k)]) = true := List.all_eq_true.2 fun c hc => by
    have := hp c hc
    unfold plainC at this
    simp only [Bool.and_eq_true] at this
    rw [this.1.2, this.2]; rfl
  rw [this]; rfl
theorem ents_good {w : World} {A : Option Addr} {n : Nat} {ms : List Mac} (h : MacS w A n ms) : ∀ e ∈ entsOf ms, EntG e := by
  intro e he
  unfold entsOf entsTo at he
  obtain ⟨j, hj, rfl⟩ := List.mem_map.1 he
  rw [List.mem_range] at hj
  have hl : j < ms.length := by omega
  obtain ⟨a, ha⟩ : ∃ a, ms[j]? = some a := ⟨_, List.getElem?_eq_getElem hl⟩
  rw [List.getD_eq_getElem?_getD, ha]
  obtain ⟨_, _, _, _, _, _, _, _, _, _, hF, _⟩ := h.2 j a ha
  exact ent_good hF (by omega)
theorem text_len {es : List En} {B : Nat} (h : ∀ e ∈ es, (lineL e).length ≤ B) : (textL es).length ≤ es.length * B := by
  induction es with
  | nil => simp [textL]
  | cons e es ih =>
    have h1 := h e (List.mem_cons_self ..)
    have h2 := ih fun x hx => h x (List.mem_cons_of_mem _ hx)
    have e1 : textL (e :: es) = lineL e ++ textL es := by simp [textL]
    rw [e1, List.length_append, List.length_cons, Nat.succ_mul]
    omega
theorem ents_text {ms : List Mac} (h : ∀ e ∈ entsOf ms, EntG e) : (textL (entsOf ms)).length ≤ 2080 := by
  have h1 := text_len (es := entsOf ms) (B := 260) fun e he => by
    have := line_len (h e he).fits
    have := (h e he).len
    omega
  have h2 := ents_len ms ms.length
  have h3 : (entsOf ms).length * 260 ≤ 8 * 260 := Nat.mul_le_mul h2 (Nat.le_refl _)
  omega
end Go.Proofs.YtkhhcclomjfliaaGreatDoor
