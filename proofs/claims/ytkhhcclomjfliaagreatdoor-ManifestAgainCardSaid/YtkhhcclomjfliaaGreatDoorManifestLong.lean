/-
  Texts that are too long, and how long what is read of a text is.
-/
import Derived.Test.YtkhhcclomjfliaaGreatDoorManifestParse
import Derived.Test.YtkhhcclomjfliaaGreatDoorManifestText
namespace Go.Proofs.YtkhhcclomjfliaaGreatDoor
open Go.RowKit
set_option linter.unusedVariables false

theorem cut_long (l : List UInt8) (hl : 4096 < l.length) (hl2 : l.length ≤ 140737488351232) (w : World) :
    Calls Tryz.prog 14 #[.string (strB l)] w fun e w' => e = .returned (.tuple #[.slice none 0 0, faultV 7 0]) ∧ w' = w := by
  have hlen : (strB l).size = l.length := strB_size l
  have HW := keepHid (wrap_any 7 0)
  have h1 : (4096 : Int) < (l.length : Int) := by omega
  go_enter Tryz.func14, Tryz.ntmps14
  go_wp2
  go_step3
  go_wp2_with (refine (HW.out _).mono ?_; rintro e w' ⟨rfl, rfl⟩)
  rw [Exit.noGoto_ret]
  go_ret2
  exact ⟨rfl, rfl⟩
theorem parse_long (l : List UInt8) (hl : 4096 < l.length) (hl2 : l.length ≤ 140737488351232) (w : World) :
    Calls Tryz.prog 6 #[.string (strB l)] w fun e w' => e = .returned (.tuple #[.slice none 0 0, faultV 7 0]) ∧ Below w.heap.size w w' := by
  have HC := keepHid (cut_long l hl hl2 w)
  have hf : faultV 7 0 = .iface 59 (.agg #[.int .i64 7, .int .i64 0]) := rfl
  rw [hf] at HC ⊢
  generalize strB l = X at *
  clear hl hl2 hf
  go_enter Tryz.func6, Tryz.ntmps6
  go_wp2_with fail
  refine HC.out.mono ?_
  rintro e w1 ⟨rfl, rfl⟩
  go_wp2
  go_ret2
  exact ⟨rfl, Below.refl _ _⟩
/-- A token's text is no longer than the text. -/
theorem cut_short (l : List UInt8) (p : Nat) : ∀ ts, cutR l p = .ok ts → ∀ t ∈ ts, t.text.length ≤ l.length := by
  refine cut_ind (fun l p x => ∀ ts, x = .ok ts → ∀ t ∈ ts, t.text.length ≤ l.length) ?_ ?_ ?_ ?_ ?_ l p
  · intro p ts h t ht
    cases h
    obtain rfl : t = ⟨0, [], 0, p⟩ := by simpa using ht
    simp
  · intro l p k h1 h2 h ts hts t ht
    have := h ts hts t ht
    rw [List.length_drop] at this
    omega
  · intro c r p ts h; cases h
  · intro l p t n q hf h ts hts; cases hts
  · intro l p t n ts hf h us hus u hu
    cases hus
    have hx := firstT_le hf
    rcases List.mem_cons.1 hu with rfl | hu
    · show t.text.length ≤ _
      have h1 := hx.2.1
      have h2 := hx.2.2.1
      simp at h1 h2
      omega
    · have := h ts rfl u hu
      rw [List.length_drop] at this
      omega
theorem parse_short : ∀ (ts : List Tk) (es : List En) (B : Nat), (∀ t ∈ ts, t.text.length ≤ B) → parseT ts = .ok es → es.length ≤ ts.length ∧ ∀ e ∈ es, e.name.length ≤ B := by
  intro ts
  induction hn : ts.length using Nat.strongRecOn generalizing ts with
  | _ n ih =>
    intro es B hv hp
    cases hts : ts with
    | nil => rw [hts, parseT] at hp; cases hp; exact ⟨Nat.zero_le _, fun e h => by cases h⟩
    | cons t r =>
      have h0 : ts[0]? = some t := by rw [hts]; rfl
      by_cases hk : t.kind = 0
      · rw [parse_end h0 hk] at hp; cases hp; exact ⟨Nat.zero_le _, fun e h => by cases h⟩
      · cases hE : errE ts with
        | some y => rw [parse_err h0 hk hE] at hp; cases hp
        | none =>
          rw [parse_ent h0 hk hE] at hp
          cases hr : parseT (ts.drop 11) with
          | error y => rw [hr] at hp; cases hp
          | ok us =>
            rw [hr] at hp
            cases hp
            have hl : 0 < ts.length := by rw [hts]; simp
            obtain ⟨h1, h2⟩ := ih (ts.drop 11).length (by rw [List.length_drop]; omega) _ rfl us B (fun u hu => hv u (List.mem_of_mem_drop hu)) hr
            refine ⟨?_, fun e h => ?_⟩
            · rw [List.length_drop] at h1
              rw [← hn]
              show (entT ts :: us).length ≤ _
              rw [List.length_cons]
              omega
            · rcases List.mem_cons.1 h with rfl | h
              · show (tkAt ts 1).text.length ≤ B
                unfold tkAt
                rw [List.getD_eq_getElem?_getD]
                cases h1 : ts[1]? with
                | none => simp
                | some u => exact hv u (List.mem_of_getElem? h1)
              · exact h2 e h
/-- What is read of a text is not much. -/
theorem parseL_short {l : List UInt8} {es : List En} (h : parseL l = .ok es) : es.length ≤ l.length + 1 ∧ ∀ e ∈ es, e.name.length ≤ l.length := by
  unfold parseL at h
  cases hc : cutR l 0 with
  | error p => rw [hc] at h; cases h
  | ok ts =>
    rw [hc] at h
    obtain ⟨h1, h2⟩ := parse_short ts es l.length (cut_short l 0 ts hc) h
    have := cut_many l 0 ts hc
    exact ⟨by omega, h2⟩
theorem text_long {es : List En} {B : Nat} (h : ∀ e ∈ es, (lineL e).length ≤ B) : (textL es).length ≤ es.length * B := by
  induction es with
  | nil => simp [textL]
  | cons e es ih =>
    have h1 := h e (List.mem_cons_self ..)
    have h2 := ih fun x hx => h x (List.mem_cons_of_mem _ hx)
    have e1 : textL (e :: es) = lineL e ++ textL es := by simp [textL]
    rw [e1, List.length_append, List.length_cons, Nat.succ_mul]
    omega
theorem tells_fits {e : En} (h : Tells e) (hl : e.name.length ≤ 1048576) : EnF e := by
  have h1 := h.addr
  have h2 := h.size
  have h3 := h.print
  have h4 := h.way
  exact ⟨by omega, by omega, by omega, by omega, by omega⟩
end Go.Proofs.YtkhhcclomjfliaaGreatDoor
