/-
  Arguments that come in, opened: slices of bytes, whole numbers, arrays of whole numbers. Over any program.
-/
import Derived.Test.YtonloefjhofeeaaGreatDoorMem
import Derived.ProofKit
import Derived.OpenShut
import Derived.SizedLaws
namespace Go.Proofs.YtonloefjhofeeaaGreatDoor
open Go.RowKit Go.ChangeShapes Go.WideShapes
set_option linter.unusedVariables false
section
variable {H : Type} {enc : TypeId × Value → H} {P : Program} {W : World}

/-- A slice of bytes: its value, its bytes, and how many there may be. -/
theorem open_bys {base b0 : Nat} {spare : Nat → Bool} {held : Bool} {t e : TypeId} {v : Value} {d : DataW H} {p : List MemPlace} (ht : P.underlying t = some (.slice e)) (he : P.underlying e = some (.int .u8)) (hc : P.cellsOf e = 1) (hby : P.bytesOf e = 1)
    (hv : Value.okWide P W .any b0 t v) (hsp : ∀ b, spare b = true) (h : DataW.Trod enc P W base spare held t v d p) (hsz : ∀ el sp, d = .slice el sp → (el.length + sp.length) * P.bytesOf e ≤ reachBytes) :
    ∃ A n c bs, v = .slice A n c ∧ Bys W W.heap.size A n bs ∧ n ≤ c ∧ c ≤ 140737488351232 := by
  obtain ⟨a0, len0, cap0, rfl⟩ := okWide_slice ht hv
  obtain ⟨fuel, hf⟩ := h
  rcases open_ints ht he hc hf with ⟨hcs, _⟩ | ⟨x, l, c, zs, hcs, _, hl, hm, hz, hx, hcell, hwz⟩
  · simp [Value.cells] at hcs
    obtain ⟨rfl, rfl, rfl⟩ := hcs
    exact ⟨none, 0, 0, [], rfl, Bys.none_, Nat.le_refl _, Nat.zero_le _⟩
  · simp [Value.cells] at hcs
    obtain ⟨rfl, rfl, rfl⟩ := hcs
    rw [hsp, if_pos rfl] at hz
    have hd : d = .slice (lits .u8 (zs.take len0)) (lits .u8 (zs.drop len0)) := by injection hx
    have h1 := hsz _ _ hd
    rw [hby] at h1
    simp only [lits, List.length_map, List.length_take, List.length_drop, reachBytes] at h1
    exact ⟨some x, len0, cap0, _, rfl, bys_of_ints hl hm hz hcell hwz, hl, by omega⟩

theorem wf_u8 {n : Int} (h : (Lit.int .u8 n).wf = true) : 0 ≤ n ∧ n ≤ 255 := by simpa [Lit.wf, IntKind.min, IntKind.max, IntKind.signed, IntKind.bits] using h
theorem wf_u16 {n : Int} (h : (Lit.int .u16 n).wf = true) : 0 ≤ n ∧ n ≤ 65535 := by simpa [Lit.wf, IntKind.min, IntKind.max, IntKind.signed, IntKind.bits] using h
theorem wf_u32 {n : Int} (h : (Lit.int .u32 n).wf = true) : 0 ≤ n ∧ n ≤ 4294967295 := by simpa [Lit.wf, IntKind.min, IntKind.max, IntKind.signed, IntKind.bits] using h
theorem wf_i8 {n : Int} (h : (Lit.int .i8 n).wf = true) : -128 ≤ n ∧ n ≤ 127 := by simpa [Lit.wf, IntKind.min, IntKind.max, IntKind.signed, IntKind.bits] using h
theorem wf_i16 {n : Int} (h : (Lit.int .i16 n).wf = true) : -32768 ≤ n ∧ n ≤ 32767 := by simpa [Lit.wf, IntKind.min, IntKind.max, IntKind.signed, IntKind.bits] using h
theorem wf_i64 {n : Int} (h : (Lit.int .i64 n).wf = true) : -9223372036854775808 ≤ n ∧ n ≤ 9223372036854775807 := by simpa [Lit.wf, IntKind.min, IntKind.max, IntKind.signed, IntKind.bits] using h

/-- An array of registers of 16 bits, by value. -/
def tabVals (t : List Nat) : Array Value := (t.map fun x : Nat => Value.int .u16 (x : Int)).toArray
theorem open_tab {base b0 n : Nat} {spare : Nat → Bool} {held : Bool} {t e : TypeId} {v : Value} {d : DataW H} {p : List MemPlace} (ht : P.underlying t = some (.array n e)) (he : P.underlying e = some (.int .u16)) (hc : P.cellsOf e = 1) (hn : P.cellsOf t = n)
    (hv : Value.okWide P W .any b0 t v) (h : DataW.Trod enc P W base spare held t v d p) :
    ∃ ts : List Nat, v = .agg (tabVals ts) ∧ ts.length = n ∧ ∀ x ∈ ts, x < 65536 := by
  obtain ⟨cs, rfl, hsz⟩ : ∃ cs, v = .agg cs ∧ cs.size = P.cellsOf t := by
    simp only [Value.okWide, ht] at hv
    obtain ⟨cs, h1, h2, _⟩ := hv
    exact ⟨cs, h1, h2⟩
  obtain ⟨fuel, hf⟩ := h
  obtain ⟨xs, m, _, _, _, hxl, hg⟩ := DataW.trod_array ht hf
  have key : ∀ i (hi : i < n), ∃ y : Nat, y < 65536 ∧ cs.toList[i]? = some (.int .u16 (y : Int)) := by
    intro i hi
    have h1 := hg i hi
    have hx : xs[i]? = some (xs[i]'(by omega)) := List.getElem?_eq_getElem (by omega)
    rw [hc, Nat.mul_one, hx] at h1
    have hcl : cs.toList.length = n := by simpa [hn] using hsz
    have h2 : ((Value.agg cs).cells.toList.drop i).take 1 = [cs.toList[i]'(by omega)] := by
      show (cs.toList.drop i).take 1 = _
      rw [List.drop_eq_getElem_cons (by omega)]
      rfl
    rw [h2] at h1
    obtain ⟨z, hz, hz2, hz3⟩ := DataW.trod_int he h1
    have hr := wf_u16 hz3
    injection hz with hz' _
    exact ⟨z.toNat, by omega, by rw [List.getElem?_eq_getElem (by omega), hz', show ((z.toNat : Nat) : Int) = z by omega]⟩
  have hcl : cs.toList.length = n := by simpa [hn] using hsz
  refine ⟨cs.toList.map fun v => match v with | .int _ z => z.toNat | _ => 0, ?_, by simpa using hcl, ?_⟩
  · congr 1
    apply Array.ext'
    apply List.ext_getElem?
    intro i
    rcases Nat.lt_or_ge i n with hi | hi
    · obtain ⟨y, hy, he'⟩ := key i hi
      simp [tabVals] at he' ⊢
      rw [he']; simp
    · rw [List.getElem?_eq_none (by omega), List.getElem?_eq_none (by simp [tabVals]; simpa using (by omega : cs.toList.length ≤ i))]
  · intro x hx
    obtain ⟨v, hv', rfl⟩ := List.mem_map.1 hx
    obtain ⟨i, hi, rfl⟩ := List.getElem_of_mem hv'
    obtain ⟨y, hy, he'⟩ := key i (by omega)
    rw [List.getElem?_eq_getElem hi] at he'
    rw [Option.some.inj he']
    simpa using hy
end
end Go.Proofs.YtonloefjhofeeaaGreatDoor
