/-
  What a law keeps beside a Demux: rows whose elements are no segments.
-/
import Derived.Test.YtadfchdcaenglaaDemuxLaw
import Derived.Test.YtadfchdcaenglaaFrameActs
namespace Go.Proofs.Ytadfchdcaenglaa
open Go.RowKit
set_option linter.unusedVariables false

/-- The type of a row's elements: neither a Demux nor a segment. -/
def NoD (e : TypeId) : Prop := e ≠ 49 ∧ e ≠ 40
theorem noD_byte : NoD 5 := ⟨by decide, by decide⟩
theorem noD_mode : NoD 25 := ⟨by decide, by decide⟩
theorem own_dt {w w' : World} {L base n size : Nat} {e : TypeId} {v : Value} {xs : List Value} (h : w.ownsRow base e size v n xs) (he : NoD e) (ht : DT L w w') : w'.ownsRow base e size v n xs :=
  own_keep h fun i hi hl => by
    obtain ⟨cur, hk⟩ := own_obj h hi
    have := ht.oth i _ _ hk he.1 he.2
    unfold Blk at this hk
    rw [this, hk]
theorem own_below {w w' : World} {base n size : Nat} {e : TypeId} {v : Value} {xs : List Value} (h : w.ownsRow base e size v n xs) (hb : Below w.heap.size w w') : w'.ownsRow base e size v n xs := own_keep h fun i _ hl => hb.block i hl
/-- Another row, of other elements, has turned. -/
theorem own_turn {w w' : World} {base base2 n n2 size size2 : Nat} {e e2 : TypeId} {v v2 : Value} {xs xs2 : List Value} (h : w.ownsRow base e size v n xs) (h2 : w.ownsRow base2 e2 size2 v2 n2 xs2) (he : e ≠ e2) (ht : Turn (fun i => v2.ownBlock = some i) w w') : w'.ownsRow base e size v n xs :=
  own_keep h fun i hi hl => ht.block i hl fun e' => by
    obtain ⟨cur, hk⟩ := own_obj h hi
    obtain ⟨cur2, hk2⟩ := own_obj h2 e'
    exact he (blk_same hk hk2)
theorem DAt.row {w0 w w' : World} {g md n size base : Nat} {e : TypeId} {v : Value} {xs : List Value} {ts : List Nat} (h : DAt w0 g md ts w) (ho : w.ownsRow base e size v n xs) (he : NoD e) (hb : w0.heap.size ≤ base) (ht : Turn (fun i => v.ownBlock = some i) w w') : DAt w0 g md ts w' := by
  refine ⟨h.d.keep fun i cs t hk hh => ht.blk hk fun e' => ?_, h.b.trans (ht.below (fun i hi => Nat.le_trans hb (World.ownsRow.lt ho i hi).1) h.b.size)⟩
  obtain ⟨cur, hk2⟩ := own_obj ho e'
  have := blk_same hk hk2
  rcases hh with rfl | rfl
  · exact he.1 this.symm
  · exact he.2 this.symm
/-- The bytes of the first k acts. -/
def bsK (y : List Ac) (k : Nat) : List UInt8 := (y.take k).flatMap Ac.bs
theorem bsK_succ {y : List Ac} {k : Nat} {r : Ac} (h : y[k]? = some r) : bsK y (k + 1) = bsK y k ++ r.bs := by
  have h1 := List.getElem?_eq_some_iff.1 h
  unfold bsK
  rw [List.take_succ_eq_append_getElem h1.1, h1.2, List.flatMap_append]
  simp
theorem bsK_le (y : List Ac) (k : Nat) : (bsK y k).length ≤ (y.flatMap Ac.bs).length := by
  have e : (y.take k ++ y.drop k).flatMap Ac.bs = bsK y k ++ (y.drop k).flatMap Ac.bs := List.flatMap_append
  rw [List.take_append_drop] at e
  rw [e, List.length_append]
  omega
theorem bsK_part {y : List Ac} {k : Nat} {r : Ac} (h : y[k]? = some r) (j : Nat) : (bsK y k ++ r.bs.take j).length ≤ (y.flatMap Ac.bs).length := by
  have := bsK_le y (k + 1)
  rw [bsK_succ h, List.length_append] at this
  rw [List.length_append, List.length_take]
  omega
theorem take_one {bs0 bs : List UInt8} {j : Nat} {c : UInt8} (h : bs[j]? = some c) : (bs0 ++ bs.take j) ++ [c] = bs0 ++ bs.take (j + 1) := by
  have h1 := List.getElem?_eq_some_iff.1 h
  rw [List.take_succ_eq_append_getElem h1.1, h1.2, List.append_assoc]
/-- One act, in memory that came in, in any later world. -/
theorem ActsD.at_ {w wr : World} {A : Option Addr} {n k : Nat} {y : List Ac} {r : Ac} (h : ActsD w A n y) (hr : y[k]? = some r) (hb : Below w.heap.size w wr) : ∃ ad Ak ck, A = some ad ∧ wr.cell? (ad.add (k * 3)) = some (.bool r.sw) ∧ wr.cell? ⟨(ad.add (k * 3)).block, (ad.add (k * 3)).off + 1, none⟩ = some (.int .i8 r.md) ∧ wr.cell? ⟨(ad.add (k * 3)).block, (ad.add (k * 3)).off + 2, none⟩ = some (.slice Ak r.bs.length ck) ∧
    (-128 ≤ r.md ∧ r.md ≤ 127) ∧ r.bs.length ≤ ck ∧ ck ≤ 9223372036854775807 ∧ Bys w w.heap.size Ak r.bs.length r.bs := by
  obtain ⟨ad, Ak, ck, rfl, had, c0, c1, c2, h1, h2, h3, h4⟩ := h.2 k r hr
  have e1 : ∀ k', (⟨(ad.add (k * 3)).block, (ad.add (k * 3)).off + (k' + 1), none⟩ : Addr) = ad.add (k * 3 + (k' + 1)) := fun k' => by
    rw [← ad_add, Addr.add_succ' (ad.add (k * 3)) k']
  have hc : ∀ j, wr.cell? (ad.add j) = w.cell? (ad.add j) := fun j => hb.cell (by rw [ad_block]; exact had)
  refine ⟨ad, Ak, ck, rfl, (hc _).trans c0, ?_, ?_, h1, h2, h3, h4⟩
  · rw [e1 0]; exact (hc _).trans c1
  · rw [e1 1]; exact (hc _).trans c2
end Go.Proofs.Ytadfchdcaenglaa
