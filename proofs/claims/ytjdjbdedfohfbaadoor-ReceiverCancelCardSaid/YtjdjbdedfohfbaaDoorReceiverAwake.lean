/-
  What the law's own helper 'awake' answers.
-/
import Derived.Test.YtjdjbdedfohfbaaDoorReceiverOf
namespace Go.Proofs.YtjdjbdedfohfbaaDoor
open Go.RowKit
set_option linter.unusedVariables false

theorem capR_2_9 : capZ 2 9 = 2 := by decide
theorem capR_3_99 : capZ 3 99 = 3 := by decide
theorem tickR0 : tickR true 3 (newR 1 1 2) = ([67], ⟨1, 1, 1, 3, [], [], false, 0⟩) := by rfl
theorem putR0 : putR true true 3 ⟨1, 1, 1, 3, [], [], false, 0⟩ [4] = ([6], ⟨1, 1, 1, 3, [], [], true, 0⟩) := by rfl
/-- A row of a call's own lies apart from what was there before. -/
theorem apart_own {w : World} {A : Option Addr} {n c base : Nat} {d : List UInt8} {O : Nat → Prop} (h : OwnB w base 5 (.slice A n c) n d) (hg : ∀ i, O i → i < base) : Apart O A n := fun hn ad e hh => by
  rcases h.form with ⟨A', c', e1, _, _, e2⟩
  have e3 : A = A' := by injection e1
  subst e3
  rcases e2 with rfl | ⟨g', rfl, h1, h2⟩
  · cases e
  · obtain rfl := Option.some.inj e
    have := hg _ hh
    simp only at this
    omega
theorem RPost.below_ {B G W : Nat} {O : Nat → Prop} {crc cl : Bool} {r : List UInt8 × Rd} {w w' : World} {e : Ending} {b : Nat} (h : Turn O w w') (hO : ∀ i, O i → b ≤ i) (hb : b ≤ w.heap.size) : Below b w w' := h.below hO hb
set_option maxRecDepth 100000 in
set_option maxHeartbeats 4000000 in
theorem awake11_any (w : World) :
    Calls Tryd.prog 5 #[] w fun e w' => e = .returned (.bool true) ∧ Below w.heap.size w w' := by
  have HO : Hid (Calls Tryd.prog 6 #[.agg #[.int .i64 2, .int .i64 3], .int .u8 1, .bool true, .bool true, .int .i64 1] w (OfRPost w true true 3 (newR 1 1 2))) := keepHid (by
    have := of_rcv 2 3 1 true true 1 w (by omega)
    rwa [capR_2_9, capR_3_99] at this)
  go_enter Tryd.func5, Tryd.ntmps5
  go_wp2_with fail
  (with_reducible refine HO.out.mono ?_)
  rintro e w2 ⟨G, rfl, hg, hs, hb⟩
  have hp := tick_rcv hs
  rw [tickR0] at hp
  have HP : Hid (Calls Tryd.prog 7 #[.pointer (some ⟨G, 0, none⟩)] w2 _) := keepHid hp
  have HB2 := keepHid hb
  have hO2 : ∀ i, i = G → w.heap.size ≤ i := fun i hi => by rw [hi]; exact hg
  have hlt2 : ∀ i, i = G → i < w2.heap.size := hs.lt
  clear hp hb
  go_wp2_with fail
  (with_reducible refine HP.out.mono ?_)
  rintro e w3 ⟨A3, c3, O3, rfl, ho3, h31, h32, ht3, hs3, hO3, hap3⟩
  have hb3 := HB2.out.trans (ht3.below hO2 HB2.out.size)
  have hY3 := ho3.bys (by show 1 ≤ _; omega)
  obtain ⟨w4, hw4⟩ : ∃ w4, w3.alloc (.cells #[.int .u8 4] 5) = w4 := ⟨_, rfl⟩
  have b4 : Below w3.heap.size w3 w4 := by rw [← hw4]; exact (Below.refl _ _).alloc (Nat.le_refl _) _
  have hs4 := hs3.below b4
  have hY4 : Bys w4 (w3.heap.size + 1) (some ⟨w3.heap.size, 0, none⟩) 1 [4] := by rw [← hw4]; exact bys_new w3 _ [4] 1 rfl (by decide) _ rfl _ rfl
  have hsz4 : w4.heap.size = w3.heap.size + 1 := by rw [← hw4]; simp
  have hp4 := put_rcv hs4 (some ⟨w3.heap.size, 0, none⟩) 1 1 (w3.heap.size + 1) [4] hY4 (by omega) (fun _ ad e hh => by obtain rfl := Option.some.inj e; simp only at hh; have := hs3.lt G hs3.g; omega) (by show 0 + 1024 ≤ _; omega) (by show _ < (1 : Int); omega) (by show 0 + 1 ≤ _; omega)
  rw [putR0] at hp4
  have HP4 : Hid (Calls Tryd.prog 13 #[.pointer (some ⟨G, 0, none⟩), .slice (some ⟨w3.heap.size, 0, none⟩) 1 1] w4 _) := keepHid hp4
  have HB4 := keepHid (hb3.trans (b4.mono hb3.size))
  have HY34 := keepHid (hY3.below b4)
  have HAP3 := keepHid hap3
  have HO3 := keepHid hO3
  have HSZ4 := keepHid b4.size
  clear ho3 ht3 hs3 hO3 hap3 hp4 hb3 hY3 hs4 hY4 hs b4 hO2 hlt2
  go_wp2_with fail
  (with_reducible refine HP4.out.mono ?_)
  rintro e w5 ⟨A5, c5, O5, rfl, ho5, h51, h52, ht5, hs5, hO5, hap5⟩
  have HDN : Hid (Calls Tryd.prog 8 #[.pointer (some ⟨G, 0, none⟩)] w5 fun e w' => e = .returned (.tuple #[.bool true, .nilIface]) ∧ w' = w5.drew) := keepHid (done_rcv hs5)
  have HB5 : Hid (Below w.heap.size w w5) := keepHid (HB4.out.trans (ht5.below (fun i hi => by
    rcases HO3.out i hi with h | h
    · rw [h]; exact hg
    · exact Nat.le_trans HB2.out.size h) HB4.out.size))
  have hY5 : Bys w5.drew w5.heap.size A3 1 [67] := ((HY34.out.turn ht5 HSZ4.out HAP3.out).more (Nat.le_trans HSZ4.out ht5.size)).drew
  have hst3 := run_str (P := Tryd.prog) (c := c3) 27 5 9 Tryd.underlying27 Tryd.underlying5 Tryd.underlying9 hY5
  have hst5 := run_str (P := Tryd.prog) (c := c5) 27 5 9 Tryd.underlying27 Tryd.underlying5 Tryd.underlying9 (ho5.bys (by show 1 ≤ _; omega)).drew
  have hst5' : (convert 27 9 (.slice A5 1 c5)).run Tryd.prog w5.drew = .ok (.string ⟨#[6]⟩) w5.drew := hst5
  have hst3' : (convert 27 9 (.slice A3 1 c3)).run Tryd.prog w5.drew = .ok (.string ⟨#[67]⟩) w5.drew := hst3
  clear ho5 ht5 hs5 hO5 hap5 hY5 hst3 hst5 hw4
  go_wp2_with fail
  (with_reducible refine HDN.out.mono ?_)
  rintro e w6 ⟨rfl, rfl⟩
  go_wp2
  go_ret
  exact ⟨rfl, Below.drew HB5.out⟩
end Go.Proofs.YtjdjbdedfohfbaaDoor
