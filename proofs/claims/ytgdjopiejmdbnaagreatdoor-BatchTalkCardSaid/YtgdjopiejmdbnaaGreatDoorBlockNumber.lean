/-
  What 'Number' answers: blocks in a row of the call's own, each one's data in a row of its own.
-/
import Derived.Test.YtgdjopiejmdbnaaGreatDoorBlockParts
import Derived.Test.YtgdjopiejmdbnaaGreatDoorBytesClone
namespace Go.Proofs.YtgdjopiejmdbnaaGreatDoor
open Go.RowKit
set_option linter.unusedVariables false

/-- The first k blocks of a row of structs in cells cs: numbered, their data by V, each in a block of its own. -/
def Num (w : World) (base k : Nat) (cs : Array Value) (rows : List (List UInt8)) (V : Nat → Value) : Prop :=
  ∀ (j : Nat) (bs : List UInt8), j < k → rows[j]? = some bs → ∃ A c, V j = .slice A bs.length c ∧ cs[j * 2]? = some (.int .u8 (((j : Int) + 1) % 256)) ∧ cs[j * 2 + 1]? = some (.slice A bs.length c) ∧
    OwnB w base 5 (.slice A bs.length c) bs.length bs ∧ bs.length ≤ c ∧ c ≤ 9223372036854775807 ∧ ∀ i, i < j → ∀ x, (V j).ownBlock = some x → (V i).ownBlock ≠ some x
theorem Num.below {w w' : World} {base k : Nat} {cs : Array Value} {rows : List (List UInt8)} {V : Nat → Value} (h : Num w base k cs rows V) (hb : Below w.heap.size w w') : Num w' base k cs rows V := fun j bs hj hr => by
  obtain ⟨A, c, e1, e2, e3, e4, e5, e6, e7⟩ := h j bs hj hr
  exact ⟨A, c, e1, e2, e3, e4.keep (fun i _ hi => hb.block i hi), e5, e6, e7⟩
def putV (V : Nat → Value) (k : Nat) (v : Value) (j : Nat) : Value := if j = k then v else V j
theorem putV_same (V : Nat → Value) (k : Nat) (v : Value) : putV V k v k = v := if_pos rfl
theorem putV_ne {V : Nat → Value} {k j : Nat} {v : Value} (h : j ≠ k) : putV V k v j = V j := if_neg h
/-- One block more. -/
theorem Num.push {w w2 w' : World} {base g k : Nat} {cs : Array Value} {rows : List (List UInt8)} {V : Nat → Value} (h : Num w base k cs rows V) (hb : Below w.heap.size w w2) {A : Option Addr} {c : Nat} {bs : List UInt8} (hr : rows[k]? = some bs)
    (ho : OwnB w2 w.heap.size 5 (.slice A bs.length c) bs.length bs) (h1 : bs.length ≤ c) (h2 : c ≤ 9223372036854775807) (hbase : base ≤ w.heap.size) (hg : g < base) (hsz : k * 2 + 1 < cs.size)
    (hw : ∀ i, i ≠ g → w'.heap[i]? = w2.heap[i]?) (z : Int) (hz : z = ((k : Int) + 1) % 256) :
    Num w' base (k + 1) ((cs.setIfInBounds (k * 2) (.int .u8 z)).setIfInBounds (k * 2 + 1) (.slice A bs.length c)) rows (putV V k (.slice A bs.length c)) := by
  subst hz
  have keep : ∀ {b n : Nat} {v : Value} {xs : List UInt8}, base ≤ b → OwnB w2 b 5 v n xs → OwnB w' b 5 v n xs := fun hbb ho => ho.keep fun i hi _ => hw i (by
    have := own_base ho i hi
    omega)
  intro j b hj hrj
  by_cases hjk : j = k
  · subst hjk
    rw [hr] at hrj
    obtain rfl := Option.some.inj hrj
    refine ⟨A, c, putV_same _ _ _, ?_, ?_, own_lower (keep hbase ho) hbase, h1, h2, fun i hi x hx => ?_⟩
    · rw [Array.getElem?_setIfInBounds_ne (by omega), Array.getElem?_setIfInBounds_self_of_lt (by omega)]
    · rw [Array.getElem?_setIfInBounds_self_of_lt (by simpa using hsz)]
    · rw [putV_same] at hx
      have hxb := own_base ho x hx
      rw [putV_ne (by omega)]
      intro hh
      have hil : i < rows.length := by
        have : j < rows.length := by
          rcases Nat.lt_or_ge j rows.length with h | h
          · exact h
          · rw [List.getElem?_eq_none h] at hr; cases hr
        omega
      obtain ⟨A', c', e1, _, _, e4, _⟩ := h i _ hi (List.getElem?_eq_getElem hil)
      rw [e1] at hh
      have := World.ownsRow.lt e4 x hh
      omega
  · obtain ⟨A', c', e1, e2, e3, e4, e5, e6, e7⟩ := h j b (by omega) hrj
    refine ⟨A', c', by rw [putV_ne hjk]; exact e1, ?_, ?_, keep (Nat.le_refl _) (e4.keep (fun i _ hi => hb.block i hi)), e5, e6, fun i hi x hx => ?_⟩
    · rw [Array.getElem?_setIfInBounds_ne (by omega), Array.getElem?_setIfInBounds_ne (by omega)]; exact e2
    · rw [Array.getElem?_setIfInBounds_ne (by omega), Array.getElem?_setIfInBounds_ne (by omega)]; exact e3
    · rw [putV_ne hjk] at hx
      by_cases hik : i = k
      · omega
      · rw [putV_ne hik]
        exact e7 i hi x hx

def NumPost (w : World) (rows : List (List UInt8)) (e : Ending) (w' : World) : Prop :=
  ∃ g cs V, e = .returned (.slice (some ⟨g, 0, none⟩) rows.length rows.length) ∧ w.heap.size ≤ g ∧ Blk w' g 50 cs ∧ cs.size = rows.length * 2 ∧ Num w' (g + 1) rows.length cs rows V ∧ Below w.heap.size w w'

def nrow (n : Nat) : Array Value := madeCells #[.int .u8 0, .slice none 0 0] (n * 2)
theorem nrow_size (n : Nat) : (nrow n).size = n * 2 := by simp [nrow, madeCells]
theorem run_mkn (n : Nat) (hn : n * 32 ≤ 281474976710656) (W : World) :
    (Instr.makeSlice 51 (.int .i64 (n : Int)) (.int .i64 (n : Int))).run Tryz.prog W = .ok (.slice (some ⟨W.heap.size, 0, none⟩) n n) (W.alloc (.cells (nrow n) 50)) := by
  obtain ⟨i, hi⟩ := Option.isSome_iff_exists.1 (show (Tryz.prog.info? 50).isSome = true by kernel_rfl)
  have h0 : (Tryz.prog.info? 50).map (fun i => (i.zero, i.bytes, i.size)) = some (some (.agg #[.int .u8 0, .slice none 0 0]), 32, 2) := by kernel_rfl
  rw [hi] at h0
  simp only [Option.map_some, Option.some.injEq, Prod.mk.injEq] at h0
  obtain ⟨hz, hb, hs⟩ := h0
  have h := run_make (P := Tryz.prog) W 51 50 i (.agg #[.int .u8 0, .slice none 0 0]) Tryz.underlying51 hi hz .i64 .i64 (n : Int) (n : Int) (by omega) (by omega) (by rw [hb]; omega) (by omega)
  rw [hs] at h
  simp only [Int.toNat_natCast] at h
  exact h

set_option maxHeartbeats 4000000 in
theorem number_any (A : Option Addr) (n c : Nat) (rows : List (List UInt8)) (w : World) (h : RowsB w A n rows) (hn : n * 32 ≤ 281474976710656) (hl : ∀ bs ∈ rows, bs.length ≤ 140737488355328) :
    Calls Tryz.prog 21 #[.slice A n c] w (NumPost w rows) := by
  have hmk := run_mkn n hn w
  obtain ⟨w1, hw1⟩ : ∃ w1, w.alloc (.cells (nrow n) 50) = w1 := ⟨_, rfl⟩
  rw [hw1] at hmk
  have hk1 : Blk w1 w.heap.size 50 (nrow n) := by rw [← hw1]; exact Blk.new w _ _
  have hb1 : Below w.heap.size w w1 := by rw [← hw1]; exact (Below.refl _ _).alloc (Nat.le_refl _) _
  have hs1 : w1.heap.size = w.heap.size + 1 := by rw [← hw1]; simp
  have H := keepHid h
  have HL := keepHid hl
  have HK1 := keepHid hk1
  have HB1 := keepHid hb1
  have hlen := h.1
  have HLEN := keepHid hlen
  have hn2 : n ≤ 9223372036854775807 := by omega
  clear h hl hk1 hb1 hw1 hlen
  go_enter Tryz.func21, Tryz.ntmps21
  go_wp2
  go_loopw [11] (fun i wr => ∃ (k : Nat) (cs : Array Value) (V : Nat → Value), k ≤ n ∧ i = .int .i64 k ∧ Blk wr w.heap.size 50 cs ∧ cs.size = n * 2 ∧ Num wr (w.heap.size + 1) k cs rows V ∧ w.heap.size + 1 ≤ wr.heap.size ∧ Below w.heap.size w wr) (fun i _ => n - (intOf i).toNat)
  case atStart => exact ⟨0, nrow n, fun _ => undef, Nat.zero_le _, rfl, HK1.out, nrow_size n, fun j bs hj => absurd hj (by omega), by omega, HB1.out⟩
  case round =>
    obtain ⟨k, cs, V, hk, rfl, hbk, hcs, hnum, hsz, hbel⟩ := hrel
    have HK := keepHid hbk
    have HCS := keepHid hcs
    have HN := keepHid hnum
    have HB := keepHid hbel
    by_cases hlt : k < n
    · obtain ⟨bs, hrow⟩ : ∃ bs, rows[k]? = some bs := ⟨_, List.getElem?_eq_getElem (by rw [HLEN.out]; exact hlt)⟩
      obtain ⟨ad, Ak, ck, rfl, had, hc0, hlc, hcm, hby⟩ := H.out.2 k bs hrow
      have hc1 : wr.cell? (ad.add k) = some (.slice Ak bs.length ck) := (hbel.cell (by rw [ad_block]; exact had)).trans hc0
      have HBY := keepHid ((hby.below hbel).more hbel.size)
      have HROW := keepHid hrow
      have hbl := HL.out bs (List.mem_of_getElem? hrow)
      obtain ⟨nb, hnb⟩ : ∃ nb, bs.length = nb := ⟨_, rfl⟩
      rw [hnb] at hc1 hbl
      have HNB := keepHid hnb
      clear hbk hcs hnum hbel hrow hc0 hlc hby hnb
      go_wp2_with fail
      refine (clone_any _ nb _ _ bs _ (by rw [← HNB.out]; exact HBY.out) hbl).mono ?_
      rintro e w2 ⟨A2, c2, rfl, ho2, hc21, hc22, hb2⟩
      have hbk2 := HK.out.below hb2 (by omega)
      have g0 := hbk2.cell (k * 2)
      have g1 := hbk2.cell (k * 2 + 1)
      have hlt0 : k * 2 < cs.size := by rw [HCS.out]; omega
      have hlt1 : k * 2 + 1 < cs.size := by rw [HCS.out]; omega
      rw [Array.getElem?_eq_getElem hlt0] at g0
      rw [Array.getElem?_eq_getElem hlt1] at g1
      have gf0 := hbk2.frozen (k * 2)
      have gf1 := hbk2.frozen (k * 2 + 1)
      have HK2 := keepHid hbk2
      have HO2 := keepHid ho2
      have HB2 := keepHid hb2
      generalize cs[k * 2] = u0 at *
      generalize cs[k * 2 + 1] = u1 at *
      clear hbk2 ho2 hb2
      rw [HNB.out] at hc21 ⊢
      go_wp2
      have hh := HO2.out
      rw [← HNB.out]
      go_roundw
      case rel =>
        refine ⟨k + 1, _, putV V k (.slice A2 bs.length c2), by omega, by go_num, (HK2.out.put (k * 2) _).put (k * 2 + 1) _, ?_, ?_, ?_, ?_⟩
        · simpa using HCS.out
        · exact HN.out.push HB2.out HROW.out HO2.out (by rw [HNB.out]; exact hc21) hc22 hsz (Nat.lt_succ_self _) hlt1 (fun i hi => by rw [Below.heap_setCell _ _ _ _ hi, Below.heap_setCell _ _ _ _ hi]) _ rfl
        · have := HB2.out.size; simp; omega
        · exact ((HB.out.trans (HB2.out.mono HB.out.size)).setCell (Nat.le_refl _) _).setCell (Nat.le_refl _) _
      case measure => simp [intOf]; omega
    · obtain rfl : k = n := by omega
      clear hbk hcs hnum hbel
      go_wp2
      go_ret
      have hl := HLEN.out
      subst hl
      exact ⟨w.heap.size, cs, V, rfl, Nat.le_refl _, HK.out, HCS.out, HN.out, HB.out⟩
end Go.Proofs.YtgdjopiejmdbnaaGreatDoor
