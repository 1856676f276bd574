/-
  Blocks as bytes, plain: what a block is encoded as, what bytes begin with, data in parts, what they are filled up with.
-/
import Derived.Test.YtonloefjhofeeaaGreatDoorSumPlain
import Derived.Test.YtonloefjhofeeaaGreatDoorTurn
namespace Go.Proofs.YtonloefjhofeeaaGreatDoor
set_option linter.unusedVariables false

/-! ### A block's bytes -/
/-- How many bytes of data a block of a lead has. -/
def szD (x : Nat) : Nat := if x = 1 then 128 else if x = 2 then 1024 else 0
/-- How many bytes stand behind data. -/
def szT (crc : Bool) : Nat := if crc then 2 else 1
/-- How many bytes a block of a lead has. -/
def szA (x : Nat) (crc : Bool) : Nat := if szD x = 0 then 0 else 3 + szD x + szT crc
def leadB (n : Nat) : UInt8 := if n = 1024 then 2 else 1
def trl (crc : Bool) (d : List UInt8) : List UInt8 := if crc then [UInt8.ofNat (crcL d / 256), UInt8.ofNat (crcL d % 256)] else [UInt8.ofNat (chk d)]
def enc (num : UInt8) (d : List UInt8) (crc : Bool) : List UInt8 := leadB d.length :: num :: (255 - num) :: (d ++ trl crc d)

theorem trl_len (crc : Bool) (d : List UInt8) : (trl crc d).length = szT crc := by cases crc <;> rfl
theorem szT_pos (crc : Bool) : 1 ≤ szT crc ∧ szT crc ≤ 2 := by cases crc <;> simp [szT]
theorem enc_len (num : UInt8) (d : List UInt8) (crc : Bool) : (enc num d crc).length = 3 + d.length + szT crc := by
  simp [enc, trl_len]; omega
theorem szD_one : szD 1 = 128 := rfl
theorem szD_two : szD 2 = 1024 := rfl
theorem szD_other {x : Nat} (h1 : x ≠ 1) (h2 : x ≠ 2) : szD x = 0 := by unfold szD; rw [if_neg h1, if_neg h2]
theorem szD_le (x : Nat) : szD x ≤ 1024 := by unfold szD; split; · omega
                                              split <;> omega
theorem lead_sz {n : Nat} (h : n = 128 ∨ n = 1024) : szD (leadB n).toNat = n := by rcases h with rfl | rfl <;> rfl
theorem lead_nat {crc : Bool} {n : Nat} (h : n = 128 ∨ n = 1024) : szA (leadB n).toNat crc = 3 + n + szT crc := by
  unfold szA; rw [lead_sz h, if_neg (by omega)]
theorem trl_inj_crc {a b : List UInt8} (h : trl true a = trl true b) : crcL a = crcL b := by
  simp [trl] at h
  obtain ⟨h1, h2⟩ := h
  have ha := crc_lt a
  have hb := crc_lt b
  have e1 := congrArg UInt8.toNat h1
  have e2 := congrArg UInt8.toNat h2
  simp only [UInt8.toNat_ofNat'] at e1 e2
  omega
theorem trl_inj_chk {a b : List UInt8} (h : trl false a = trl false b) : chk a = chk b := by
  simp [trl] at h
  have ha := chk_lt a
  have hb := chk_lt b
  have e1 := congrArg UInt8.toNat h
  simp only [UInt8.toNat_ofNat'] at e1
  omega
/-- Data of which a byte is turned have another trailer. -/
theorem trl_turn (crc : Bool) {d : List UInt8} {k : Nat} {c e : UInt8} (h : d[k]? = some c) (hne : c ≠ e) : trl crc (d.set k e) ≠ trl crc d := by
  intro he
  cases crc
  · exact chk_turn h hne (trl_inj_chk he.symm)
  · exact crc_turn h hne (trl_inj_crc he.symm)

/-! ### What bytes begin with: 0 too few, 1 none, 2 a block -/
def third (bs : List UInt8) : Bool := match bs with
  | _ :: b :: c :: _ => c == 255 - b
  | _ => true
def numOf (bs : List UInt8) : UInt8 := match bs with
  | _ :: b :: _ => b
  | _ => 0
def firstOf (bs : List UInt8) : Nat := match bs with
  | l :: _ => l.toNat
  | [] => 0
def dataOf (bs : List UInt8) : List UInt8 := (bs.drop 3).take (szD (firstOf bs))
def tailOf (bs : List UInt8) (crc : Bool) : List UInt8 := (bs.drop (3 + szD (firstOf bs))).take (szT crc)
def scanL (bs : List UInt8) (crc : Bool) : Nat × UInt8 × List UInt8 :=
  if bs.length = 0 then (0, 0, [])
  else if szD (firstOf bs) = 0 then (1, 0, [])
  else if third bs = false then (1, 0, [])
  else if bs.length < szA (firstOf bs) crc then (0, 0, [])
  else if tailOf bs crc ≠ trl crc (dataOf bs) then (1, 0, [])
  else (2, numOf bs, dataOf bs)

theorem scan_nil (crc : Bool) : scanL [] crc = (0, 0, []) := rfl
theorem scan_lead {bs : List UInt8} (crc : Bool) (h0 : bs.length ≠ 0) (h : szD (firstOf bs) = 0) : scanL bs crc = (1, 0, []) := by
  unfold scanL; rw [if_neg h0, if_pos h]
theorem scan_third {bs : List UInt8} (crc : Bool) (h0 : bs.length ≠ 0) (h1 : szD (firstOf bs) ≠ 0) (h : third bs = false) : scanL bs crc = (1, 0, []) := by
  unfold scanL; rw [if_neg h0, if_neg h1, if_pos h]
theorem scan_few {bs : List UInt8} {crc : Bool} (h0 : bs.length ≠ 0) (h1 : szD (firstOf bs) ≠ 0) (h2 : third bs = true) (h : bs.length < szA (firstOf bs) crc) : scanL bs crc = (0, 0, []) := by
  unfold scanL; rw [if_neg h0, if_neg h1, if_neg (by rw [h2]; simp), if_pos h]
theorem scan_tail {bs : List UInt8} {crc : Bool} (h0 : bs.length ≠ 0) (h1 : szD (firstOf bs) ≠ 0) (h2 : third bs = true) (h3 : ¬ bs.length < szA (firstOf bs) crc) (h : tailOf bs crc ≠ trl crc (dataOf bs)) : scanL bs crc = (1, 0, []) := by
  unfold scanL; rw [if_neg h0, if_neg h1, if_neg (by rw [h2]; simp), if_neg h3, if_pos h]
theorem scan_good {bs : List UInt8} {crc : Bool} (h0 : bs.length ≠ 0) (h1 : szD (firstOf bs) ≠ 0) (h2 : third bs = true) (h3 : ¬ bs.length < szA (firstOf bs) crc) (h : tailOf bs crc = trl crc (dataOf bs)) : scanL bs crc = (2, numOf bs, dataOf bs) := by
  unfold scanL; rw [if_neg h0, if_neg h1, if_neg (by rw [h2]; simp), if_neg h3, if_neg (by rw [h]; simp)]

/-- A block's bytes, and what stands behind them. -/
theorem scan_enc (num : UInt8) (d : List UInt8) (crc : Bool) (hd : d.length = 128 ∨ d.length = 1024) (rest : List UInt8) : scanL (enc num d crc ++ rest) crc = (2, num, d) := by
  have e : enc num d crc ++ rest = leadB d.length :: num :: (255 - num) :: (d ++ (trl crc d ++ rest)) := by simp [enc]
  have hf : firstOf (enc num d crc ++ rest) = (leadB d.length).toNat := by rw [e]; rfl
  have hD : dataOf (enc num d crc ++ rest) = d := by
    unfold dataOf; rw [hf, lead_sz hd, e]
    show List.take d.length (d ++ (trl crc d ++ rest)) = d
    simp
  have hT : tailOf (enc num d crc ++ rest) crc = trl crc d := by
    unfold tailOf; rw [hf, lead_sz hd, e]
    have : List.drop (3 + d.length) (leadB d.length :: num :: (255 - num) :: (d ++ (trl crc d ++ rest))) = trl crc d ++ rest := by
      rw [show 3 + d.length = d.length + 1 + 1 + 1 by omega]
      simp
    rw [this, ← trl_len crc d]
    simp
  rw [scan_good (by rw [e]; simp) (by rw [hf, lead_sz hd]; omega) (by rw [e]; simp [third]) (by rw [hf, lead_nat hd, List.length_append, enc_len]; omega) (by rw [hD]; exact hT), hD, e]
  rfl
theorem third_take {bs : List UInt8} (h : third bs = true) (k : Nat) : third (bs.take k) = true := by
  match bs, k with
  | _, 0 => simp [third]
  | [], _ => simp [third]
  | [a], k + 1 => simp [third]
  | [a, b], 1 => simp [third]
  | [a, b], k + 2 => simp [third]
  | a :: b :: c :: r, 1 => simp [third]
  | a :: b :: c :: r, 2 => simp [third]
  | a :: b :: c :: r, k + 3 => simpa [third] using h
theorem scan_cut (num : UInt8) (d : List UInt8) (crc : Bool) (hd : d.length = 128 ∨ d.length = 1024) (k : Nat) (hk : k < (enc num d crc).length) : scanL ((enc num d crc).take k) crc = (0, 0, []) := by
  rcases Nat.eq_zero_or_pos k with rfl | h
  · simp [scan_nil]
  · have hl : ((enc num d crc).take k).length = k := by rw [List.length_take]; omega
    have hf : firstOf ((enc num d crc).take k) = (leadB d.length).toNat := by
      obtain ⟨j, rfl⟩ : ∃ j, k = j + 1 := ⟨k - 1, by omega⟩
      rfl
    refine scan_few (by omega) (by rw [hf, lead_sz hd]; omega) (third_take (by simp [enc, third]) k) ?_
    rw [hf, lead_nat hd, hl]
    rw [enc_len] at hk
    omega

/-- A block of which a byte behind its lead is turned is none. -/
theorem scan_turn (num : UInt8) (d : List UInt8) (crc : Bool) (hd : d.length = 128 ∨ d.length = 1024) (k : Nat) (h1 : 1 ≤ k) (c e : UInt8) (hc : (enc num d crc)[k]? = some c) (hne : c ≠ e) :
    scanL ((enc num d crc).set k e) crc = (1, 0, []) := by
  have hkl : k < 3 + d.length + szT crc := by
    rw [← enc_len num d crc]
    rcases Nat.lt_or_ge k (enc num d crc).length with h | h
    · exact h
    · rw [List.getElem?_eq_none h] at hc; cases hc
  have hl : ((enc num d crc).set k e).length = 3 + d.length + szT crc := by rw [List.length_set, enc_len]
  match k, h1 with
  | 1, _ =>
    have he : (enc num d crc).set 1 e = leadB d.length :: e :: (255 - num) :: (d ++ trl crc d) := rfl
    have hcn : num = c := by simpa [enc] using hc
    subst hcn
    refine scan_third crc (by omega) (by rw [he]; show szD (leadB d.length).toNat ≠ 0; rw [lead_sz hd]; omega) ?_
    rw [he]
    show ((255 - num) == 255 - e) = false
    rw [beq_eq_false_iff_ne]
    intro h
    have h' := congrArg UInt8.toNat h
    have a1 := u8lt num
    have a2 := u8lt e
    have q1 : (255 - num).toNat = 255 - num.toNat := by rw [UInt8.toNat_sub_of_le _ _ (by rw [UInt8.le_iff_toNat_le]; exact Nat.le_of_lt_succ (by simpa using a1))]; rfl
    have q2 : (255 - e).toNat = 255 - e.toNat := by rw [UInt8.toNat_sub_of_le _ _ (by rw [UInt8.le_iff_toNat_le]; exact Nat.le_of_lt_succ (by simpa using a2))]; rfl
    exact hne (UInt8.toNat_inj.1 (by omega))
  | 2, _ =>
    have he : (enc num d crc).set 2 e = leadB d.length :: num :: e :: (d ++ trl crc d) := rfl
    have hcn : 255 - num = c := by simpa [enc] using hc
    subst hcn
    refine scan_third crc (by omega) (by rw [he]; show szD (leadB d.length).toNat ≠ 0; rw [lead_sz hd]; omega) ?_
    rw [he]
    show (e == 255 - num) = false
    rw [beq_eq_false_iff_ne]
    exact fun h => hne h.symm
  | j + 3, _ =>
    have he : (enc num d crc).set (j + 3) e = leadB d.length :: num :: (255 - num) :: ((d ++ trl crc d).set j e) := rfl
    have hf : firstOf ((enc num d crc).set (j + 3) e) = (leadB d.length).toNat := by rw [he]; rfl
    have hc' : (d ++ trl crc d)[j]? = some c := by simpa [enc] using hc
    have hdrop : ∀ l : List UInt8, List.drop (3 + d.length) (leadB d.length :: num :: (255 - num) :: l) = l.drop d.length := by
      intro l; rw [show 3 + d.length = d.length + 1 + 1 + 1 by omega]; simp
    refine scan_tail (by omega) (by rw [hf, lead_sz hd]; omega) (by rw [he]; simp [third]) (by rw [hf, lead_nat hd, hl]; omega) ?_
    unfold tailOf dataOf
    rw [hf, lead_sz hd, he, hdrop]
    show ((d ++ trl crc d).set j e |>.drop d.length |>.take (szT crc)) ≠ trl crc (((d ++ trl crc d).set j e).take d.length)
    rcases Nat.lt_or_ge j d.length with hj | hj
    · rw [List.set_append_left _ _ hj]
      have e1 : (d.set j e ++ trl crc d).drop d.length = trl crc d := by
        have := List.drop_left (l₁ := d.set j e) (l₂ := trl crc d); rwa [List.length_set] at this
      have e2 : (d.set j e ++ trl crc d).take d.length = d.set j e := by
        have := List.take_left (l₁ := d.set j e) (l₂ := trl crc d); rwa [List.length_set] at this
      rw [e1, e2, List.take_of_length_le (by rw [trl_len]; omega)]
      rw [List.getElem?_append_left hj] at hc'
      exact fun h => trl_turn crc hc' hne h.symm
    · rw [List.set_append_right _ _ hj, List.drop_left, List.take_left, List.take_of_length_le (by rw [List.length_set, trl_len]; omega)]
      rw [List.getElem?_append_right hj] at hc'
      intro h
      have h2 : (trl crc d)[j - d.length]? = some e := by
        rw [← h, List.getElem?_set_self (by rw [trl_len]; omega)]
      rw [hc'] at h2
      exact hne (Option.some.inj h2)

/-- Bytes that begin with a block begin with its encoding. -/
theorem scan_back {bs : List UInt8} {crc : Bool} (h0 : bs.length ≠ 0) (h1 : szD (firstOf bs) ≠ 0) (h2 : third bs = true) (h3 : ¬ bs.length < szA (firstOf bs) crc) (h : tailOf bs crc = trl crc (dataOf bs)) :
    enc (numOf bs) (dataOf bs) crc = bs.take (szA (firstOf bs) crc) := by
  have hs : szA (firstOf bs) crc = 3 + szD (firstOf bs) + szT crc := by unfold szA; rw [if_neg h1]
  have hn : firstOf bs = 1 ∨ firstOf bs = 2 := by
    by_cases a : firstOf bs = 1
    · exact .inl a
    · by_cases b : firstOf bs = 2
      · exact .inr b
      · exact absurd (szD_other a b) h1
  match bs, h3 with
  | [], _ => exact absurd rfl h0
  | [a], h3 => rw [hs] at h3; simp at h3; omega
  | [a, b], h3 => rw [hs] at h3; simp at h3; omega
  | a :: b :: c :: r, h3 =>
    have hf : firstOf (a :: b :: c :: r) = a.toNat := rfl
    have hD : dataOf (a :: b :: c :: r) = r.take (szD a.toNat) := rfl
    have hT : tailOf (a :: b :: c :: r) crc = (r.drop (szD a.toNat)).take (szT crc) := by
      unfold tailOf; rw [hf, show 3 + szD a.toNat = szD a.toNat + 1 + 1 + 1 by omega]; rfl
    rw [hs] at h3 ⊢
    rw [hf] at h3 hn ⊢
    have hlr : szD a.toNat + szT crc ≤ r.length := by simp at h3; omega
    have hdl : (r.take (szD a.toNat)).length = szD a.toNat := by rw [List.length_take]; omega
    have hcb : c = 255 - b := by simpa [third] using h2
    have hlead : leadB (szD a.toNat) = a := by
      rcases hn with h | h
      · rw [h]; exact UInt8.toNat_inj.1 (by rw [h]; rfl)
      · rw [h]; exact UInt8.toNat_inj.1 (by rw [h]; rfl)
    unfold enc
    rw [← h, hT, hD, hdl, hlead]
    show a :: b :: (255 - b) :: (r.take (szD a.toNat) ++ (r.drop (szD a.toNat)).take (szT crc)) = _
    rw [show 3 + szD a.toNat + szT crc = szD a.toNat + szT crc + 1 + 1 + 1 by omega, List.take_succ_cons, List.take_succ_cons, List.take_succ_cons, ← hcb, List.take_add]

/-! ### Data of a law: bytes that are gone round -/
def datAt (b : List UInt8) (k : Nat) : UInt8 := if b.length = 0 then 0 else (b[k % b.length]?.getD 0) + UInt8.ofNat (k / b.length)
def dat (b : List UInt8) (n : Nat) : List UInt8 := (List.range n).map (datAt b)
theorem dat_len (b : List UInt8) (n : Nat) : (dat b n).length = n := by simp [dat]
def longN (long : Bool) : Nat := if long then 1024 else 128
theorem longN_or (long : Bool) : longN long = 128 ∨ longN long = 1024 := by cases long <;> simp [longN]

/-! ### Data in parts -/
def psize (large : Bool) (n : Nat) : Nat := if large = true ∧ 1024 ≤ n then 1024 else 128
def fill (d : List UInt8) (n : Nat) : List UInt8 := d ++ List.replicate (n - d.length) 26
def partsF (large : Bool) : Nat → List UInt8 → List (List UInt8)
  | 0, _ => []
  | f + 1, d => if d.length = 0 then [] else fill (d.take (psize large d.length)) (psize large d.length) :: partsF large f (d.drop (psize large d.length))
def parts (large : Bool) (d : List UInt8) : List (List UInt8) := partsF large d.length d
theorem psize_pos (large : Bool) (n : Nat) : 128 ≤ psize large n := by unfold psize; split <;> omega
theorem psize_or (large : Bool) (n : Nat) : psize large n = 128 ∨ psize large n = 1024 := by unfold psize; split <;> simp
theorem partsF_more (large : Bool) : ∀ (f g : Nat) (d : List UInt8), d.length ≤ f → d.length ≤ g → partsF large f d = partsF large g d
  | 0, 0, _, _, _ => rfl
  | 0, g + 1, d, h, _ => by unfold partsF; rw [if_pos (by omega)]
  | f + 1, 0, d, _, h => by unfold partsF; rw [if_pos (by omega)]
  | f + 1, g + 1, d, hf, hg => by
    unfold partsF
    split
    · rfl
    · have := psize_pos large d.length
      rw [partsF_more large f g _ (by rw [List.length_drop]; omega) (by rw [List.length_drop]; omega)]
theorem parts_nil (large : Bool) : parts large [] = [] := rfl
theorem parts_step (large : Bool) (d : List UInt8) (h : d.length ≠ 0) : parts large d = fill (d.take (psize large d.length)) (psize large d.length) :: parts large (d.drop (psize large d.length)) := by
  have hp := psize_pos large d.length
  unfold parts
  obtain ⟨n, hn⟩ : ∃ n, d.length = n + 1 := ⟨d.length - 1, by omega⟩
  conv => lhs; rw [hn]
  rw [partsF, if_neg h, partsF_more large n (d.drop (psize large d.length)).length _ (by rw [List.length_drop]; omega) (Nat.le_refl _)]
theorem fill_len {d : List UInt8} {n : Nat} (h : d.length ≤ n) : (fill d n).length = n := by simp [fill]; omega
/-- Each part is as long as the document says. -/
theorem parts_sizes (large : Bool) : ∀ (f : Nat) (d : List UInt8), d.length ≤ f → ∀ p ∈ parts large d, p.length = 128 ∨ p.length = 1024
  | 0, d, h, p, hp => by
    have : d = [] := List.eq_nil_of_length_eq_zero (by omega)
    subst this; simp [parts_nil] at hp
  | f + 1, d, h, p, hp => by
    by_cases h0 : d.length = 0
    · have : d = [] := List.eq_nil_of_length_eq_zero (by omega)
      subst this; simp [parts_nil] at hp
    · rw [parts_step large d h0] at hp
      have hps := psize_pos large d.length
      rcases List.mem_cons.1 hp with rfl | hp
      · rw [fill_len (by rw [List.length_take]; omega)]; exact psize_or _ _
      · exact parts_sizes large f _ (by rw [List.length_drop]; omega) p hp
/-- The parts, one behind the other, are the data, and what they are filled up with. -/
theorem parts_flat (large : Bool) : ∀ (f : Nat) (d : List UInt8), d.length ≤ f → ∃ r, r < 128 ∧ (parts large d).flatten = d ++ List.replicate r 26
  | 0, d, h => by
    have : d = [] := List.eq_nil_of_length_eq_zero (by omega)
    subst this; exact ⟨0, by omega, rfl⟩
  | f + 1, d, h => by
    by_cases h0 : d.length = 0
    · have : d = [] := List.eq_nil_of_length_eq_zero (by omega)
      subst this; exact ⟨0, by omega, rfl⟩
    · rw [parts_step large d h0, List.flatten_cons]
      have hps := psize_pos large d.length
      rcases Nat.lt_or_ge d.length (psize large d.length) with hl | hl
      · have h128 : psize large d.length = 128 := by
          unfold psize at hl ⊢
          split at hl
          · rename_i hh; omega
          · rename_i hh; rw [if_neg hh]
        refine ⟨psize large d.length - d.length, by omega, ?_⟩
        rw [List.drop_eq_nil_of_le (by omega), parts_nil, List.take_of_length_le (by omega)]
        simp [fill]
      · obtain ⟨r, hr, e⟩ := parts_flat large f (d.drop (psize large d.length)) (by rw [List.length_drop]; omega)
        refine ⟨r, hr, ?_⟩
        rw [e, fill, List.length_take, Nat.min_eq_left hl, Nat.sub_self, List.replicate_zero, List.append_nil, ← List.append_assoc, List.take_append_drop]
theorem parts_count (large : Bool) : ∀ (f : Nat) (d : List UInt8), d.length ≤ f → (parts large d).length * 128 < d.length + 128
  | 0, d, h => by
    have : d = [] := List.eq_nil_of_length_eq_zero (by omega)
    subst this; simp [parts_nil]
  | f + 1, d, h => by
    by_cases h0 : d.length = 0
    · have : d = [] := List.eq_nil_of_length_eq_zero (by omega)
      subst this; simp [parts_nil]
    · rw [parts_step large d h0]
      have hps := psize_pos large d.length
      rcases Nat.lt_or_ge d.length (psize large d.length) with hl | hl
      · rw [List.drop_eq_nil_of_le (by omega), parts_nil]; simp; omega
      · have := parts_count large f (d.drop (psize large d.length)) (by rw [List.length_drop]; omega)
        rw [List.length_drop] at this
        rw [List.length_cons]; omega
end Go.Proofs.YtonloefjhofeeaaGreatDoor
