/-
  A board's loader, plain: what it has, what it tells to bytes and to a tick.
-/
import Derived.Test.YtonloefjhofeeaaGreatDoorSenderPlain
import Derived.Test.YtonloefjhofeeaaGreatDoorManifestPlain
import Derived.Test.YtonloefjhofeeaaGreatDoorHeaderPlain
import Derived.Test.YtonloefjhofeeaaGreatDoorStore
namespace Go.Proofs.YtonloefjhofeeaaGreatDoor
set_option linter.unusedVariables false

/-! ### Words, numbers, lines -/
/-- What stands between single blanks. -/
def splitW : List UInt8 → List (List UInt8)
  | [] => [[]]
  | c :: r => if c = 32 then [] :: splitW r else match splitW r with
    | [] => [[c]]
    | h :: t => (c :: h) :: t
theorem splitW_ne (l : List UInt8) : splitW l ≠ [] := by
  cases l with
  | nil => simp [splitW]
  | cons c r =>
    unfold splitW
    split
    · simp
    · split <;> simp
theorem splitW_word (a r : List UInt8) (h : ∀ c ∈ a, c ≠ 32) : splitW (a ++ 32 :: r) = a :: splitW r := by
  induction a with
  | nil => rfl
  | cons c a ih =>
    show splitW (c :: (a ++ 32 :: r)) = _
    rw [splitW, if_neg (h c (by simp)), ih (fun x hx => h x (by simp [hx]))]
theorem splitW_one (a : List UInt8) (h : ∀ c ∈ a, c ≠ 32) : splitW a = [a] := by
  induction a with
  | nil => rfl
  | cons c a ih => rw [splitW, if_neg (h c (by simp)), ih (fun x hx => h x (by simp [hx]))]
theorem splitW_head (c : UInt8) (r : List UInt8) (h : c ≠ 32) : ∃ a t, splitW (c :: r) = (c :: a) :: t := by
  rw [splitW, if_neg h]
  split
  · exact ⟨_, _, rfl⟩
  · exact ⟨_, _, rfl⟩
theorem splitW_blank (l : List UInt8) : splitW (l ++ [32]) = splitW l ++ [[]] := by
  induction l with
  | nil => rfl
  | cons c r ih =>
    show splitW (c :: (r ++ [32])) = _
    rw [splitW, splitW, ih]
    split
    · rfl
    · cases hs : splitW r with
      | nil => exact absurd hs (splitW_ne r)
      | cons h t => rfl
theorem splitW_more (l : List UInt8) (c : UInt8) (hc : c ≠ 32) (q : List (List UInt8)) (x : List UInt8) (h : splitW l = q ++ [x]) : splitW (l ++ [c]) = q ++ [x ++ [c]] := by
  induction l generalizing q x with
  | nil =>
    rcases q with _ | ⟨y, q⟩
    · simp [splitW] at h
      subst h
      simp [splitW, hc]
    · simp [splitW] at h
  | cons d r ih =>
    show splitW (d :: (r ++ [c])) = _
    rw [splitW] at h ⊢
    by_cases hd : d = 32
    · rw [if_pos hd] at h ⊢
      rcases q with _ | ⟨y, q⟩
      · have h1 : splitW r = [] := by simpa using (List.cons.inj h).2
        exact absurd h1 (splitW_ne r)
      · have h1 := List.cons.inj h
        rw [ih q x h1.2, ← h1.1]
        rfl
    · rw [if_neg hd] at h ⊢
      cases hs : splitW r with
      | nil => exact absurd hs (splitW_ne r)
      | cons a t =>
        rw [hs] at h
        have h' : (d :: a) :: t = q ++ [x] := h
        rcases q with _ | ⟨y, q⟩
        · have h1 := List.cons.inj h'
          have e1 : t = [] := h1.2
          subst e1
          rw [ih [] a (by rw [hs]; rfl), ← h1.1]
          rfl
        · have h1 := List.cons.inj h'
          rw [ih (a :: q) x (by rw [hs, h1.2]; rfl), ← h1.1]
          rfl
theorem splitW_all (l : List UInt8) : ∀ x ∈ splitW l, x.length ≤ l.length ∧ ∀ c ∈ x, c ∈ l := by
  induction l with
  | nil => intro x hx; simp [splitW] at hx; subst hx; exact ⟨by simp, fun c hc => hc⟩
  | cons d r ih =>
    intro x hx
    rw [splitW] at hx
    split at hx
    · rcases List.mem_cons.1 hx with rfl | hx
      · exact ⟨by simp, fun c hc => absurd hc (by simp)⟩
      · have := ih x hx
        exact ⟨by simp only [List.length_cons]; omega, fun c hc => List.mem_cons_of_mem _ (this.2 c hc)⟩
    · cases hs : splitW r with
      | nil => exact absurd hs (splitW_ne r)
      | cons a t =>
        rw [hs] at hx
        rcases List.mem_cons.1 hx with rfl | hx
        · have := ih a (by rw [hs]; simp)
          exact ⟨by simp only [List.length_cons]; omega, fun c hc => by
            rcases List.mem_cons.1 hc with rfl | hc
            · simp
            · exact List.mem_cons_of_mem _ (this.2 c hc)⟩
        · have := ih x (by rw [hs]; exact List.mem_cons_of_mem _ hx)
          exact ⟨by simp only [List.length_cons]; omega, fun c hc => List.mem_cons_of_mem _ (this.2 c hc)⟩

/-- The number that a word denotes, as it would be told. -/
def hexN (bs : List UInt8) : Option Nat :=
  if (∀ c ∈ bs, hexL.contains c = true) ∧ valB 16 bs 0 < 4294967296 ∧ digL 16 (valB 16 bs 0) = bs then some (valB 16 bs 0) else none
theorem hexN_dig {n : Nat} (h : n < 4294967296) : hexN (digL 16 n) = some n := by
  unfold hexN
  have hv := val_dig (b := 16) (.inr rfl) n
  rw [hv, if_pos ⟨fun c hc => digL_all (b := 16) (.inr rfl) n c hc, h, rfl⟩]
theorem hexN_is {bs : List UInt8} {n : Nat} (h : hexN bs = some n) : n < 4294967296 ∧ bs = digL 16 n := by
  unfold hexN at h
  split at h
  · rename_i hh
    obtain rfl := Option.some.inj h
    exact ⟨hh.2.1, hh.2.2.symm⟩
  · cases h
theorem hexN_no {bs : List UInt8} (h : hexN bs = none) {n : Nat} (hn : n < 4294967296) : bs ≠ digL 16 n := fun e => by rw [e, hexN_dig hn] at h; cases h
theorem dig_hex {n : Nat} {c : UInt8} (h : c ∈ digL 16 n) : c ∈ hexL := List.contains_iff_mem.1 (digL_all (b := 16) (.inr rfl) n c h)
theorem hex_not : ∀ c ∈ hexL, c ≠ 32 ∧ c ≠ 13 ∧ c ≠ 115 := by decide
theorem dig_no {n : Nat} {c : UInt8} (h : c ∈ digL 16 n) : c ≠ 32 ∧ c ≠ 13 ∧ c ≠ 115 := hex_not c (dig_hex h)
theorem dig_eight {n : Nat} (h : n < 4294967296) : (digL 16 n).length ≤ 8 := digL_len (by omega) n 7 (by omega)

def wLoad : List UInt8 := [108, 111, 97, 100]
def wSum : List UInt8 := [115, 117, 109]
/-- CRLF and the Prompt. -/
def readyL : List UInt8 := [13, 10, 61, 62, 32]
def promptL : List UInt8 := [61, 62, 32]
def lin20 (a n p : Nat) : List UInt8 := [115, 117, 109, 32] ++ (digL 16 a ++ 32 :: (digL 16 n ++ 32 :: (digL 16 p ++ [13, 10])))
def askL (a n : Nat) : List UInt8 := wSum ++ 32 :: (digL 16 a ++ 32 :: digL 16 n)
def loadL (k : Int) (a : Nat) : List UInt8 := wLoad ++ 32 :: (wayL k ++ 32 :: digL 16 a)

/-! ### A board -/
/-- What receives a load. -/
inductive Lod where
  | non
  | one (crc : Bool) (s : Rd)
  | files (b : Br Fl)
namespace Lod
def isNon : Lod → Bool
  | .non => true
  | _ => false
def ov : Lod → Bool
  | .non => false
  | .one _ s => s.ov
  | .files b => b.ov
def er : Lod → Nat
  | .non => 0
  | .one _ s => s.er
  | .files b => b.er
def da : Lod → List UInt8
  | .non => []
  | .one _ s => s.da
  | .files b => b.da
def put (p : BP Fl) (x : List UInt8) : Lod → List UInt8 × Lod
  | .non => ([], .non)
  | .one crc s => ((putR crc true p.W s x).1, .one crc (putR crc true p.W s x).2)
  | .files b => ((putBR p b x).1, .files (putBR p b x).2)
def tick (p : BP Fl) : Lod → List UInt8 × Lod
  | .non => ([], .non)
  | .one crc s => ((tickR crc p.W s).1, .one crc (tickR crc p.W s).2)
  | .files b => ((tickBR p b).1, .files (tickBR p b).2)
end Lod
/-- A board: is it awake; its line; what is loaded, and to where; what it told; its memory. -/
structure Bd where
  aw : Bool
  ln : List UInt8
  ld : Lod
  ad : Nat
  rp : List (Nat × Nat × Nat)
  st : List UInt8
def new20 : Bd := ⟨false, [], .non, 0, [], zeros 16384⟩
def begin20 (p : BP Fl) (k : Nat) : Lod := if k = 3 then .files (newBR p) else .one (decide (k ≠ 0)) (newR 1 1 p.T)
def noL : List UInt8 := 63 :: readyL
def exec20 (p : BP Fl) (s : Bd) (line : List UInt8) : List UInt8 × Bd :=
  if line = [] then (readyL, s)
  else match splitW line with
    | [x, y, z] =>
      if x = wLoad then match wayOf y, hexN z with
        | some k, some a => ([], { s with ad := a, ld := begin20 p k })
        | _, _ => (noL, s)
      else if x = wSum then match hexN y, hexN z with
        | some a, some n => if a + n ≤ 16384 then (lin20 a n (prNum (prL (getL s.st a n))) ++ promptL, { s with rp := s.rp ++ [(a, n, prNum (prL (getL s.st a n)))] }) else (noL, s)
        | _, _ => (noL, s)
      else (noL, s)
    | _ => (noL, s)
def take20 (p : BP Fl) (s : Bd) (c : UInt8) : List UInt8 × Bd :=
  if s.aw = false then (readyL, { s with aw := true })
  else if c = 13 then exec20 p { s with ln := [] } s.ln
  else if s.ln.length < 80 then ([], { s with ln := s.ln ++ [c] })
  else ([], s)
def fin20 (s : Bd) : List UInt8 × Bd :=
  if s.ld.ov = false then ([], s)
  else if s.ld.er = 0 ∧ s.ad + s.ld.da.length ≤ 16384 then (readyL, { s with ld := .non, st := splice s.st s.ad s.ld.da })
  else (33 :: readyL, { s with ld := .non })
def lput20 (p : BP Fl) (s : Bd) (x : List UInt8) : List UInt8 × Bd :=
  ((s.ld.put p x).1 ++ (fin20 { s with ld := (s.ld.put p x).2 }).1, (fin20 { s with ld := (s.ld.put p x).2 }).2)
def tick20 (p : BP Fl) (s : Bd) : List UInt8 × Bd :=
  ((s.ld.tick p).1 ++ (fin20 { s with ld := (s.ld.tick p).2 }).1, (fin20 { s with ld := (s.ld.tick p).2 }).2)
def feed20 (p : BP Fl) : Bd → List UInt8 → List UInt8 × Bd
  | s, [] => lput20 p s []
  | s, c :: r => if s.ld.isNon = true then ((take20 p s c).1 ++ (feed20 p (take20 p s c).2 r).1, (feed20 p (take20 p s c).2 r).2) else lput20 p s (c :: r)

theorem Lod.non_of {l : Lod} (h : l.isNon = true) : l = .non := by
  cases l with
  | non => rfl
  | one crc s => cases h
  | files b => cases h
theorem lput_non {p : BP Fl} {s : Bd} (h : s.ld = .non) (x : List UInt8) : lput20 p s x = ([], s) := by
  obtain ⟨aw, ln, ld, ad, rp, st⟩ := s
  obtain rfl : ld = .non := h
  rfl
theorem tick_non {p : BP Fl} {s : Bd} (h : s.ld = .non) : tick20 p s = ([], s) := by
  obtain ⟨aw, ln, ld, ad, rp, st⟩ := s
  obtain rfl : ld = .non := h
  rfl
theorem feed_take {p : BP Fl} {s : Bd} (h : s.ld = .non) (c : UInt8) (r : List UInt8) : feed20 p s (c :: r) = ((take20 p s c).1 ++ (feed20 p (take20 p s c).2 r).1, (feed20 p (take20 p s c).2 r).2) := by
  rw [feed20, h]
  rfl
theorem feed_load {p : BP Fl} {s : Bd} (h : s.ld.isNon = false) (x : List UInt8) : feed20 p s x = lput20 p s x := by
  cases x with
  | nil => rfl
  | cons c r => rw [feed20, h, if_neg (by simp)]
theorem feed_nil {p : BP Fl} {s : Bd} (h : s.ld = .non) : feed20 p s [] = ([], s) := lput_non h []

/-! ### What a board is always -/
/-- A load that is in progress is not over; how much it may have. -/
def Lod.few (C B : Nat) : Lod → Prop
  | .non => True
  | .one _ s => s.da.length ≤ 1024 * C ∧ 1 - (C : Int) ≤ s.bl ∧ s.bl ≤ 1 ∧ s.bu.length ≤ B
  | .files b => b.r.da.length ≤ 1024 * C ∧ 1 - (C : Int) ≤ b.r.bl ∧ b.r.bl ≤ 1 ∧ b.r.bu.length ≤ B
theorem Lod.few_mono {C B C' B' : Nat} {l : Lod} (h : l.few C B) (h1 : C ≤ C') (h2 : B ≤ B') : l.few C' B' := by
  cases l with
  | non => trivial
  | one crc s => obtain ⟨a, b, c, d⟩ := h; exact ⟨by omega, by omega, c, by omega⟩
  | files f => obtain ⟨a, b, c, d⟩ := h; exact ⟨by omega, by omega, c, by omega⟩
theorem fin_few {cl : Bool} {s : Rd} : (finR cl s).2.da = s.da ∧ (finR cl s).2.bl = s.bl ∧ (finR cl s).2.bu.length ≤ s.bu.length := by
  unfold finR stopR
  split
  · exact ⟨rfl, rfl, by simp⟩
  · exact ⟨rfl, rfl, Nat.le_refl _⟩
theorem take_few {cl : Bool} {s : Rd} (num : UInt8) (d : List UInt8) (hd : d.length ≤ 1024) : (takeR cl s num d).2.da.length ≤ s.da.length + 1024 ∧ s.bl - 1 ≤ (takeR cl s num d).2.bl ∧ (takeR cl s num d).2.bl ≤ s.bl ∧ (takeR cl s num d).2.bu.length ≤ s.bu.length := by
  unfold takeR
  split
  · have h := fin_few (cl := cl) (s := { s with da := s.da ++ d, ex := s.ex + 1, bl := s.bl - 1 })
    rw [h.1, h.2.1]
    exact ⟨by rw [List.length_append]; omega, by simp only; omega, by simp only; omega, h.2.2⟩
  · split
    · exact ⟨by simp [stopR], by simp only [stopR]; omega, by simp [stopR], by simp [stopR]⟩
    · have h := fin_few (cl := cl) (s := s)
      rw [h.1, h.2.1]
      exact ⟨by omega, by omega, Int.le_refl _, h.2.2⟩
theorem put_few (crc cl : Bool) (W : Nat) (s : Rd) (x : List UInt8) : (putR crc cl W s x).2.da.length ≤ s.da.length + 1024 ∧ s.bl - 1 ≤ (putR crc cl W s x).2.bl ∧ (putR crc cl W s x).2.bl ≤ s.bl ∧ (putR crc cl W s x).2.bu.length ≤ s.bu.length + x.length := by
  unfold putR
  split
  · exact ⟨by simp, by simp only; omega, Int.le_refl _, by simp⟩
  · unfold seeR
    split
    · exact ⟨by simp [stopR], by simp only [stopR]; omega, by simp [stopR], by simp [stopR]⟩
    split
    · exact ⟨by simp [stopR], by simp only [stopR]; omega, by simp [stopR], by simp [stopR]⟩
    split
    · exact ⟨by simp, by simp only; omega, by simp, by simp⟩
    unfold scanR
    split
    · exact ⟨by simp, by simp only; omega, by simp, by simp⟩
    split
    · exact ⟨by simp, by simp only; omega, by simp, by simp⟩
    · rename_i h1 h2
      have hs := scan_state (s.bu ++ x) crc
      have hd := scan_data (s.bu ++ x) crc (by
        rcases hs with h | h | h
        · exact absurd h h1
        · exact absurd h h2
        · exact h)
      have ht := take_few (cl := cl) (s := { s with tk := W, bu := [] }) (scanL (s.bu ++ x) crc).2.1 (scanL (s.bu ++ x) crc).2.2 (by omega)
      exact ⟨ht.1, ht.2.1, ht.2.2.1, by have := ht.2.2.2; simp only [List.length_nil] at this; exact Nat.le_trans this (Nat.zero_le _)⟩
theorem tick_few (crc : Bool) (W : Nat) (s : Rd) : (tickR crc W s).2.da.length ≤ s.da.length ∧ (tickR crc W s).2.bl = s.bl ∧ (tickR crc W s).2.bu.length ≤ s.bu.length := by
  unfold tickR askR stopR
  repeat' split
  all_goals exact ⟨by simp, rfl, by simp⟩
theorem next_few (p : BP Fl) (b : Br Fl) (r : Rd) (C B : Nat) (h : r.da.length ≤ 1024 * C ∧ 1 - (C : Int) ≤ r.bl ∧ r.bl ≤ 1 ∧ r.bu.length ≤ B) : (Lod.files (nextBR p b r)).few C B := by
  have hn : ∀ n T, (newR n 1 T).da.length ≤ 1024 * C ∧ 1 - (C : Int) ≤ (newR n 1 T).bl ∧ (newR n 1 T).bl ≤ 1 ∧ (newR n 1 T).bu.length ≤ B := fun n T => by
    have h1 : (newR n 1 T).bl = 1 := by simp [newR]
    rw [h1]
    exact ⟨by simp [newR], by omega, by omega, by simp [newR]⟩
  unfold nextBR
  split
  · split
    · exact h
    split
    · split
      · exact hn _ _
      · exact h
    split
    · split
      · split
        · exact h
        · exact hn _ _
      · exact h
    · exact h
  · exact h
theorem Lod.few_put {C B : Nat} {l : Lod} (p : BP Fl) (x : List UInt8) (h : l.few C B) : (l.put p x).2.few (C + 1) (B + x.length) := by
  cases l with
  | non => trivial
  | one crc s =>
    have h2 := put_few crc true p.W s x
    obtain ⟨a, b, c, d⟩ := h
    exact ⟨by omega, by omega, by omega, by omega⟩
  | files f =>
    obtain ⟨a, b, c, d⟩ := h
    show (Lod.files (putBR p f x).2).few _ _
    unfold putBR
    split
    · exact ⟨by simp only; omega, by simp only; omega, c, by simp only; omega⟩
    · have h2 := put_few true (clB f.k) p.W f.r x
      exact next_few p f _ _ _ ⟨by omega, by omega, by omega, by omega⟩
theorem Lod.few_tick {C B : Nat} {l : Lod} (p : BP Fl) (h : l.few C B) : (l.tick p).2.few C B := by
  cases l with
  | non => trivial
  | one crc s =>
    have h2 := tick_few crc p.W s
    obtain ⟨a, b, c, d⟩ := h
    exact ⟨by omega, by omega, by omega, by omega⟩
  | files f =>
    obtain ⟨a, b, c, d⟩ := h
    show (Lod.files (tickBR p f).2).few _ _
    unfold tickBR
    split
    · exact ⟨a, b, c, d⟩
    · have h2 := tick_few true p.W f.r
      exact next_few p f _ _ _ ⟨by omega, by omega, by omega, by omega⟩
/-- A batch that goes on waits for bytes. -/
def Lod.calm : Lod → Prop
  | .files b => b.ov = false → b.r.ov = false
  | _ => True
theorem next_calm (p : BP Fl) (b : Br Fl) (r : Rd) : (Lod.files (nextBR p b r)).calm := by
  show (nextBR p b r).ov = false → (nextBR p b r).r.ov = false
  unfold nextBR
  split
  · split
    · intro h; cases h
    split
    · split
      · intro _; rfl
      · intro h; cases h
    split
    · split
      · split
        · intro h; cases h
        · intro _; rfl
      · intro h; cases h
    · intro h; cases h
  · rename_i h; intro _; exact eq_false_of_ne_true h
theorem Lod.calm_put {l : Lod} (p : BP Fl) (x : List UInt8) (h : l.calm) : (l.put p x).2.calm := by
  cases l with
  | non => trivial
  | one crc s => trivial
  | files f =>
    show (Lod.files (putBR p f x).2).calm
    unfold putBR
    split
    · exact h
    · exact next_calm p f _
theorem Lod.calm_tick {l : Lod} (p : BP Fl) (h : l.calm) : (l.tick p).2.calm := by
  cases l with
  | non => trivial
  | one crc s => trivial
  | files f =>
    show (Lod.files (tickBR p f).2).calm
    unfold tickBR
    split
    · exact h
    · exact next_calm p f _
/-- What holds of a board between calls. -/
structure Ok20 (C B : Nat) (s : Bd) : Prop where
  ov : s.ld.ov = false
  ln : s.ln.length ≤ 80
  ad : s.ad < 4294967296
  st : s.st.length = 16384
  few : s.ld.few C B
  calm : s.ld.calm
theorem Ok20.mono {C B C' B' : Nat} {s : Bd} (h : Ok20 C B s) (h1 : C ≤ C') (h2 : B ≤ B') : Ok20 C' B' s := ⟨h.ov, h.ln, h.ad, h.st, Lod.few_mono h.few h1 h2, h.calm⟩
theorem begin_ok (p : BP Fl) (k C B : Nat) : (begin20 p k).ov = false ∧ (begin20 p k).few C B ∧ (begin20 p k).calm := by
  unfold begin20
  split
  · exact ⟨rfl, by simp [newBR, newR, Lod.few]; omega, fun _ => rfl⟩
  · exact ⟨rfl, by simp [newR, Lod.few]; omega, trivial⟩
theorem exec_ok {p : BP Fl} {C B : Nat} {s : Bd} (h : Ok20 C B s) (line : List UInt8) : Ok20 C B (exec20 p s line).2 := by
  unfold exec20
  split
  · exact h
  split
  · split
    · split
      · rename_i k a hk ha
        exact ⟨(begin_ok p _ C B).1, h.ln, (hexN_is ha).1, h.st, (begin_ok p _ C B).2.1, (begin_ok p _ C B).2.2⟩
      · exact h
    split
    · split
      · split
        · exact ⟨h.ov, h.ln, h.ad, h.st, h.few, h.calm⟩
        · exact h
      · exact h
    · exact h
  · exact h
theorem take_ok {p : BP Fl} {C B : Nat} {s : Bd} (h : Ok20 C B s) (c : UInt8) : Ok20 C B (take20 p s c).2 := by
  unfold take20
  split
  · exact ⟨h.ov, h.ln, h.ad, h.st, h.few, h.calm⟩
  split
  · exact exec_ok (s := { s with ln := [] }) ⟨h.ov, Nat.zero_le _, h.ad, h.st, h.few, h.calm⟩ _
  split
  · exact ⟨h.ov, by simp only [List.length_append, List.length_singleton]; omega, h.ad, h.st, h.few, h.calm⟩
  · exact h
theorem fin_ok {C B : Nat} {s : Bd} (h1 : s.ln.length ≤ 80) (h2 : s.ad < 4294967296) (h3 : s.st.length = 16384) (h4 : s.ld.few C B) (h5 : s.ld.calm) : Ok20 C B (fin20 s).2 := by
  unfold fin20
  split
  · rename_i h; exact ⟨h, h1, h2, h3, h4, h5⟩
  split
  · rename_i h; exact ⟨rfl, h1, h2, by simp only; rw [length_splice _ _ _ (by omega)]; exact h3, trivial, trivial⟩
  · exact ⟨rfl, h1, h2, h3, trivial, trivial⟩
theorem lput_ok {p : BP Fl} {C B : Nat} {s : Bd} (h : Ok20 C B s) (x : List UInt8) : Ok20 (C + 1) (B + x.length) (lput20 p s x).2 :=
  fin_ok h.ln h.ad h.st (Lod.few_put p x h.few) (Lod.calm_put p x h.calm)
theorem tick_ok {p : BP Fl} {C B : Nat} {s : Bd} (h : Ok20 C B s) : Ok20 C B (tick20 p s).2 := fin_ok h.ln h.ad h.st (Lod.few_tick p h.few) (Lod.calm_tick p h.calm)
theorem feed_ok {p : BP Fl} {C B : Nat} : ∀ (x : List UInt8) {s : Bd}, Ok20 C B s → Ok20 (C + 1) (B + x.length) (feed20 p s x).2
  | [], s, h => lput_ok h []
  | c :: r, s, h => by
    rw [feed20]
    split
    · exact (feed_ok r (take_ok h c)).mono (Nat.le_refl _) (by simp only [List.length_cons]; omega)
    · exact lput_ok h _
theorem new_ok : Ok20 0 0 new20 := ⟨rfl, Nat.zero_le _, by show 0 < 4294967296; omega, zeros_len _, trivial, trivial⟩
theorem put_none (crc cl : Bool) (W : Nat) (s : Rd) : putR crc cl W s [] = ([], s) := by unfold putR; rw [if_pos (.inr rfl)]
/-- Nothing comes to a load: nothing is told. -/
theorem lput_nil {p : BP Fl} {s : Bd} (h : s.ld.ov = false) (hc : s.ld.calm) : lput20 p s [] = ([], s) := by
  obtain ⟨aw, ln, ld, ad, rp, st⟩ := s
  cases ld with
  | non => rfl
  | one crc r =>
    have hr : r.ov = false := h
    simp only [lput20, Lod.put, put_none, fin20, Lod.ov, hr, if_true, List.append_nil]
  | files b =>
    have hb : b.ov = false := h
    have hr : b.r.ov = false := hc hb
    have hn : nextBR p b b.r = b := by unfold nextBR; rw [if_neg (by rw [hr]; simp)]
    have hp : putBR p b [] = ([], b) := by unfold putBR; rw [if_neg (by rw [hb]; simp), put_none]; simp only [hn]
    simp only [lput20, Lod.put, hp, fin20, Lod.ov, hb, if_true, List.append_nil]

/-! ### Whole lines -/
/-- Bytes without an end go to the line, as long as there is room. -/
theorem feed_line {p : BP Fl} (l r : List UInt8) (hl : ∀ c ∈ l, c ≠ 13) : ∀ {s : Bd}, s.aw = true → s.ld = .non → s.ln.length + l.length ≤ 80 → feed20 p s (l ++ r) = feed20 p { s with ln := s.ln ++ l } r := by
  induction l with
  | nil => intro s _ _ _; obtain ⟨aw, ln, ld, ad, rp, st⟩ := s; simp
  | cons c l ih =>
    intro s ha hn hs
    simp only [List.length_cons] at hs
    show feed20 p s (c :: (l ++ r)) = _
    have ht : take20 p s c = ([], { s with ln := s.ln ++ [c] }) := by
      unfold take20
      rw [if_neg (by rw [ha]; simp), if_neg (hl c (by simp)), if_pos (by omega)]
    rw [feed_take hn, ht]
    simp only [List.nil_append]
    rw [ih (fun x hx => hl x (by simp [hx])) (s := { s with ln := s.ln ++ [c] }) ha hn (by simp only [List.length_append, List.length_singleton]; omega)]
    simp
/-- A line of at most 80 bytes, and its end: what it does. -/
theorem feed_exec {p : BP Fl} {s : Bd} (l : List UInt8) (hl : ∀ c ∈ l, c ≠ 13) (ha : s.aw = true) (hn : s.ld = .non) (h0 : s.ln = []) (hs : l.length ≤ 80) (ho : (exec20 p s l).2.ld.ov = false) (hc : (exec20 p s l).2.ld.calm) : feed20 p s (l ++ [13]) = exec20 p s l := by
  rw [feed_line l [13] hl ha hn (by rw [h0]; simpa using hs), h0]
  have e : ({ s with ln := [] ++ l } : Bd).ld = .non := hn
  rw [feed_take e]
  have ht : take20 p { s with ln := [] ++ l } 13 = exec20 p s l := by
    unfold take20
    rw [if_neg (by simp [ha]), if_pos rfl]
    simp only [List.nil_append]
    congr 1
    obtain ⟨aw, ln, ld, ad, rp, st⟩ := s
    obtain rfl : ln = [] := h0
    rfl
  rw [ht]
  have h2 : feed20 p (exec20 p s l).2 [] = ([], (exec20 p s l).2) := lput_nil ho hc
  rw [h2, List.append_nil]
theorem sum_no : ∀ c ∈ wSum, c ≠ 32 ∧ c ≠ 13 := by decide
theorem load_no : ∀ c ∈ wLoad, c ≠ 32 ∧ c ≠ 13 := by decide
theorem way_noblank (k : Int) : (∀ c ∈ wayL k, c ≠ 32 ∧ c ≠ 13) ∧ (wayL k).length ≤ 5 := by
  unfold wayL
  split
  · decide
  split
  · decide
  split
  · decide
  · decide
theorem split_ask (a n : Nat) : splitW (askL a n) = [wSum, digL 16 a, digL 16 n] := by
  unfold askL
  rw [splitW_word _ _ (fun c hc => (sum_no c hc).1), splitW_word _ _ (fun c hc => (dig_no hc).1), splitW_one _ (fun c hc => (dig_no hc).1)]
theorem split_load (k : Int) (a : Nat) : splitW (loadL k a) = [wLoad, wayL k, digL 16 a] := by
  unfold loadL
  rw [splitW_word _ _ (fun c hc => (load_no c hc).1), splitW_word _ _ (fun c hc => ((way_noblank k).1 c hc).1), splitW_one _ (fun c hc => (dig_no hc).1)]
theorem exec_ask {p : BP Fl} {s : Bd} {a n : Nat} (ha : a < 4294967296) (hn : n < 4294967296) : exec20 p s (askL a n) = if a + n ≤ 16384 then (lin20 a n (prNum (prL (getL s.st a n))) ++ promptL, { s with rp := s.rp ++ [(a, n, prNum (prL (getL s.st a n)))] }) else (noL, s) := by
  unfold exec20
  rw [if_neg (by simp [askL, wSum]), split_ask]
  simp only [hexN_dig ha, hexN_dig hn]
  rw [if_neg (by decide), if_pos trivial]
theorem way_of20 (k : Nat) (h : k ≤ 3) : wayOf (wayL k) = some k := by
  rcases (by omega : k = 0 ∨ k = 1 ∨ k = 2 ∨ k = 3) with rfl | rfl | rfl | rfl <;> decide
theorem exec_load {p : BP Fl} {s : Bd} {k a : Nat} (hk : k ≤ 3) (ha : a < 4294967296) : exec20 p s (loadL k a) = ([], { s with ad := a, ld := begin20 p k }) := by
  unfold exec20
  rw [if_neg (by simp [loadL, wLoad]), split_load]
  simp only [hexN_dig ha, way_of20 k hk, if_true]
/-- A line that begins with a query is none. -/
theorem exec_query {p : BP Fl} {s : Bd} (l : List UInt8) : exec20 p s (63 :: l) = (noL, s) := by
  unfold exec20
  rw [if_neg (by simp)]
  obtain ⟨a, t, e⟩ := splitW_head 63 l (by decide)
  rw [e]
  rcases t with _ | ⟨y, t⟩
  · rfl
  rcases t with _ | ⟨z, t⟩
  · rfl
  rcases t with _ | ⟨u, t⟩
  · simp only
    rw [if_neg (by simp [wLoad]), if_neg (by simp [wSum])]
  · rfl
theorem ask_no {a n : Nat} : ∀ c ∈ askL a n, c ≠ 13 := by
  intro c hc
  unfold askL at hc
  simp only [List.mem_append, List.mem_cons] at hc
  rcases hc with h | rfl | h | rfl | h
  · exact (sum_no c h).2
  · decide
  · exact (dig_no h).2.1
  · decide
  · exact (dig_no h).2.1
theorem loadL_no {k : Int} {a : Nat} : ∀ c ∈ loadL k a, c ≠ 13 := by
  intro c hc
  unfold loadL at hc
  simp only [List.mem_append, List.mem_cons] at hc
  rcases hc with h | rfl | h | rfl | h
  · exact (load_no c h).2
  · decide
  · exact ((way_noblank k).1 c h).2
  · decide
  · exact (dig_no h).2.1
theorem feed_ask {p : BP Fl} {s : Bd} {a n : Nat} (ha : a < 4294967296) (hn : n < 4294967296) (h1 : s.aw = true) (h2 : s.ld = .non) (h3 : s.ln = []) : feed20 p s (askL a n ++ [13]) = if a + n ≤ 16384 then (lin20 a n (prNum (prL (getL s.st a n))) ++ promptL, { s with rp := s.rp ++ [(a, n, prNum (prL (getL s.st a n)))] }) else (noL, s) := by
  have e := exec_ask (p := p) (s := s) ha hn
  rw [feed_exec _ ask_no h1 h2 h3 (by
    have := dig_eight ha; have := dig_eight hn
    unfold askL wSum; simp only [List.length_append, List.length_cons, List.length_nil]; omega) (by
    rw [e]; split <;> (simp only [h2]; rfl)) (by
    rw [e]; split <;> (simp only [h2]; trivial)), e]
theorem feed_loadL {p : BP Fl} {s : Bd} {k a : Nat} (hk : k ≤ 3) (ha : a < 4294967296) (h1 : s.aw = true) (h2 : s.ld = .non) (h3 : s.ln = []) : feed20 p s (loadL k a ++ [13]) = ([], { s with ad := a, ld := begin20 p k }) := by
  have e := exec_load (p := p) (s := s) hk ha
  rw [feed_exec _ loadL_no h1 h2 h3 (by
    have := dig_eight ha; have := (way_noblank k).2
    unfold loadL wLoad; simp only [List.length_append, List.length_cons, List.length_nil]; omega) (by
    rw [e]; exact (begin_ok p k 0 0).1) (by rw [e]; exact (begin_ok p k 0 0).2.2), e]


/-- The line of a reply. -/
def linR (r : Nat × Nat × Nat) : List UInt8 := lin20 r.1 r.2.1 r.2.2
inductive Tol20 : List UInt8 → List (Nat × Nat × Nat) → Prop
  | nil : Tol20 [] []
  | free {c : UInt8} {l : List UInt8} {rs : List (Nat × Nat × Nat)} (hc : c ≠ 115) (h : Tol20 l rs) : Tol20 (c :: l) rs
  | line {r : Nat × Nat × Nat} {l : List UInt8} {rs : List (Nat × Nat × Nat)} (h : Tol20 l rs) : Tol20 (linR r ++ l) (r :: rs)
theorem Tol20.frees {l : List UInt8} {rs : List (Nat × Nat × Nat)} (h : Tol20 l rs) : ∀ (a : List UInt8), (∀ c ∈ a, c ≠ 115) → Tol20 (a ++ l) rs
  | [], _ => h
  | c :: a, ha => .free (ha c (by simp)) (Tol20.frees h a (fun x hx => ha x (by simp [hx])))
theorem Tol20.only {a : List UInt8} (ha : ∀ c ∈ a, c ≠ 115) : Tol20 a [] := by
  have := Tol20.frees .nil a ha
  rwa [List.append_nil] at this
theorem Tol20.app {a b : List UInt8} {r s : List (Nat × Nat × Nat)} (h : Tol20 a r) (h2 : Tol20 b s) : Tol20 (a ++ b) (r ++ s) := by
  induction h with
  | nil => exact h2
  | free hc h ih => exact .free hc ih
  | line h ih => rw [List.append_assoc]; exact .line ih
/-- A reply's line without its first letter. -/
theorem lin_tail (r : Nat × Nat × Nat) : ∃ u, linR r = 115 :: u ∧ ∀ c ∈ u, c ≠ 115 := by
  refine ⟨[117, 109, 32] ++ (digL 16 r.1 ++ 32 :: (digL 16 r.2.1 ++ 32 :: (digL 16 r.2.2 ++ [13, 10]))), rfl, fun c hc => ?_⟩
  simp only [List.mem_append, List.mem_cons, List.not_mem_nil, or_false] at hc
  rcases hc with (rfl | rfl | rfl) | h | rfl | h | rfl | h | rfl | rfl
  all_goals first
    | decide
    | exact (dig_no h).2.2
theorem lin_many (r : Nat × Nat × Nat) : 8 ≤ (linR r).length := by
  have d : ∀ n, 1 ≤ (digL 16 n).length := fun n => by
    have := digL_ne 16 n
    cases h : digL 16 n with
    | nil => exact absurd h this
    | cons a t => simp
  have := d r.1
  unfold linR lin20
  simp only [List.length_append, List.length_cons, List.length_nil]
  omega
/-- One step along what is told. -/
theorem Tol20.step {c : UInt8} {l : List UInt8} {rs : List (Nat × Nat × Nat)} (h : Tol20 (c :: l) rs) : (c ≠ 115 ∧ Tol20 l rs) ∨ ∃ r t m, rs = r :: t ∧ c :: l = linR r ++ m ∧ Tol20 l t := by
  generalize hx : c :: l = x at h
  cases h with
  | nil => cases hx
  | free hc h =>
    injection hx with e1 e2
    subst e1 e2
    exact .inl ⟨hc, h⟩
  | line h =>
    rename_i r m rs
    refine .inr ⟨r, rs, m, rfl, rfl, ?_⟩
    obtain ⟨u, hu, hn⟩ := lin_tail r
    rw [hu, List.cons_append] at hx
    injection hx with e1 e2
    rw [e2]
    exact h.frees u hn
theorem Tol20.few {l : List UInt8} {rs : List (Nat × Nat × Nat)} (h : Tol20 l rs) (hl : l.length < 8) : rs = [] := by
  induction h with
  | nil => rfl
  | free hc h ih => exact ih (by simp only [List.length_cons] at hl; omega)
  | line h ih => rename_i r l rs; have := lin_many r; rw [List.length_append] at hl; omega

/-! ### What receivers answer -/
theorem freeB {l : List UInt8} (h : (l.all fun c => decide (c ≠ 115)) = true) : ∀ c ∈ l, c ≠ 115 := fun c hc => of_decide_eq_true (List.all_eq_true.1 h c hc)
theorem fin_free (cl : Bool) (s : Rd) : ∀ c ∈ (finR cl s).1, c ≠ 115 := by unfold finR; split <;> exact freeB rfl
theorem take_free (cl : Bool) (s : Rd) (n : UInt8) (d : List UInt8) : ∀ c ∈ (takeR cl s n d).1, c ≠ 115 := by
  unfold takeR
  split
  · exact fin_free _ _
  split
  · exact freeB rfl
  · exact fin_free _ _
theorem put_free (crc cl : Bool) (W : Nat) (s : Rd) (x : List UInt8) : ∀ c ∈ (putR crc cl W s x).1, c ≠ 115 := by
  unfold putR seeR scanR
  split
  · exact freeB rfl
  split
  · exact freeB rfl
  split
  · exact freeB rfl
  split
  · exact freeB rfl
  split
  · exact freeB rfl
  split
  · exact freeB rfl
  · exact take_free _ _ _ _
theorem tick_free (crc : Bool) (W : Nat) (s : Rd) : ∀ c ∈ (tickR crc W s).1, c ≠ 115 := by
  unfold tickR askR
  split
  · exact freeB rfl
  split
  · exact freeB rfl
  split
  · exact freeB rfl
  split
  · exact freeB rfl
  · cases crc <;> exact freeB rfl
theorem Lod.put_free (p : BP Fl) (l : Lod) (x : List UInt8) : ∀ c ∈ (l.put p x).1, c ≠ 115 := by
  cases l with
  | non => intro c hc; cases hc
  | one crc s => exact Proofs.YtonloefjhofeeaaGreatDoor.put_free _ _ _ _ _
  | files b =>
    show ∀ c ∈ (putBR p b x).1, c ≠ 115
    unfold putBR
    split
    · intro c hc; cases hc
    · exact Proofs.YtonloefjhofeeaaGreatDoor.put_free _ _ _ _ _
theorem Lod.tick_free (p : BP Fl) (l : Lod) : ∀ c ∈ (l.tick p).1, c ≠ 115 := by
  cases l with
  | non => intro c hc; cases hc
  | one crc s => exact Proofs.YtonloefjhofeeaaGreatDoor.tick_free _ _ _
  | files b =>
    show ∀ c ∈ (tickBR p b).1, c ≠ 115
    unfold tickBR
    split
    · intro c hc; cases hc
    · exact Proofs.YtonloefjhofeeaaGreatDoor.tick_free _ _ _
theorem fin20_free (s : Bd) : (∀ c ∈ (fin20 s).1, c ≠ 115) ∧ (fin20 s).2.rp = s.rp := by
  unfold fin20
  split
  · exact ⟨freeB rfl, rfl⟩
  split
  · exact ⟨freeB rfl, rfl⟩
  · exact ⟨freeB rfl, rfl⟩
theorem pr_u32 (bs : List UInt8) : prNum (prL bs) < 4294967296 := by
  have h := pr_lt bs
  unfold prNum
  omega
/-- What is told, and the replies that are told with it. -/
def Rsm (r : Nat × Nat × Nat) : Prop := r.1 < 4294967296 ∧ r.2.1 < 4294967296 ∧ r.2.2 < 4294967296
def Adds (out : List UInt8) (s s' : Bd) : Prop := ∃ rs, s'.rp = s.rp ++ rs ∧ Tol20 out rs ∧ ∀ r ∈ rs, Rsm r
theorem Adds.none_ {out : List UInt8} {s s' : Bd} (h : s'.rp = s.rp) (hf : ∀ c ∈ out, c ≠ 115) : Adds out s s' := ⟨[], by rw [h, List.append_nil], Tol20.only hf, fun r hr => absurd hr (by simp)⟩
theorem Adds.trans {a b : List UInt8} {s s' s'' : Bd} (h : Adds a s s') (h2 : Adds b s' s'') : Adds (a ++ b) s s'' := by
  obtain ⟨r, e1, t1, m1⟩ := h
  obtain ⟨q, e2, t2, m2⟩ := h2
  exact ⟨r ++ q, by rw [e2, e1, List.append_assoc], t1.app t2, fun x hx => (List.mem_append.1 hx).elim (m1 x) (m2 x)⟩
theorem lput_adds (p : BP Fl) (s : Bd) (x : List UInt8) : Adds (lput20 p s x).1 s (lput20 p s x).2 := by
  have h := fin20_free { s with ld := (s.ld.put p x).2 }
  exact Adds.none_ h.2 (fun c hc => by
    rcases List.mem_append.1 hc with h1 | h1
    · exact Lod.put_free p s.ld x c h1
    · exact h.1 c h1)
theorem tick_adds (p : BP Fl) (s : Bd) : Adds (tick20 p s).1 s (tick20 p s).2 := by
  have h := fin20_free { s with ld := (s.ld.tick p).2 }
  exact Adds.none_ h.2 (fun c hc => by
    rcases List.mem_append.1 hc with h1 | h1
    · exact Lod.tick_free p s.ld c h1
    · exact h.1 c h1)
theorem exec_adds (p : BP Fl) (s : Bd) (l : List UInt8) : Adds (exec20 p s l).1 s (exec20 p s l).2 := by
  unfold exec20
  split
  · exact Adds.none_ rfl (freeB rfl)
  split
  · split
    · split
      · exact Adds.none_ rfl (freeB rfl)
      · exact Adds.none_ rfl (freeB rfl)
    split
    · split
      · rename_i a n ha hn
        split
        · exact ⟨[(a, n, prNum (prL (getL s.st a n)))], rfl, by
            have h : Tol20 (linR (a, n, prNum (prL (getL s.st a n))) ++ promptL) [(a, n, prNum (prL (getL s.st a n)))] := .line (Tol20.only (freeB rfl))
            exact h, fun r hr => by
            obtain rfl := List.mem_singleton.1 hr
            exact ⟨(hexN_is ha).1, (hexN_is hn).1, pr_u32 _⟩⟩
        · exact Adds.none_ rfl (freeB rfl)
      · exact Adds.none_ rfl (freeB rfl)
    · exact Adds.none_ rfl (freeB rfl)
  · exact Adds.none_ rfl (freeB rfl)
theorem take_adds (p : BP Fl) (s : Bd) (c : UInt8) : Adds (take20 p s c).1 s (take20 p s c).2 := by
  unfold take20
  split
  · exact Adds.none_ rfl (freeB rfl)
  split
  · have h := exec_adds p { s with ln := [] } s.ln
    obtain ⟨rs, e, t, m⟩ := h
    exact ⟨rs, e, t, m⟩
  split
  · exact Adds.none_ rfl (freeB rfl)
  · exact Adds.none_ rfl (freeB rfl)
theorem feed_adds (p : BP Fl) : ∀ (x : List UInt8) (s : Bd), Adds (feed20 p s x).1 s (feed20 p s x).2
  | [], s => lput_adds p s []
  | c :: r, s => by
    rw [feed20]
    split
    · exact (take_adds p s c).trans (feed_adds p r _)
    · exact lput_adds p s _

/-! ### Along what was told, as the law goes -/
theorem tol_next {told : List UInt8} {rp : List (Nat × Nat × Nat)} {k n : Nat} (h : Tol20 (told.drop k) (rp.drop n)) (hk : k + 4 ≤ told.length) :
    ((told.drop k).take 4 ≠ [115, 117, 109, 32] ∧ Tol20 (told.drop (k + 1)) (rp.drop n)) ∨
    ∃ r, rp[n]? = some r ∧ (told.drop k).take 4 = [115, 117, 109, 32] ∧ k + (linR r).length ≤ told.length ∧ (told.drop k).take (linR r).length = linR r ∧ Tol20 (told.drop (k + 1)) (rp.drop (n + 1)) := by
  have hl : k < told.length := by omega
  have hd := List.drop_eq_getElem_cons hl
  rw [hd] at h
  rcases h.step with ⟨h1, h2⟩ | ⟨r, t, m, e1, e2, h2⟩
  · refine .inl ⟨?_, h2⟩
    rw [hd]
    intro e
    rw [List.take_succ_cons] at e
    injection e with e1 _
    exact h1 e1
  · have hn : n < rp.length := by
      rcases Nat.lt_or_ge n rp.length with q | q
      · exact q
      · rw [List.drop_of_length_le q] at e1; cases e1
    rw [List.drop_eq_getElem_cons hn] at e1
    injection e1 with e3 e4
    rw [← hd] at e2
    have hlen : (told.drop k).length = told.length - k := List.length_drop
    have hlm : told.length - k = (linR r).length + m.length := by rw [← hlen, e2, List.length_append]
    refine .inr ⟨r, by rw [List.getElem?_eq_getElem hn, e3], ?_, by omega, by rw [e2, List.take_left'] ; rfl, by rw [e4]; exact h2⟩
    rw [e2]
    show (List.take 4 (lin20 r.1 r.2.1 r.2.2 ++ m)) = _
    unfold lin20
    rfl
theorem tol_end {told : List UInt8} {rp : List (Nat × Nat × Nat)} {k n : Nat} (h : Tol20 (told.drop k) (rp.drop n)) (hk : told.length < k + 4) (hn : n ≤ rp.length) : n = rp.length := by
  have h1 := h.few (by rw [List.length_drop]; omega)
  have h2 := List.drop_eq_nil_iff.1 h1
  omega
end Go.Proofs.YtonloefjhofeeaaGreatDoor
