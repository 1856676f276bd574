/-
  A sender and a receiver of files, plain: three parts each; how they talk.
-/
import Derived.Test.YtgdjopiejmdbnaaGreatDoorLinkPlain
namespace Go.Proofs.YtgdjopiejmdbnaaGreatDoor
set_option linter.unusedVariables false

/-- What a batch is of: tries and ticks, the blocks of the three parts; what data tell, and how many bytes that is; what tells that nothing more comes. -/
structure BP (φ : Type) where
  T : Nat
  W : Nat
  b0 : Bks
  b1 : Bks
  b2 : Bks
  rd : List UInt8 → Option φ
  sz : φ → Nat
  en : List UInt8 → Bool
def blkB {φ : Type} (p : BP φ) : Nat → Bks
  | 0 => p.b0
  | 1 => p.b1
  | _ => p.b2
/-- Which parts end with an end. -/
def clB (k : Nat) : Bool := k == 1
structure Bs where
  k : Nat
  s : Sd
  ov : Bool
  er : Nat
def nextBS {φ : Type} (p : BP φ) (b : Bs) (s : Sd) : Bs :=
  if s.ph = 3 then (if s.err ≠ 0 ∨ b.k = 2 then ⟨b.k, s, true, s.err⟩ else ⟨b.k + 1, newS p.W true, false, 0⟩) else ⟨b.k, s, false, 0⟩
def putBS {φ : Type} (p : BP φ) (b : Bs) (c : UInt8) : List UInt8 × Bs :=
  if b.ov = true then ([], b) else ((putS (blkB p b.k) p.T p.W (clB b.k) b.s c).1, nextBS p b (putS (blkB p b.k) p.T p.W (clB b.k) b.s c).2)
def tickBS {φ : Type} (p : BP φ) (b : Bs) : List UInt8 × Bs :=
  if b.ov = true then ([], b) else ((tickS (blkB p b.k) p.T p.W b.s).1, nextBS p b (tickS (blkB p b.k) p.T p.W b.s).2)
structure Br (φ : Type) where
  k : Nat
  r : Rd
  ov : Bool
  er : Nat
  fi : Option φ
  da : List UInt8
def nextBR {φ : Type} (p : BP φ) (b : Br φ) (r : Rd) : Br φ :=
  if r.ov = true then
    if r.er ≠ 0 then { b with r := r, ov := true, er := r.er }
    else if b.k = 0 then
      match p.rd r.da with
      | some f => ⟨1, newR 1 1 p.T, false, 0, some f, []⟩
      | none => { b with r := r, ov := true, er := 14 }
    else if b.k = 1 then
      match b.fi with
      | some f => if r.da.length < p.sz f then { b with r := r, ov := true, er := 13 } else ⟨2, newR 0 1 p.T, false, 0, some f, r.da.take (p.sz f)⟩
      | none => { b with r := r, ov := true, er := 13 }
    else { b with r := r, ov := true, er := if p.en r.da then 0 else 14 }
  else { b with r := r }
def putBR {φ : Type} (p : BP φ) (b : Br φ) (x : List UInt8) : List UInt8 × Br φ :=
  if b.ov = true then ([], b) else ((putR true (clB b.k) p.W b.r x).1, nextBR p b (putR true (clB b.k) p.W b.r x).2)
def tickBR {φ : Type} (p : BP φ) (b : Br φ) : List UInt8 × Br φ :=
  if b.ov = true then ([], b) else ((tickR true p.W b.r).1, nextBR p b (tickR true p.W b.r).2)
def newBS {φ : Type} (p : BP φ) : Bs := ⟨0, newS p.W true, false, 0⟩
def newBR {φ : Type} (p : BP φ) : Br φ := ⟨0, newR 0 1 p.T, false, 0, none, []⟩
def feedBS {φ : Type} (p : BP φ) : Bs → List UInt8 → Bs
  | b, [] => b
  | b, c :: r => feedBS p (putBS p b c).2 r
def feedBO {φ : Type} (p : BP φ) : Bs → List UInt8 → List UInt8
  | _, [] => []
  | b, c :: r => (putBS p b c).1 ++ feedBO p (putBS p b c).2 r
/-- Both, and what travels up. -/
structure Tk (φ : Type) where
  s : Bs
  r : Br φ
  up : List UInt8
/-- A tick of the talk. -/
def stepT {φ : Type} (p : BP φ) (x : Tk φ) : Tk φ :=
  let u := x.up ++ (tickBR p x.r).1
  let d := (tickBS p x.s).1 ++ feedBO p (tickBS p x.s).2 u
  if d = [] then ⟨feedBS p (tickBS p x.s).2 u, (tickBR p x.r).2, []⟩
  else ⟨feedBS p (tickBS p x.s).2 u, (putBR p (tickBR p x.r).2 d).2, (putBR p (tickBR p x.r).2 d).1⟩
def runT {φ : Type} (p : BP φ) : Nat → Tk φ → Tk φ
  | 0, x => x
  | n + 1, x => runT p n (stepT p x)
theorem runT_add {φ : Type} (p : BP φ) : ∀ (m n : Nat) (x : Tk φ), runT p (m + n) x = runT p n (runT p m x)
  | 0, n, x => by rw [Nat.zero_add]; rfl
  | m + 1, n, x => by rw [show m + 1 + n = (m + n) + 1 by omega]; exact runT_add p m n (stepT p x)
theorem stepT_some {φ : Type} {p : BP φ} {x : Tk φ} {o d0 d1 d a : List UInt8} {r1 r2 : Br φ} {s1 s2 : Bs} (hr : tickBR p x.r = (o, r1)) (ht : tickBS p x.s = (d0, s1)) (hf : feedBO p s1 (x.up ++ o) = d1) (hs : feedBS p s1 (x.up ++ o) = s2) (hd : d0 ++ d1 = d) (hne : d ≠ []) (hp : putBR p r1 d = (a, r2)) : stepT p x = ⟨s2, r2, a⟩ := by
  unfold stepT
  simp only [hr, ht, hf, hs, hd, if_neg hne, hp]
theorem stepT_none {φ : Type} {p : BP φ} {x : Tk φ} {o d0 d1 : List UInt8} {r1 : Br φ} {s1 s2 : Bs} (hr : tickBR p x.r = (o, r1)) (ht : tickBS p x.s = (d0, s1)) (hf : feedBO p s1 (x.up ++ o) = d1) (hs : feedBS p s1 (x.up ++ o) = s2) (hd : d0 ++ d1 = []) : stepT p x = ⟨s2, r1, []⟩ := by
  unfold stepT
  simp only [hr, ht, hf, hs, hd, if_pos]

/-- What is asked of a batch's parts. -/
structure BOk {φ : Type} (p : BP φ) (head tail : List UInt8) (f : φ) : Prop where
  T1 : 1 ≤ p.T
  W2 : 2 ≤ p.W
  b0 : p.b0 = [(0, head)]
  b2 : p.b2 = [(0, tail)]
  h0 : head.length = 128 ∨ head.length = 1024
  h2 : tail.length = 128 ∨ tail.length = 1024
  num : ∀ (j : Nat) (b : UInt8 × List UInt8), p.b1[j]? = some b → b.1 = UInt8.ofNat (j + 1) ∧ (b.2.length = 128 ∨ b.2.length = 1024)
  few : p.b1.length ≤ 250
  rd : p.rd head = some f
  en : p.en tail = true
  sz : p.sz f ≤ ((p.b1.map (·.2)).flatten).length
/-- The second part's talk. -/
def lpB {φ : Type} (p : BP φ) : LP := ⟨p.b1, p.T, p.W, true, p.W⟩
theorem BOk.lok {φ : Type} {p : BP φ} {head tail : List UInt8} {f : φ} (h : BOk p head tail f) : LOk (lpB p) := ⟨h.num, h.few, h.T1⟩

/-- A part of one block: its sender at the block. -/
def oneS (p : Nat) (W : Nat) : Sd := ⟨1, 0, true, 0, 1, W, false⟩
theorem one_start {bl : Bks} {d : List UInt8} {T W a : Nat} (hb : bl = [(0, d)]) (hd : d.length = 128 ∨ d.length = 1024) : putS bl T W false ⟨0, 0, true, 0, 1, a, false⟩ 67 = (enc 0 d true, oneS 0 W) := by
  subst hb
  unfold putS
  rw [if_neg (by simp), if_neg (by simp), if_pos (by rfl), if_pos (.inr ⟨rfl, rfl⟩)]
  unfold goS
  rw [if_pos (by simp)]
  unfold sendS
  rw [if_pos rfl]
  have ho : encOk d = true := by rcases hd with e | e <;> simp [encOk, e]
  simp only [List.getElem?_cons_zero, ho, if_true]
  rfl
theorem one_ack {bl : Bks} {d : List UInt8} {T W a : Nat} (hb : bl = [(0, d)]) : putS bl T W false ⟨1, 0, true, 0, 1, a, false⟩ 6 = ([], ⟨3, 1, true, 0, 1, W, false⟩) := by
  subst hb
  unfold putS
  rw [if_neg (by simp), if_neg (by simp), if_neg (by simp), if_pos rfl]
  unfold goS
  rw [if_neg (by simp), if_neg (by simp)]
  rfl
/-- A receiver that has asked once. -/
def askd (number : UInt8) (T V : Nat) : Rd := ⟨number, 1, T - 1, V, [], [], false, 0⟩
theorem new_ask {V : Nat} {number : UInt8} {T : Nat} (hT : 1 ≤ T) : tickR true V (newR number 1 T) = ([67], askd number T V) := by
  unfold tickR askR newR
  rw [if_neg (by simp), if_neg (by simp), if_neg (by simp), if_neg (by show ¬ T = 0; omega)]
  rfl
theorem one_take {d : List UInt8} {T V W : Nat} (hd : d.length = 128 ∨ d.length = 1024) : putR true false V (askd 0 T W) (enc 0 d true) = ([6], ⟨1, 0, T - 1, V, [], d, true, 0⟩) := by
  rw [put_block true false V _ 0 d hd rfl rfl]
  unfold takeR askd
  simp only
  rw [if_pos trivial]
  unfold finR
  simp only
  rw [if_pos ⟨trivial, by omega⟩]
  rfl
theorem stick_wait {bl : Bks} {T W : Nat} {s : Sd} (h3 : s.ph ≠ 3) (hw : 1 < s.wait) : tickS bl T W s = ([], { s with wait := s.wait - 1 }) := by
  unfold tickS
  rw [if_neg h3, if_pos hw]
theorem feedB_one {φ : Type} (p : BP φ) (b : Bs) (c : UInt8) : feedBO p b [c] = (putBS p b c).1 ∧ feedBS p b [c] = (putBS p b c).2 := ⟨by simp [feedBO], rfl⟩
theorem feedB_two {φ : Type} (p : BP φ) (b : Bs) (c e : UInt8) : feedBO p b [c, e] = (putBS p b c).1 ++ (putBS p (putBS p b c).2 e).1 ∧ feedBS p b [c, e] = (putBS p (putBS p b c).2 e).2 := ⟨by simp [feedBO], rfl⟩
theorem enc_ne (n : UInt8) (d : List UInt8) (crc : Bool) : enc n d crc ≠ [] := by simp [enc]

section
variable {φ : Type} {p : BP φ} {head tail : List UInt8} {f : φ}
/-- Behind the first part's block. -/
def after0 (p : BP φ) (f : φ) : Tk φ := ⟨⟨0, oneS 0 p.W, false, 0⟩, ⟨1, newR 1 1 p.T, false, 0, some f, []⟩, [6]⟩
theorem step0 (h : BOk p head tail f) : stepT p ⟨newBS p, newBR p, []⟩ = after0 p f := by
  have hT := h.T1
  have hW := h.W2
  have e1 : tickBR p (newBR p) = ([67], ⟨0, askd 0 p.T p.W, false, 0, none, []⟩) := by
    unfold tickBR newBR
    rw [if_neg (by simp)]
    simp only
    rw [new_ask hT]
    rfl
  have e2 : tickBS p (newBS p) = ([], ⟨0, ⟨0, 0, true, 0, 1, p.W - 1, false⟩, false, 0⟩) := by
    unfold tickBS newBS
    rw [if_neg (by simp)]
    simp only
    rw [stick_wait (by simp [newS]) (by show 1 < p.W; omega)]
    rfl
  have e3 : putBS p ⟨0, ⟨0, 0, true, 0, 1, p.W - 1, false⟩, false, 0⟩ 67 = (enc 0 head true, ⟨0, oneS 0 p.W, false, 0⟩) := by
    unfold putBS
    rw [if_neg (by simp)]
    show ((putS (blkB p 0) p.T p.W false _ 67).1, nextBS p _ (putS (blkB p 0) p.T p.W false _ 67).2) = _
    rw [one_start (d := head) (show blkB p 0 = _ from h.b0) h.h0]
    rfl
  refine stepT_some (o := [67]) (d0 := []) (d1 := enc 0 head true) (d := enc 0 head true) e1 e2 (by rw [List.nil_append, (feedB_one _ _ _).1, e3]) (by rw [List.nil_append, (feedB_one _ _ _).2, e3]) rfl (enc_ne _ _ _) ?_
  unfold putBR
  rw [if_neg (by simp)]
  show ((putR true false p.W _ (enc 0 head true)).1, nextBR p _ (putR true false p.W _ (enc 0 head true)).2) = _
  rw [one_take h.h0]
  unfold nextBR
  rw [if_pos rfl, if_neg (by simp), if_pos rfl, h.rd]
/-- In the second part: piece k has been taken. -/
def in1 (p : BP φ) (f : φ) (k : Nat) : Tk φ := ⟨⟨1, sat (lpB p) k 1 p.W, false, 0⟩, if k < p.b1.length then ⟨1, rat (lpB p) (k + 1) (p.T - 1) p.W [], false, 0, some f, []⟩ else ⟨2, newR 0 1 p.T, false, 0, some f, ((p.b1.map (·.2)).flatten).take (p.sz f)⟩, [6]⟩
theorem next1 {r r0 : Rd} (h1 : r.ov = true) (h2 : r.er = 0) (h3 : ¬ r.da.length < p.sz f) : nextBR p ⟨1, r0, false, 0, some f, []⟩ r = ⟨2, newR 0 1 p.T, false, 0, some f, r.da.take (p.sz f)⟩ := by
  unfold nextBR
  simp [h1, h2, h3]
theorem br_put1 (h : BOk p head tail f) {k c : Nat} (hk : k ≤ p.b1.length) : putBR p ⟨1, rat (lpB p) k (p.T - 1) c [], false, 0, some f, []⟩ (pc (lpB p) k) = ([6], (in1 p f k).r) := by
  have e := took_put h.lok (tr := p.T - 1) (c := c) (show k ≤ (lpB p).bl.length from hk)
  unfold putBR
  rw [if_neg (by simp)]
  show ((putR true true p.W _ (pc (lpB p) k)).1, nextBR p _ (putR true true p.W _ (pc (lpB p) k)).2) = _
  have e' : putR true true p.W (rat (lpB p) k (p.T - 1) c []) (pc (lpB p) k) = ([6], took (lpB p) k (p.T - 1)) := e
  rw [e']
  unfold in1
  by_cases hkl : k < p.b1.length
  · have e2 : took (lpB p) k (p.T - 1) = rat (lpB p) (k + 1) (p.T - 1) p.W [] := by unfold took; rw [if_pos (show k < (lpB p).bl.length from hkl)]; rfl
    rw [e2, if_pos hkl]
    rfl
  · obtain rfl : k = p.b1.length := by omega
    have e2 : took (lpB p) p.b1.length (p.T - 1) = stopR (rat (lpB p) p.b1.length (p.T - 1) p.W [4]) 0 := by unfold took; rw [if_neg (show ¬ p.b1.length < (lpB p).bl.length from Nat.lt_irrefl _)]; rfl
    rw [e2, if_neg (Nat.lt_irrefl _)]
    have hda : (stopR (rat (lpB p) p.b1.length (p.T - 1) p.W [4]) 0).da = (p.b1.map (·.2)).flatten := flat_all (lpB p)
    show (([6] : List UInt8), nextBR p _ (stopR (rat (lpB p) p.b1.length (p.T - 1) p.W [4]) 0)) = _
    rw [next1 rfl rfl (by rw [hda]; have := h.sz; omega), hda]
theorem tick_sat1 (h : BOk p head tail f) {k : Nat} : tickBS p ⟨1, sat (lpB p) k 1 p.W, false, 0⟩ = ([], ⟨1, sat (lpB p) k 1 (p.W - 1), false, 0⟩) := by
  have hW := h.W2
  unfold tickBS
  rw [if_neg (by simp)]
  have e : tickS (blkB p 1) p.T p.W (sat (lpB p) k 1 p.W) = ([], sat (lpB p) k 1 (p.W - 1)) := tick_more (p := lpB p) (by omega)
  show ((tickS (blkB p 1) p.T p.W (sat (lpB p) k 1 p.W)).1, nextBS p _ (tickS (blkB p 1) p.T p.W (sat (lpB p) k 1 p.W)).2) = _
  rw [e]
  unfold nextBS
  rw [if_neg (sat3 _ _ _ _)]
theorem step1 (h : BOk p head tail f) : stepT p (after0 p f) = in1 p f 0 := by
  have hT := h.T1
  have hW := h.W2
  have e1 : tickBR p (after0 p f).r = ([67], ⟨1, rat (lpB p) 0 (p.T - 1) p.W [], false, 0, some f, []⟩) := by
    unfold tickBR after0
    rw [if_neg (by simp)]
    simp only
    rw [new_ask hT]
    rfl
  have e2 : tickBS p (after0 p f).s = ([], ⟨0, ⟨1, 0, true, 0, 1, p.W - 1, false⟩, false, 0⟩) := by
    unfold tickBS after0 oneS
    rw [if_neg (by simp)]
    simp only
    rw [stick_wait (by simp) (by show 1 < p.W; omega)]
    rfl
  have e3 : putBS p ⟨0, ⟨1, 0, true, 0, 1, p.W - 1, false⟩, false, 0⟩ 6 = ([], ⟨1, newS p.W true, false, 0⟩) := by
    unfold putBS
    rw [if_neg (by simp)]
    show ((putS (blkB p 0) p.T p.W false _ 6).1, nextBS p _ (putS (blkB p 0) p.T p.W false _ 6).2) = _
    rw [one_ack (d := head) (show blkB p 0 = _ from h.b0)]
    rfl
  have e4 : putBS p ⟨1, newS p.W true, false, 0⟩ 67 = (pc (lpB p) 0, ⟨1, sat (lpB p) 0 1 p.W, false, 0⟩) := by
    have e := put_start h.lok p.W
    have e' : putS (blkB p 1) p.T p.W true (newS p.W true) 67 = (pc (lpB p) 0, sat (lpB p) 0 1 p.W) := e
    unfold putBS
    rw [if_neg (by simp)]
    show ((putS (blkB p 1) p.T p.W true (newS p.W true) 67).1, nextBS p _ (putS (blkB p 1) p.T p.W true (newS p.W true) 67).2) = _
    rw [e']
    unfold nextBS
    rw [if_neg (sat3 _ _ _ _)]
  refine (stepT_some (x := after0 p f) (o := [67]) (d0 := []) (d1 := pc (lpB p) 0) (d := pc (lpB p) 0) (s2 := ⟨1, sat (lpB p) 0 1 p.W, false, 0⟩) e1 e2 ?_ ?_ rfl (pc_ne _ _) (br_put1 h (Nat.zero_le _))).trans rfl
  · show feedBO p _ [6, 67] = _
    rw [(feedB_two _ _ _ _).1, e3, e4]
    rfl
  · show feedBS p _ [6, 67] = _
    rw [(feedB_two _ _ _ _).2, e3, e4]
theorem step_in1 (h : BOk p head tail f) {k : Nat} (hk : k < p.b1.length) : stepT p (in1 p f k) = in1 p f (k + 1) := by
  have hW := h.W2
  have e0 : (in1 p f k).r = ⟨1, rat (lpB p) (k + 1) (p.T - 1) p.W [], false, 0, some f, []⟩ := by unfold in1; simp only; rw [if_pos hk]
  have e1 : tickBR p (in1 p f k).r = ([], ⟨1, rat (lpB p) (k + 1) (p.T - 1) (p.W - 1) [], false, 0, some f, []⟩) := by
    rw [e0]
    unfold tickBR
    rw [if_neg (by simp)]
    have e : tickR true p.W (rat (lpB p) (k + 1) (p.T - 1) p.W []) = ([], rat (lpB p) (k + 1) (p.T - 1) (p.W - 1) []) := rtick_more (p := lpB p) (by omega)
    show ((tickR true p.W (rat (lpB p) (k + 1) (p.T - 1) p.W [])).1, nextBR p _ (tickR true p.W (rat (lpB p) (k + 1) (p.T - 1) p.W [])).2) = _
    rw [e]
    rfl
  have e3 : putBS p ⟨1, sat (lpB p) k 1 (p.W - 1), false, 0⟩ 6 = (pc (lpB p) (k + 1), ⟨1, sat (lpB p) (k + 1) 1 p.W, false, 0⟩) := by
    have e := put_ack h.lok (i := 1) (a := p.W - 1) (show k < (lpB p).bl.length from hk)
    have e' : putS (blkB p 1) p.T p.W true (sat (lpB p) k 1 (p.W - 1)) 6 = (pc (lpB p) (k + 1), sat (lpB p) (k + 1) 1 p.W) := e
    unfold putBS
    rw [if_neg (by simp)]
    show ((putS (blkB p 1) p.T p.W true (sat (lpB p) k 1 (p.W - 1)) 6).1, nextBS p _ (putS (blkB p 1) p.T p.W true (sat (lpB p) k 1 (p.W - 1)) 6).2) = _
    rw [e']
    unfold nextBS
    rw [if_neg (sat3 _ _ _ _)]
  refine (stepT_some (x := in1 p f k) (o := []) (d0 := []) (d1 := pc (lpB p) (k + 1)) (d := pc (lpB p) (k + 1)) (s2 := ⟨1, sat (lpB p) (k + 1) 1 p.W, false, 0⟩) e1 (tick_sat1 h) ?_ ?_ rfl (pc_ne _ _) (br_put1 h (by omega))).trans rfl
  · show feedBO p _ [6] = _
    rw [(feedB_one _ _ _).1, e3]
  · show feedBS p _ [6] = _
    rw [(feedB_one _ _ _).2, e3]
/-- Behind the third part's block. -/
def after2 (p : BP φ) (f : φ) (tail : List UInt8) : Tk φ := ⟨⟨2, oneS 0 p.W, false, 0⟩, ⟨2, ⟨1, 0, p.T - 1, p.W, [], tail, true, 0⟩, true, 0, some f, ((p.b1.map (·.2)).flatten).take (p.sz f)⟩, [6]⟩
theorem step2 (h : BOk p head tail f) : stepT p (in1 p f p.b1.length) = after2 p f tail := by
  have hT := h.T1
  have hW := h.W2
  have e0 : (in1 p f p.b1.length).r = ⟨2, newR 0 1 p.T, false, 0, some f, ((p.b1.map (·.2)).flatten).take (p.sz f)⟩ := by unfold in1; simp only; rw [if_neg (Nat.lt_irrefl _)]
  have e1 : tickBR p (in1 p f p.b1.length).r = ([67], ⟨2, askd 0 p.T p.W, false, 0, some f, ((p.b1.map (·.2)).flatten).take (p.sz f)⟩) := by
    rw [e0]
    unfold tickBR
    rw [if_neg (by simp)]
    simp only
    rw [new_ask hT]
    rfl
  have e3 : putBS p ⟨1, sat (lpB p) p.b1.length 1 (p.W - 1), false, 0⟩ 6 = ([], ⟨2, newS p.W true, false, 0⟩) := by
    have e' : putS (blkB p 1) p.T p.W true (sat (lpB p) p.b1.length 1 (p.W - 1)) 6 = ([], ⟨3, p.b1.length, true, 0, 1, p.W, false⟩) := put_end (p := lpB p)
    unfold putBS
    rw [if_neg (by simp)]
    show ((putS (blkB p 1) p.T p.W true (sat (lpB p) p.b1.length 1 (p.W - 1)) 6).1, nextBS p _ (putS (blkB p 1) p.T p.W true (sat (lpB p) p.b1.length 1 (p.W - 1)) 6).2) = _
    rw [e']
    rfl
  have e4 : putBS p ⟨2, newS p.W true, false, 0⟩ 67 = (enc 0 tail true, ⟨2, oneS 0 p.W, false, 0⟩) := by
    unfold putBS
    rw [if_neg (by simp)]
    show ((putS (blkB p 2) p.T p.W false ⟨0, 0, true, 0, 1, p.W, false⟩ 67).1, nextBS p _ (putS (blkB p 2) p.T p.W false ⟨0, 0, true, 0, 1, p.W, false⟩ 67).2) = _
    rw [one_start (d := tail) (show blkB p 2 = _ from h.b2) h.h2]
    rfl
  refine stepT_some (x := in1 p f p.b1.length) (o := [67]) (d0 := []) (d1 := enc 0 tail true) (d := enc 0 tail true) e1 (tick_sat1 h) ?_ ?_ rfl (enc_ne _ _ _) ?_
  · show feedBO p _ [6, 67] = _
    rw [(feedB_two _ _ _ _).1, e3, e4]
    rfl
  · show feedBS p _ [6, 67] = _
    rw [(feedB_two _ _ _ _).2, e3, e4]
  · unfold putBR
    rw [if_neg (by simp)]
    show ((putR true false p.W _ (enc 0 tail true)).1, nextBR p _ (putR true false p.W _ (enc 0 tail true)).2) = _
    rw [one_take h.h2]
    unfold nextBR
    rw [if_pos rfl, if_neg (by simp), if_neg (by simp), if_neg (by simp)]
    simp only
    rw [h.en]
    rfl
/-- Both are over. -/
def endT (p : BP φ) (f : φ) (tail : List UInt8) : Tk φ := ⟨⟨2, ⟨3, 1, true, 0, 1, p.W, false⟩, true, 0⟩, (after2 p f tail).r, []⟩
theorem step3 (h : BOk p head tail f) : stepT p (after2 p f tail) = endT p f tail := by
  have hW := h.W2
  have e1 : tickBR p (after2 p f tail).r = ([], (after2 p f tail).r) := by
    unfold tickBR after2
    rw [if_pos rfl]
  have e2 : tickBS p (after2 p f tail).s = ([], ⟨2, ⟨1, 0, true, 0, 1, p.W - 1, false⟩, false, 0⟩) := by
    unfold tickBS after2 oneS
    rw [if_neg (by simp)]
    simp only
    rw [stick_wait (by simp) (by show 1 < p.W; omega)]
    rfl
  have e3 : putBS p ⟨2, ⟨1, 0, true, 0, 1, p.W - 1, false⟩, false, 0⟩ 6 = ([], ⟨2, ⟨3, 1, true, 0, 1, p.W, false⟩, true, 0⟩) := by
    unfold putBS
    rw [if_neg (by simp)]
    show ((putS (blkB p 2) p.T p.W false _ 6).1, nextBS p _ (putS (blkB p 2) p.T p.W false _ 6).2) = _
    rw [one_ack (d := tail) (show blkB p 2 = _ from h.b2)]
    rfl
  refine stepT_none (x := after2 p f tail) (o := []) (d0 := []) (d1 := []) e1 e2 ?_ ?_ rfl
  · show feedBO p _ [6] = _
    rw [(feedB_one _ _ _).1, e3]
  · show feedBS p _ [6] = _
    rw [(feedB_one _ _ _).2, e3]
theorem step_end' (h : BOk p head tail f) : stepT p (endT p f tail) = endT p f tail := by
  refine stepT_none (x := endT p f tail) (o := []) (d0 := []) (d1 := []) (r1 := (after2 p f tail).r) (s1 := (endT p f tail).s) ?_ ?_ rfl rfl rfl
  · unfold tickBR endT after2
    simp
  · unfold tickBS endT
    simp
theorem run_in1 (h : BOk p head tail f) : ∀ (q k : Nat), k + q = p.b1.length → runT p q (in1 p f k) = in1 p f p.b1.length
  | 0, k, e => by
    obtain rfl : k = p.b1.length := by omega
    rfl
  | q + 1, k, e => by
    show runT p q (stepT p (in1 p f k)) = _
    rw [step_in1 h (by omega), run_in1 h q (k + 1) (by omega)]
theorem run_endT (h : BOk p head tail f) : ∀ q, runT p q (endT p f tail) = endT p f tail
  | 0 => rfl
  | q + 1 => by
    show runT p q (stepT p (endT p f tail)) = _
    rw [step_end' h, run_endT h q]
/-- A file that is sent is taken. -/
theorem run_batch (h : BOk p head tail f) {N : Nat} (hN : p.b1.length + 4 ≤ N) : runT p N ⟨newBS p, newBR p, []⟩ = endT p f tail := by
  obtain ⟨M, rfl⟩ : ∃ M, N = 2 + (p.b1.length + (2 + M)) := ⟨N - p.b1.length - 4, by omega⟩
  rw [runT_add, runT_add, runT_add]
  have e1 : runT p 2 ⟨newBS p, newBR p, []⟩ = in1 p f 0 := by
    show stepT p (stepT p _) = _
    rw [step0 h, step1 h]
  have e2 : runT p 2 (in1 p f p.b1.length) = endT p f tail := by
    show stepT p (stepT p _) = _
    rw [step2 h, step3 h]
  rw [e1, run_in1 h p.b1.length 0 (by omega), e2, run_endT h M]
end
end Go.Proofs.YtgdjopiejmdbnaaGreatDoor
