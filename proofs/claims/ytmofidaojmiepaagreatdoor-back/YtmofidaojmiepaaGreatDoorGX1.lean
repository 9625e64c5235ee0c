/-
  TEXTS, as mathematics: a number is written in one way alone.
-/
import Derived.Lib.ItoaNum
set_option linter.unusedVariables false
set_option linter.unusedSimpArgs false
namespace Go.Proofs.YtmofidaojmiepaaGreatDoor

open Go.Lib (itoa decDigits nDigits)

/-- A digit's byte. -/
def Dg (c : UInt8) : Prop := 48 ≤ c.toNat ∧ c.toNat ≤ 57

/-- A number of at most ten digits. -/
def N10 (n : Int) : Prop := n.natAbs < 10000000000

theorem dec_one {d : Nat} (h : d < 10) : decDigits d = [UInt8.ofNat (48 + d)] := by rw [decDigits, dif_pos h]

theorem dec_more {n d : Nat} (hn : 0 < n) (h : d < 10) : decDigits (10 * n + d) = decDigits n ++ [UInt8.ofNat (48 + d)] := by
  rw [decDigits, dif_neg (by omega)]
  have e1 : (10 * n + d) / 10 = n := by omega
  have e2 : (10 * n + d) % 10 = d := by omega
  rw [e1, e2]

theorem nd_more {n d : Nat} (hn : 0 < n) (h : d < 10) : nDigits (10 * n + d) = nDigits n + 1 := by
  rw [Go.Lib.nDigits_big (by omega)]
  have e1 : (10 * n + d) / 10 = n := by omega
  rw [e1]

theorem nd_pow {n : Nat} (h : 0 < n) : 10 ^ (nDigits n - 1) ≤ n := by
  induction n using Nat.strongRecOn with
  | _ u ih =>
    by_cases h10 : u < 10
    · rw [Go.Lib.nDigits_small h10]; exact h
    · rw [Go.Lib.nDigits_big h10]
      have h1 := ih (u / 10) (by omega) (by omega)
      have h2 := Go.Lib.nDigits_pos (u / 10)
      have e : nDigits (u / 10) + 1 - 1 = (nDigits (u / 10) - 1) + 1 := by omega
      rw [e, Nat.pow_succ]
      omega

theorem nd_ten {n : Nat} (h : 0 < n) : nDigits n ≤ 10 ↔ n < 10000000000 := by
  constructor
  · intro h1
    have h2 := Go.Lib.lt_pow_nDigits n
    have h3 : (10 : Nat) ^ nDigits n ≤ 10 ^ 10 := Nat.pow_le_pow_right (by omega) h1
    have e : (10 : Nat) ^ 10 = 10000000000 := by decide
    omega
  · intro h1
    rcases Nat.lt_or_ge 10 (nDigits n) with h2 | h2
    · exfalso
      have h3 := nd_pow h
      have h4 : (10 : Nat) ^ 10 ≤ 10 ^ (nDigits n - 1) := Nat.pow_le_pow_right (by omega) (by omega)
      have e : (10 : Nat) ^ 10 = 10000000000 := by decide
      omega
    · exact h2

theorem ofNat_toNat {d : Nat} (h : d < 10) : (UInt8.ofNat (48 + d)).toNat = 48 + d := by
  rw [UInt8.toNat_ofNat']
  omega

theorem dg_of {d : Nat} (h : d < 10) : Dg (UInt8.ofNat (48 + d)) := by unfold Dg; rw [ofNat_toNat h]; omega

theorem of_dg {c : UInt8} (h : Dg c) : ∃ d, d < 10 ∧ c = UInt8.ofNat (48 + d) ∧ c.toNat = 48 + d := by
  obtain ⟨h1, h2⟩ := h
  refine ⟨c.toNat - 48, by omega, ?_, by omega⟩
  apply UInt8.toNat_inj.1
  rw [ofNat_toNat (by omega)]
  omega

theorem dec_digits (n : Nat) : ∀ c ∈ decDigits n, Dg c := by
  induction n using Nat.strongRecOn with
  | _ u ih =>
    intro c hc
    by_cases h10 : u < 10
    · rw [dec_one h10] at hc
      rw [List.mem_singleton.1 hc]
      exact dg_of h10
    · rw [decDigits, dif_neg h10, List.mem_append] at hc
      rcases hc with hc | hc
      · exact ih (u / 10) (by omega) c hc
      · rw [List.mem_singleton.1 hc]
        exact dg_of (by omega)

/-- The first digit of a number that is not 0 is not 0. -/
theorem dec_head {n : Nat} (h : 0 < n) : ∃ d t, decDigits n = UInt8.ofNat (48 + d) :: t ∧ 0 < d ∧ d < 10 := by
  induction n using Nat.strongRecOn with
  | _ u ih =>
    by_cases h10 : u < 10
    · exact ⟨u, [], dec_one h10, h, h10⟩
    · obtain ⟨d, t, e, h1, h2⟩ := ih (u / 10) (by omega) (by omega)
      refine ⟨d, t ++ [UInt8.ofNat (48 + u % 10)], ?_, h1, h2⟩
      rw [decDigits, dif_neg h10, e]
      rfl

theorem itoa_zero : itoa 0 = [48] := by
  unfold itoa
  rw [if_neg (by omega)]
  exact dec_one (by omega)

theorem itoa_pos {n : Nat} : itoa (n : Int) = decDigits n := by
  unfold itoa
  rw [if_neg (by omega)]
  rfl

theorem itoa_neg {n : Nat} (h : 0 < n) : itoa (-(n : Int)) = 45 :: decDigits n := by
  unfold itoa
  rw [if_pos (by omega)]
  congr 1
  congr 1
  omega

/-- No digit comes next. -/
def NoDg (r : List UInt8) : Prop := ∀ c t, r = c :: t → ¬ Dg c

/-- The next byte is not this one. -/
def Not (b : UInt8) (r : List UInt8) : Prop := ∀ t, r ≠ b :: t

/-- A blank and a number were read, and all of its digits that there was room for. -/
structure NumOk (r : List UInt8) (n : Int) (r' : List UInt8) : Prop where
  eq : r = 32 :: (itoa n ++ r')
  few : N10 n
  munch : n ≠ 0 → nDigits n.natAbs < 10 → NoDg r'

/-- None can be read: r' is where that shows. -/
def NumNo (r r' : List UInt8) : Prop :=
  (r' = r ∧ Not 32 r) ∨ (r = 32 :: r' ∧ NoDg r' ∧ Not 45 r') ∨ (r = 32 :: 45 :: r' ∧ ∀ c t, r' = c :: t → ¬ (49 ≤ c.toNat ∧ c.toNat ≤ 57))

theorem NumNo.le {r r' : List UInt8} (h : NumNo r r') : r'.length ≤ r.length := by
  rcases h with ⟨rfl, _⟩ | ⟨rfl, _⟩ | ⟨rfl, _⟩ <;> simp <;> omega

/-- Numbers, each behind a blank. -/
def numsT (l : List Int) : List UInt8 := l.flatMap (fun n => 32 :: itoa n)

theorem numsT_nil : numsT [] = [] := rfl

theorem numsT_cons (n : Int) (l : List Int) : numsT (n :: l) = 32 :: (itoa n ++ numsT l) := by unfold numsT; simp

theorem numsT_append (l m : List Int) : numsT (l ++ m) = numsT l ++ numsT m := by unfold numsT; simp

theorem numsT_snoc (l : List Int) (n : Int) : numsT (l ++ [n]) = numsT l ++ 32 :: itoa n := by unfold numsT; simp

/-- Of the last of these numbers all digits were read that there was room for. -/
def Mu (l : List Int) (r : List UInt8) : Prop := ∀ x l', l = l' ++ [x] → x ≠ 0 → nDigits x.natAbs < 10 → NoDg r

/-- The numbers of a line w or r can't be read. -/
def LineNo (r r' : List UInt8) : Prop := ∃ l r1, r = numsT l ++ r1 ∧ (∀ x ∈ l, N10 x) ∧ Mu l r1 ∧ (l ≠ [] → Not 10 r1) ∧ NumNo r1 r'

/-- Nor a kind. -/
def KindNo (r r' : List UInt8) : Prop := (r' = r ∧ Not 32 r) ∨ (r = 32 :: r' ∧ NoDg r')

/-- Of a kind both digits were read, where there is such a kind. -/
def MuK (kd : Int) (l : List Int) (r : List UInt8) : Prop := (l ≠ [] → Mu l r) ∧ (l = [] → kd = 1 → ∀ c t, r = c :: t → ¬ (48 ≤ c.toNat ∧ c.toNat ≤ 50))

end Go.Proofs.YtmofidaojmiepaaGreatDoor

/-
  TEXTS, as mathematics: the look over a text, byte for byte.
-/
set_option linter.unusedVariables false
set_option linter.unusedSimpArgs false
namespace Go.Proofs.YtmofidaojmiepaaGreatDoor

open Go.Lib (itoa decDigits nDigits)

/-- Where a look over a text stands. -/
structure Sc where
  part : Int
  letter : Int
  count : Int
  want : Int
  digits : Int
  minus : Bool
  value : Int
  mode : Int

def hasKB (k : Int) : Bool := decide (k = 0 ∨ k = 1 ∨ k = 11 ∨ k = 12)

def needsN (k : Int) : Int := if k = 0 ∨ k = 1 then 0 else if k = 10 ∨ k = 11 ∨ k = 12 then 1 else if k = 9 then 3 else if 2 ≤ k ∧ k ≤ 8 then 2 else -1

/-- How many numbers stand behind a kind. -/
def wantK (k : Int) : Int := needsN k + (if hasKB k = true then 1 else 0)

theorem wantK_bd {k : Int} (h0 : 0 ≤ k) (h1 : k ≤ 12) : 1 ≤ wantK k ∧ wantK k ≤ 3 := by
  unfold wantK needsN hasKB
  have : k = 0 ∨ k = 1 ∨ k = 2 ∨ k = 3 ∨ k = 4 ∨ k = 5 ∨ k = 6 ∨ k = 7 ∨ k = 8 ∨ k = 9 ∨ k = 10 ∨ k = 11 ∨ k = 12 := by omega
  rcases this with rfl | rfl | rfl | rfl | rfl | rfl | rfl | rfl | rfl | rfl | rfl | rfl | rfl <;> simp

namespace Sc

def isK (x : Sc) : Bool := decide (x.letter = 99 ∧ x.count = 0)

def doLetter (x : Sc) (c : Int) : Bool × Sc :=
  if c = 119 then (decide (x.part = 0), { x with letter := c, mode := 1, count := 0, want := 0 })
  else if c = 99 then (decide (x.part = 1), { x with letter := c, mode := 1, count := 0, want := 0 })
  else if c = 114 then (decide (0 < x.part), { x with letter := c, mode := 1, count := 0, want := 0, part := 2 })
  else (false, { x with letter := c, mode := 1, count := 0, want := 0 })

def doDigit (x : Sc) (c : Int) : Bool × Sc :=
  if x.mode = 4 ∧ (x.value = 0 ∨ 9 < x.digits) then (false, x)
  else if x.mode = 3 ∧ c - 48 = 0 then (false, x)
  else
    let v := (if x.mode = 4 then 10 * x.value else 0) + (c - 48)
    (!x.isK || decide (v ≤ 12), { x with value := v, digits := (if x.mode = 4 then x.digits else 0) + 1, mode := 4 })

def doDone (x : Sc) : Sc := { x with want := if x.isK = true then wantK x.value else x.want, count := x.count + 1 }

def isFull (x : Sc) : Bool := decide (x.doDone.count = 1 + x.doDone.want)

def goes (x : Sc) (c : Int) : Bool × Sc :=
  if x.mode = 0 then x.doLetter c
  else if x.mode = 1 then (decide (c = 32), { x with mode := 2 })
  else if x.mode = 2 then (if 48 ≤ c ∧ c ≤ 57 then x.doDigit c else (decide (c = 45) && !x.isK, { x with mode := 3 }))
  else if x.mode = 3 then (if 48 ≤ c ∧ c ≤ 57 then x.doDigit c else (false, x))
  else if 48 ≤ c ∧ c ≤ 57 then x.doDigit c
  else if c = 32 then (!decide (x.letter = 99) || !x.isFull, { x.doDone with mode := 2 })
  else (decide (c = 10) && (!decide (x.letter = 99) || x.isFull), { x with mode := 0, part := if x.part = 0 then 1 else x.part })

def fin (x : Sc) : Bool := decide (x.mode = 0 ∧ x.part ≠ 0)

end Sc

/-- How many bytes are gone over; none: it is a text. -/
def pl : Sc → List UInt8 → Option Nat
  | x, [] => if x.fin = true then none else some 0
  | x, c :: t => if (x.goes (c.toNat : Int)).1 = true then (pl (x.goes (c.toNat : Int)).2 t).map (· + 1) else some 0

theorem pl_nil (x : Sc) : pl x [] = if x.fin = true then none else some 0 := rfl

theorem pl_cons (x : Sc) (c : UInt8) (t : List UInt8) : pl x (c :: t) = if (x.goes (c.toNat : Int)).1 = true then (pl (x.goes (c.toNat : Int)).2 t).map (· + 1) else some 0 := rfl

/-- All of p is gone over. -/
def Acc : Sc → List UInt8 → Sc → Prop
  | x, [], y => x = y
  | x, c :: t, y => (x.goes (c.toNat : Int)).1 = true ∧ Acc (x.goes (c.toNat : Int)).2 t y

theorem Acc.append {x y z : Sc} {p q : List UInt8} (h : Acc x p y) (g : Acc y q z) : Acc x (p ++ q) z := by
  induction p generalizing x with
  | nil => cases h; exact g
  | cons c t ih => exact ⟨h.1, ih h.2⟩

theorem Acc.on {x y : Sc} {p : List UInt8} (h : Acc x p y) (r : List UInt8) : pl x (p ++ r) = (pl y r).map (· + p.length) := by
  induction p generalizing x with
  | nil => cases h; simp
  | cons c t ih =>
    show pl x (c :: (t ++ r)) = _
    rw [pl_cons, if_pos h.1, ih h.2, Option.map_map]
    congr 1

theorem Acc.one {x y : Sc} {c : UInt8} (h : x.goes (c.toNat : Int) = (true, y)) : Acc x [c] y := ⟨by rw [h], by rw [h]; rfl⟩

/-- It goes no farther. -/
def Stk (x : Sc) (r : List UInt8) : Prop := (r = [] ∧ x.fin = false) ∨ (∃ c t, r = c :: t ∧ (x.goes (c.toNat : Int)).1 = false)

theorem Stk.is {x : Sc} {r : List UInt8} (h : Stk x r) : pl x r = some 0 := by
  rcases h with ⟨rfl, h⟩ | ⟨c, t, rfl, h⟩
  · rw [pl_nil, if_neg (by rw [h]; simp)]
  · rw [pl_cons, if_neg (by rw [h]; simp)]

theorem Acc.stk {x y : Sc} {p r : List UInt8} (h : Acc x p y) (g : Stk y r) : pl x (p ++ r) = some p.length := by rw [h.on, g.is]; simp

/-- A number that is none of a kind is being written. -/
theorem dig_first {x : Sc} (hm : x.mode = 2 ∨ x.mode = 3) (hk : x.isK = false) {d : Nat} (h0 : 0 < d ∨ x.mode = 2) (h : d < 10) :
    x.goes (((UInt8.ofNat (48 + d)).toNat : Nat) : Int) = (true, { x with value := d, digits := 1, mode := 4 }) := by
  rw [ofNat_toNat h]
  have e : (((48 + d : Nat) : Int)) - 48 = d := by omega
  unfold Sc.goes Sc.doDigit
  rw [if_neg (by omega), if_neg (by omega)]
  rcases hm with hm | hm
  · rw [if_pos hm, if_pos (by omega), if_neg (by omega), if_neg (by omega), hk, e]
    simp [hm]
  · rw [if_neg (by omega), if_pos hm, if_pos (by omega), if_neg (by omega), if_neg (by omega), hk, e]
    simp [hm]

theorem dig_more {x : Sc} (hm : x.mode = 4) (hk : x.isK = false) (hv : x.value ≠ 0) (hd : x.digits ≤ 9) {d : Nat} (h : d < 10) :
    x.goes (((UInt8.ofNat (48 + d)).toNat : Nat) : Int) = (true, { x with value := 10 * x.value + d, digits := x.digits + 1, mode := 4 }) := by
  rw [ofNat_toNat h]
  have e : (((48 + d : Nat) : Int)) - 48 = d := by omega
  unfold Sc.goes Sc.doDigit
  rw [if_neg (by omega), if_neg (by omega), if_neg (by omega), if_neg (by omega), if_pos (by omega), if_neg (by omega), if_neg (by omega), hk, e]
  simp [hm]

theorem dec_acc {x : Sc} (hm : x.mode = 2 ∨ x.mode = 3) (hk : x.isK = false) {n : Nat} (hn : 0 < n) (h10 : nDigits n ≤ 10) : Acc x (decDigits n) { x with value := n, digits := nDigits n, mode := 4 } := by
  induction n using Nat.strongRecOn with
  | _ u ih =>
    by_cases h : u < 10
    · rw [dec_one h, Go.Lib.nDigits_small h]
      exact Acc.one (dig_first hm hk (Or.inl hn) h)
    · have e := Go.Lib.nDigits_big h
      have h1 := ih (u / 10) (by omega) (by omega) (by omega)
      have e2 : decDigits u = decDigits (u / 10) ++ [UInt8.ofNat (48 + u % 10)] := by rw [decDigits, dif_neg h]
      rw [e2]
      refine h1.append (Acc.one ?_)
      have := dig_more (x := { x with value := (u / 10 : Nat), digits := nDigits (u / 10), mode := 4 }) rfl hk (by show ((u / 10 : Nat) : Int) ≠ 0; omega) (by show ((nDigits (u / 10) : Nat) : Int) ≤ 9; omega) (d := u % 10) (by omega)
      rw [this]
      have e3 : 10 * ((u / 10 : Nat) : Int) + ((u % 10 : Nat) : Int) = u := by omega
      have e4 : ((nDigits (u / 10) : Nat) : Int) + 1 = nDigits u := by omega
      simp only [e3, e4]

/-- A number stands where a blank was gone over. -/
theorem itoa_acc {x : Sc} (hm : x.mode = 2) (hk : x.isK = false) {n : Int} (h : N10 n) : Acc x (itoa n) { x with value := n.natAbs, digits := nDigits n.natAbs, mode := 4 } := by
  unfold N10 at h
  rcases Int.lt_trichotomy n 0 with h0 | h0 | h0
  · obtain ⟨u, rfl⟩ : ∃ u : Nat, n = -(u : Int) := ⟨n.natAbs, by omega⟩
    have e : (-(u : Int)).natAbs = u := by omega
    rw [itoa_neg (by omega), e]
    rw [e] at h
    have g : x.goes (((45 : UInt8).toNat : Nat) : Int) = (true, { x with mode := 3 }) := by
      unfold Sc.goes
      rw [show (((45 : UInt8).toNat : Nat) : Int) = 45 from rfl, if_neg (by omega), if_neg (by omega), if_pos hm, if_neg (by omega), hk]
      rfl
    have := dec_acc (x := { x with mode := 3 }) (Or.inr rfl) hk (n := u) (by omega) ((nd_ten (by omega)).2 h)
    exact ⟨by rw [g], by rw [g]; exact this⟩
  · subst h0
    rw [itoa_zero]
    have := dig_first (x := x) (Or.inl hm) hk (d := 0) (Or.inr hm) (by omega)
    have e : nDigits (0 : Int).natAbs = 1 := Go.Lib.nDigits_small (by decide)
    rw [e]
    exact Acc.one this
  · obtain ⟨u, rfl⟩ : ∃ u : Nat, n = (u : Int) := ⟨n.natAbs, by omega⟩
    have e : ((u : Int)).natAbs = u := by omega
    rw [itoa_pos, e]
    rw [e] at h
    exact dec_acc (Or.inl hm) hk (by omega) ((nd_ten (by omega)).2 h)

/-- A number that could not be read is where the look stands, too. -/
theorem no_num {x : Sc} (hm : x.mode = 2) {r : List UInt8} : (NoDg r ∧ Not 45 r → Stk x r) ∧ ((∀ c t, r = c :: t → ¬ (49 ≤ c.toNat ∧ c.toNat ≤ 57)) → Stk { x with mode := 3 } r) := by
  constructor
  · rintro ⟨h1, h2⟩
    cases r with
    | nil => exact Or.inl ⟨rfl, by unfold Sc.fin; rw [hm]; simp⟩
    | cons c t =>
      refine Or.inr ⟨c, t, rfl, ?_⟩
      have h3 := h1 c t rfl
      unfold Dg at h3
      have h4 : c ≠ 45 := fun e => h2 t (by rw [e])
      have h5 : (c.toNat : Int) ≠ 45 := fun e => h4 (UInt8.toNat_inj.1 (by rw [show (45 : UInt8).toNat = 45 from rfl]; omega))
      unfold Sc.goes
      rw [if_neg (by omega), if_neg (by omega), if_pos hm, if_neg (by omega)]
      simp [h5]
  · intro h1
    cases r with
    | nil => exact Or.inl ⟨rfl, by unfold Sc.fin; simp⟩
    | cons c t =>
      refine Or.inr ⟨c, t, rfl, ?_⟩
      have h3 := h1 c t rfl
      unfold Sc.goes
      rw [if_neg (by show ¬ (3 : Int) = 0; omega), if_neg (by show ¬ (3 : Int) = 1; omega), if_neg (by show ¬ (3 : Int) = 2; omega), if_pos rfl]
      by_cases h6 : (48 : Int) ≤ (c.toNat : Int) ∧ (c.toNat : Int) ≤ 57
      · rw [if_pos h6]
        unfold Sc.doDigit
        rw [if_neg (by show ¬ ((3 : Int) = 4 ∧ _); omega), if_pos (by refine ⟨rfl, ?_⟩; omega)]
      · rw [if_neg h6]

end Go.Proofs.YtmofidaojmiepaaGreatDoor

/-
  TEXTS, as mathematics: lines, and the place of an error.
-/
set_option linter.unusedVariables false
set_option linter.unusedSimpArgs false
namespace Go.Proofs.YtmofidaojmiepaaGreatDoor

open Go.Lib (itoa decDigits nDigits)

theorem goes_one {x : Sc} (hm : x.mode = 1) : x.goes 32 = (true, { x with mode := 2 }) := by
  unfold Sc.goes
  rw [if_neg (by omega), if_pos hm]
  rfl

theorem goes_blank {x : Sc} (hm : x.mode = 4) (h : x.letter ≠ 99 ∨ x.isFull = false) : x.goes 32 = (true, { x.doDone with mode := 2 }) := by
  unfold Sc.goes
  rw [if_neg (by omega), if_neg (by omega), if_neg (by omega), if_neg (by omega), if_neg (by omega), if_pos rfl]
  rcases h with h | h
  · simp [h]
  · simp [h]

theorem goes_end {x : Sc} (hm : x.mode = 4) (h : x.letter ≠ 99 ∨ x.isFull = true) : x.goes 10 = (true, { x with mode := 0, part := if x.part = 0 then 1 else x.part }) := by
  unfold Sc.goes
  rw [if_neg (by omega), if_neg (by omega), if_neg (by omega), if_neg (by omega), if_neg (by omega), if_neg (by omega)]
  rcases h with h | h
  · simp [h]
  · simp [h]

/-- A digit that comes next can't stand there. -/
def Cl (x : Sc) (r : List UInt8) : Prop := ∀ c t, r = c :: t → Dg c → (x.goes (c.toNat : Int)).1 = false

theorem cl_num {x : Sc} (hm : x.mode = 4) {n : Int} (hv : x.value = n.natAbs) (hd : x.digits = nDigits n.natAbs) {r : List UInt8} (h : n ≠ 0 → nDigits n.natAbs < 10 → NoDg r) : Cl x r := by
  intro c t e hc
  have h1 : x.value = 0 ∨ 9 < x.digits := by
    by_cases h0 : n = 0
    · left; rw [hv, h0]; rfl
    · by_cases h2 : nDigits n.natAbs < 10
      · exact absurd hc (h h0 h2 c t e)
      · right; rw [hd]; omega
  unfold Dg at hc
  unfold Sc.goes Sc.doDigit
  rw [if_neg (by omega), if_neg (by omega), if_neg (by omega), if_neg (by omega), if_pos (by omega), if_pos ⟨hm, h1⟩]

theorem cl_kind {x : Sc} (hm : x.mode = 4) (hk : x.isK = true) (h0 : 0 ≤ x.value) {r : List UInt8} (h : x.value = 1 → ∀ c t, r = c :: t → ¬ (48 ≤ c.toNat ∧ c.toNat ≤ 50)) : Cl x r := by
  intro c t e hc
  unfold Dg at hc
  unfold Sc.goes
  rw [if_neg (by omega), if_neg (by omega), if_neg (by omega), if_neg (by omega), if_pos (by omega)]
  unfold Sc.doDigit
  by_cases h1 : x.mode = 4 ∧ (x.value = 0 ∨ 9 < x.digits)
  · rw [if_pos h1]
  · rw [if_neg h1, if_neg (by omega)]
    have h2 : ¬ ((if x.mode = 4 then 10 * x.value else 0) + ((c.toNat : Int) - 48) ≤ 12) := by
      rw [if_pos hm]
      have h3 : x.value ≠ 0 := fun e => h1 ⟨hm, Or.inl e⟩
      by_cases h4 : x.value = 1
      · have := h h4 c t e
        omega
      · omega
    simp [hk, h2]

theorem byte_ne {c b : UInt8} (h : c ≠ b) : (c.toNat : Int) ≠ (b.toNat : Int) := fun e => h (UInt8.toNat_inj.1 (by omega))

theorem not_head {b c : UInt8} {t : List UInt8} (h : Not b (c :: t)) : c ≠ b := fun e => h t (by rw [e])

theorem stk_one {x : Sc} (hm : x.mode = 1) {r : List UInt8} (h : Not 32 r) : Stk x r := by
  cases r with
  | nil => exact Or.inl ⟨rfl, by unfold Sc.fin; simp [hm]⟩
  | cons c t =>
    refine Or.inr ⟨c, t, rfl, ?_⟩
    have h1 := byte_ne (not_head h)
    unfold Sc.goes
    rw [if_neg (by omega), if_pos hm]
    exact decide_eq_false h1

/-- Behind a number, where the line goes on. -/
theorem stk_more {x : Sc} (hm : x.mode = 4) {r : List UInt8} (hc : Cl x r) (h : Not 32 r) (h10 : Not 10 r ∨ (x.letter = 99 ∧ x.isFull = false)) : Stk x r := by
  cases r with
  | nil => exact Or.inl ⟨rfl, by unfold Sc.fin; simp [hm]⟩
  | cons c t =>
    refine Or.inr ⟨c, t, rfl, ?_⟩
    by_cases hd : Dg c
    · exact hc c t rfl hd
    · have h1 : (c.toNat : Int) ≠ 32 := byte_ne (not_head h)
      unfold Dg at hd
      unfold Sc.goes
      rw [if_neg (by omega), if_neg (by omega), if_neg (by omega), if_neg (by omega), if_neg (by omega), if_neg h1]
      rcases h10 with h2 | ⟨h2, h3⟩
      · have h4 : (c.toNat : Int) ≠ 10 := byte_ne (not_head h2)
        simp [h4]
      · simp [h2, h3]

/-- Behind the last number of a cell. -/
theorem stk_full {x : Sc} (hm : x.mode = 4) {r : List UInt8} (hc : Cl x r) (h10 : Not 10 r) (hl : x.letter = 99) (hf : x.isFull = true) : Stk x r := by
  cases r with
  | nil => exact Or.inl ⟨rfl, by unfold Sc.fin; simp [hm]⟩
  | cons c t =>
    refine Or.inr ⟨c, t, rfl, ?_⟩
    by_cases hd : Dg c
    · exact hc c t rfl hd
    · have h4 : (c.toNat : Int) ≠ 10 := byte_ne (not_head h10)
      unfold Dg at hd
      unfold Sc.goes
      rw [if_neg (by omega), if_neg (by omega), if_neg (by omega), if_neg (by omega), if_neg (by omega)]
      by_cases h1 : (c.toNat : Int) = 32
      · rw [if_pos h1]; simp [hl, hf]
      · rw [if_neg h1]; simp [h4]

/-- A blank may come next, and then a number that is none of a kind: x' is where the look stands behind the blank. -/
def Bl (x x' : Sc) : Prop := x.goes 32 = (true, x') ∧ x'.mode = 2 ∧ x'.isK = false

theorem Bl.num {x x' : Sc} (h : Bl x x') {n : Int} (hn : N10 n) : Acc x (32 :: itoa n) { x' with value := n.natAbs, digits := nDigits n.natAbs, mode := 4 } := by
  obtain ⟨h1, h2, h3⟩ := h
  have e : (((32 : UInt8).toNat : Nat) : Int) = 32 := rfl
  exact ⟨by rw [e, h1], by rw [e, h1]; exact itoa_acc h2 h3 hn⟩

theorem Bl.no {x x' : Sc} (h : Bl x x') {r r' : List UInt8} (hn : NumNo r r') (h0 : Not 32 r → Stk x r) : ∃ p y, r = p ++ r' ∧ Acc x p y ∧ Stk y r' := by
  obtain ⟨h1, h2, h3⟩ := h
  have e : (((32 : UInt8).toNat : Nat) : Int) = 32 := rfl
  have a1 : Acc x [32] x' := Acc.one (by rw [e]; exact h1)
  rcases hn with ⟨rfl, g⟩ | ⟨rfl, g1, g2⟩ | ⟨rfl, g⟩
  · exact ⟨[], x, rfl, rfl, h0 g⟩
  · exact ⟨[32], x', rfl, a1, (no_num h2).1 ⟨g1, g2⟩⟩
  · refine ⟨[32, 45], { x' with mode := 3 }, rfl, a1.append (Acc.one (c := 45) ?_), (no_num h2).2 g⟩
    have e2 : (((45 : UInt8).toNat : Nat) : Int) = 45 := rfl
    rw [e2]
    unfold Sc.goes
    rw [if_neg (by omega), if_neg (by omega), if_pos h2, if_neg (by omega), h3]
    rfl

theorem Acc.no {x y z : Sc} {p r r' q : List UInt8} (h : Acc x p y) (g : ∃ p' z, r = p' ++ r' ∧ Acc y p' z ∧ Stk z r') : ∃ p' z, p ++ r = p' ++ r' ∧ Acc x p' z ∧ Stk z r' := by
  obtain ⟨p', z, e, g1, g2⟩ := g
  exact ⟨p ++ p', z, by rw [e, List.append_assoc], h.append g1, g2⟩

theorem no_place {x : Sc} {s r' : List UInt8} (h : ∃ p z, s = p ++ r' ∧ Acc x p z ∧ Stk z r') : pl x s = some (s.length - r'.length) := by
  obtain ⟨p, z, e, h1, h2⟩ := h
  rw [e, h1.stk h2]
  simp

/-- Within a line w or r. -/
structure InL (p L : Int) (x : Sc) : Prop where
  part : x.part = p
  letter : x.letter = L
  ne : L ≠ 99

theorem InL.isK {p L : Int} {x : Sc} (h : InL p L x) : x.isK = false := by
  unfold Sc.isK
  rw [h.letter]
  simp [h.ne]

theorem InL.bl {p L : Int} {x : Sc} (h : InL p L x) (hm : x.mode = 1 ∨ x.mode = 4) : ∃ x', Bl x x' ∧ InL p L x' := by
  rcases hm with hm | hm
  · refine ⟨{ x with mode := 2 }, ⟨goes_one hm, rfl, ?_⟩, h.part, h.letter, h.ne⟩
    exact h.isK
  · have e : InL p L { x.doDone with mode := 2 } := ⟨h.part, h.letter, h.ne⟩
    exact ⟨{ x.doDone with mode := 2 }, ⟨goes_blank hm (Or.inl (by rw [h.letter]; exact h.ne)), rfl, e.isK⟩, e⟩

/-- The numbers of such a line. -/
theorem InL.nums {p L : Int} {l : List Int} (hl : ∀ n ∈ l, N10 n) : ∀ {x : Sc}, InL p L x → x.mode = 1 ∨ x.mode = 4 → ∃ y, Acc x (numsT l) y ∧ InL p L y ∧ (l = [] → y = x) ∧ (l ≠ [] → y.mode = 4) ∧ ∀ n l', l = l' ++ [n] → y.value = n.natAbs ∧ y.digits = nDigits n.natAbs := by
  induction l with
  | nil => exact fun {x} h hm => ⟨x, rfl, h, fun _ => rfl, fun e => absurd rfl e, fun n l' e => by simp at e⟩
  | cons n l ih =>
    intro x h hm
    obtain ⟨x', b, h'⟩ := h.bl hm
    have a := b.num (hl n (by simp))
    have h2 : InL p L { x' with value := n.natAbs, digits := nDigits n.natAbs, mode := 4 } := ⟨h'.part, h'.letter, h'.ne⟩
    obtain ⟨y, g1, g2, g3, g4, g5⟩ := ih (fun m hm => hl m (by simp [hm])) h2 (Or.inr rfl)
    refine ⟨y, ?_, g2, fun e => by simp at e, fun _ => ?_, fun m l' e => ?_⟩
    · rw [numsT_cons, ← List.cons_append]
      exact a.append g1
    · by_cases hn : l = []
      · rw [g3 hn]
      · exact g4 hn
    · by_cases hn : l = []
      · subst hn
        have e2 : l' = [] ∧ n = m := by
          cases l' with
          | nil => simp at e; exact ⟨rfl, e⟩
          | cons a b => simp at e
        rw [g3 rfl, ← e2.2]
        exact ⟨rfl, rfl⟩
      · cases l' with
        | nil => simp at e; exact absurd e.2 hn
        | cons a b =>
          simp at e
          exact g5 m b e.2

theorem InL.cl {p L : Int} {x y : Sc} {l : List Int} {r : List UInt8} (hm : y.mode = 4) (hl : l ≠ []) (hv : ∀ n l', l = l' ++ [n] → y.value = n.natAbs ∧ y.digits = nDigits n.natAbs) (h : Mu l r) : Cl y r := by
  obtain ⟨l', n, e⟩ : ∃ l' n, l = l' ++ [n] := ⟨l.dropLast, l.getLast hl, (List.dropLast_concat_getLast hl).symm⟩
  obtain ⟨h1, h2⟩ := hv n l' e
  exact cl_num hm h1 h2 (h n l' e)

theorem InL.no {p L : Int} {x : Sc} (h : InL p L x) (hm : x.mode = 1) {r r' : List UInt8} (hn : LineNo r r') : ∃ q z, r = q ++ r' ∧ Acc x q z ∧ Stk z r' := by
  obtain ⟨l, r1, rfl, h1, h2, h3, h4⟩ := hn
  obtain ⟨y, g1, g2, g3, g4, g5⟩ := InL.nums h1 h (Or.inl hm)
  by_cases hl : l = []
  · have e := g3 hl
    subst e
    obtain ⟨x', b, _⟩ := h.bl (Or.inl hm)
    exact g1.no (z := y) (q := []) (b.no h4 (fun g => stk_one hm g))
  · obtain ⟨x', b, _⟩ := g2.bl (Or.inr (g4 hl))
    exact g1.no (z := y) (q := []) (b.no h4 (fun g => stk_more (g4 hl) (InL.cl (p := p) (L := L) (x := x) (g4 hl) hl g5 h2) g (Or.inl (h3 hl))))

theorem InL.line {p L : Int} {x : Sc} (h : InL p L x) (hm : x.mode = 1) {l : List Int} (hl : ∀ n ∈ l, N10 n) (h0 : l ≠ []) : ∃ y, Acc x (numsT l ++ [10]) y ∧ y.mode = 0 ∧ y.part = (if p = 0 then 1 else p) := by
  obtain ⟨y, g1, g2, _, g4, _⟩ := InL.nums hl h (Or.inl hm)
  have e := goes_end (g4 h0) (Or.inl (by rw [g2.letter]; exact g2.ne))
  refine ⟨_, g1.append (Acc.one (c := 10) e), rfl, ?_⟩
  show (if y.part = 0 then (1 : Int) else y.part) = _
  rw [g2.part]

end Go.Proofs.YtmofidaojmiepaaGreatDoor

/-
  TEXTS, as mathematics: the lines of cells; whole texts.
-/
set_option linter.unusedVariables false
set_option linter.unusedSimpArgs false
namespace Go.Proofs.YtmofidaojmiepaaGreatDoor

open Go.Lib (itoa decDigits nDigits)

/-- Within a line c, behind its kind and these numbers. -/
structure InC (p kd : Int) (l : List Int) (x : Sc) : Prop where
  part : x.part = p
  letter : x.letter = 99
  mode : x.mode = 4
  count : x.count = l.length
  val : l = [] → x.value = kd
  want : l ≠ [] → x.want = wantK kd

theorem InC.done {p kd : Int} {l : List Int} {x : Sc} (h : InC p kd l x) : x.doDone.count = l.length + 1 ∧ x.doDone.want = wantK kd ∧ x.doDone.letter = 99 ∧ x.doDone.part = p := by
  refine ⟨?_, ?_, h.letter, h.part⟩
  · show x.count + 1 = _
    rw [h.count]
  · show (if x.isK = true then wantK x.value else x.want) = _
    by_cases hl : l = []
    · have e : x.isK = true := by unfold Sc.isK; rw [h.letter, h.count, hl]; simp
      rw [if_pos e, h.val hl]
    · have h0 : l.length ≠ 0 := fun e => hl (List.eq_nil_of_length_eq_zero e)
      have e : x.isK = false := by unfold Sc.isK; rw [h.letter, h.count]; simp; exact hl
      rw [if_neg (by rw [e]; simp), h.want hl]

theorem InC.full {p kd : Int} {l : List Int} {x : Sc} (h : InC p kd l x) : x.isFull = decide ((l.length : Int) = wantK kd) := by
  obtain ⟨h1, h2, _, _⟩ := h.done
  unfold Sc.isFull
  rw [h1, h2]
  by_cases e : (l.length : Int) = wantK kd
  · rw [decide_eq_true e, decide_eq_true (by omega)]
  · rw [decide_eq_false e, decide_eq_false (by omega)]

theorem InC.bl {p kd : Int} {l : List Int} {x : Sc} (h : InC p kd l x) (hw : (l.length : Int) ≠ wantK kd) : Bl x { x.doDone with mode := 2 } := by
  obtain ⟨h1, h2, h3, _⟩ := h.done
  refine ⟨goes_blank h.mode (Or.inr (by rw [h.full]; exact decide_eq_false hw)), rfl, ?_⟩
  unfold Sc.isK
  show decide (x.doDone.letter = 99 ∧ x.doDone.count = 0) = false
  rw [h1]
  apply decide_eq_false
  omega

theorem InC.num {p kd : Int} {l : List Int} {x : Sc} (h : InC p kd l x) (hw : (l.length : Int) ≠ wantK kd) {n : Int} (hn : N10 n) : ∃ y, Acc x (32 :: itoa n) y ∧ InC p kd (l ++ [n]) y ∧ y.value = n.natAbs ∧ y.digits = nDigits n.natAbs := by
  obtain ⟨h1, h2, h3, h4⟩ := h.done
  refine ⟨_, (h.bl hw).num hn, ⟨h4, h3, rfl, ?_, fun e => by simp at e, fun _ => h2⟩, rfl, rfl⟩
  show x.doDone.count = _
  rw [h1]
  simp

theorem InC.nums {p kd : Int} {l2 : List Int} (hl : ∀ n ∈ l2, N10 n) : ∀ {l : List Int} {x : Sc}, InC p kd l x → ((l.length + l2.length : Nat) : Int) ≤ wantK kd → ∃ y, Acc x (numsT l2) y ∧ InC p kd (l ++ l2) y ∧ (l2 = [] → y = x) ∧ ∀ n l', l2 = l' ++ [n] → y.value = n.natAbs ∧ y.digits = nDigits n.natAbs := by
  induction l2 with
  | nil => exact fun {l x} h _ => ⟨x, rfl, by rw [List.append_nil]; exact h, fun _ => rfl, fun n l' e => by simp at e⟩
  | cons n l2 ih =>
    intro l x h hw
    simp at hw
    obtain ⟨y1, a, h1, v1, d1⟩ := h.num (by omega) (hl n (by simp))
    obtain ⟨y, g1, g2, g3, g5⟩ := ih (fun m hm => hl m (by simp [hm])) h1 (by simp; omega)
    refine ⟨y, ?_, ?_, fun e => by simp at e, fun m l' e => ?_⟩
    · rw [numsT_cons, ← List.cons_append]
      exact a.append g1
    · rw [List.append_assoc] at g2
      exact g2
    · by_cases hn : l2 = []
      · subst hn
        have e2 : n = m := by
          cases l' with
          | nil => simp at e; exact e
          | cons a b => simp at e
        rw [g3 rfl, ← e2]
        exact ⟨v1, d1⟩
      · cases l' with
        | nil => simp at e; exact absurd e.2 hn
        | cons a b =>
          simp at e
          exact g5 m b e.2

/-- A kind. -/
theorem xkind_acc {p kd : Int} {x : Sc} (hm : x.mode = 1) (hp : x.part = p) (hl : x.letter = 99) (hc : x.count = 0) (h0 : 0 ≤ kd) (h1 : kd ≤ 12) : ∃ y, Acc x (32 :: itoa kd) y ∧ InC p kd [] y := by
  have e : (((32 : UInt8).toNat : Nat) : Int) = 32 := rfl
  have a1 : Acc x [32] { x with mode := 2 } := Acc.one (by rw [e]; exact goes_one hm)
  have hk : ({ x with mode := 2 } : Sc).isK = true := by unfold Sc.isK; exact decide_eq_true ⟨hl, hc⟩
  have one : ∀ d : Nat, d < 10 → ({ x with mode := 2 } : Sc).goes (((UInt8.ofNat (48 + d)).toNat : Nat) : Int) = (true, { x with value := d, digits := 1, mode := 4 }) := by
    intro d hd
    rw [ofNat_toNat hd]
    have e2 : (((48 + d : Nat) : Int)) - 48 = d := by omega
    unfold Sc.goes Sc.doDigit
    rw [if_neg (by show ¬ (2 : Int) = 0; omega), if_neg (by show ¬ (2 : Int) = 1; omega), if_pos rfl, if_pos (by omega), if_neg (by show ¬ ((2 : Int) = 4 ∧ _); omega), if_neg (by show ¬ ((2 : Int) = 3 ∧ _); omega), hk, e2]
    simp
    omega
  obtain ⟨u, rfl⟩ : ∃ u : Nat, kd = (u : Int) := ⟨kd.toNat, by omega⟩
  rw [itoa_pos]
  by_cases h10 : u < 10
  · rw [dec_one h10]
    exact ⟨_, a1.append (Acc.one (one u h10)), hp, hl, rfl, hc, fun _ => rfl, fun e => absurd rfl e⟩
  · have e3 : decDigits u = [UInt8.ofNat (48 + 1), UInt8.ofNat (48 + (u - 10))] := by
      rw [decDigits, dif_neg h10, dec_one (by omega)]
      have e4 : u / 10 = 1 := by omega
      have e5 : u % 10 = u - 10 := by omega
      rw [e4, e5]
      rfl
    rw [e3]
    refine ⟨{ x with value := (u : Int), digits := 1 + 1, mode := 4 }, a1.append (Acc.append (p := [_]) (Acc.one (one 1 (by omega))) (Acc.one ?_)), hp, hl, rfl, hc, fun _ => rfl, fun e => absurd rfl e⟩
    rw [ofNat_toNat (by omega)]
    have hk2 : ({ x with value := ((1 : Nat) : Int), digits := 1, mode := 4 } : Sc).isK = true := by unfold Sc.isK; exact decide_eq_true ⟨hl, hc⟩
    unfold Sc.goes Sc.doDigit
    rw [if_neg (by show ¬ (4 : Int) = 0; omega), if_neg (by show ¬ (4 : Int) = 1; omega), if_neg (by show ¬ (4 : Int) = 2; omega), if_neg (by show ¬ (4 : Int) = 3; omega), if_pos (by omega), if_neg (by show ¬ ((4 : Int) = 4 ∧ (((1 : Nat) : Int) = 0 ∨ 9 < (1 : Int))); omega), if_neg (by show ¬ ((4 : Int) = 3 ∧ _); omega), hk2]
    have e6 : 10 * ((1 : Nat) : Int) + (((48 + (u - 10) : Nat) : Int) - 48) = u := by omega
    simp only [if_true, e6]
    simp
    omega

theorem xkind_no {x : Sc} (hm : x.mode = 1) (hl : x.letter = 99) (hc : x.count = 0) {r r' : List UInt8} (h : KindNo r r') : ∃ q z, r = q ++ r' ∧ Acc x q z ∧ Stk z r' := by
  have e : (((32 : UInt8).toNat : Nat) : Int) = 32 := rfl
  have a1 : Acc x [32] { x with mode := 2 } := Acc.one (by rw [e]; exact goes_one hm)
  have hk : ({ x with mode := 2 } : Sc).isK = true := by unfold Sc.isK; exact decide_eq_true ⟨hl, hc⟩
  rcases h with ⟨rfl, g⟩ | ⟨rfl, g⟩
  · exact ⟨[], x, rfl, rfl, stk_one hm g⟩
  · refine ⟨[32], _, rfl, a1, ?_⟩
    cases r' with
    | nil => exact Or.inl ⟨rfl, by unfold Sc.fin; simp⟩
    | cons c t =>
      refine Or.inr ⟨c, t, rfl, ?_⟩
      have h3 := g c t rfl
      unfold Dg at h3
      unfold Sc.goes
      rw [if_neg (by show ¬ (2 : Int) = 0; omega), if_neg (by show ¬ (2 : Int) = 1; omega), if_pos rfl, if_neg (by omega), hk]
      simp

/-- A line c can't be read. -/
def CellNo (r r' : List UInt8) : Prop := KindNo r r' ∨ ∃ kd l r1, r = 32 :: (itoa kd ++ (numsT l ++ r1)) ∧ 0 ≤ kd ∧ kd ≤ 12 ∧ (∀ n ∈ l, N10 n) ∧ MuK kd l r1 ∧ (((l.length : Int) < wantK kd ∧ NumNo r1 r') ∨ ((l.length : Int) = wantK kd ∧ Not 10 r1 ∧ r' = r1))

theorem xcell_no {x : Sc} (hm : x.mode = 1) (hl : x.letter = 99) (hc : x.count = 0) {r r' : List UInt8} (h : CellNo r r') : ∃ q z, r = q ++ r' ∧ Acc x q z ∧ Stk z r' := by
  rcases h with h | ⟨kd, l, r1, rfl, k0, k1, hn, hmu, h⟩
  · exact xkind_no hm hl hc h
  · obtain ⟨y0, a0, i0⟩ := xkind_acc hm rfl hl hc k0 k1
    have w1 := wantK_bd k0 k1
    obtain ⟨y, a1, i1, e1, v1⟩ := InC.nums hn i0 (by rcases h with ⟨h, _⟩ | ⟨h, _⟩ <;> simp <;> omega)
    rw [List.nil_append] at i1
    have A : Acc x (32 :: (itoa kd ++ numsT l)) y := by
      rw [← List.cons_append]
      exact a0.append a1
    have E : 32 :: (itoa kd ++ (numsT l ++ r1)) = 32 :: (itoa kd ++ numsT l) ++ r1 := by simp
    rw [E]
    have CL : Cl y r1 := by
      by_cases hl0 : l = []
      · refine cl_kind i1.mode ?_ ?_ ?_
        · unfold Sc.isK; exact decide_eq_true ⟨i1.letter, by rw [i1.count, hl0]; rfl⟩
        · rw [i1.val hl0]; exact k0
        · rw [i1.val hl0]; exact hmu.2 hl0
      · exact InL.cl (p := 0) (L := 0) (x := x) i1.mode hl0 v1 (hmu.1 hl0)
    rcases h with ⟨h1, h2⟩ | ⟨h1, h2, rfl⟩
    · exact A.no (z := y) (q := []) ((i1.bl (by omega)).no h2 (fun g => stk_more i1.mode CL g (Or.inr ⟨i1.letter, by rw [i1.full]; exact decide_eq_false (by omega)⟩)))
    · exact ⟨_, y, rfl, A, stk_full i1.mode CL h2 i1.letter (by rw [i1.full]; exact decide_eq_true h1)⟩

/-! ### Texts -/

def lineT (c : UInt8) (l : List Int) : List UInt8 := c :: (numsT l ++ [10])

def RowL (l : List Int) : Prop := l ≠ [] ∧ ∀ n ∈ l, N10 n

def CellL (l : List Int) : Prop := ∃ kd t, l = kd :: t ∧ 0 ≤ kd ∧ kd ≤ 12 ∧ (t.length : Int) = wantK kd ∧ ∀ n ∈ t, N10 n

structure Doc where
  w : List Int
  cs : List (List Int)
  rs : List (List Int)

structure Doc.Ok (d : Doc) : Prop where
  w : RowL d.w
  cs : ∀ l ∈ d.cs, CellL l
  rs : ∀ l ∈ d.rs, RowL l

def csT (cs : List (List Int)) : List UInt8 := cs.flatMap (lineT 99)

def rsT (rs : List (List Int)) : List UInt8 := rs.flatMap (lineT 114)

def Doc.text (d : Doc) : List UInt8 := lineT 119 d.w ++ (csT d.cs ++ rsT d.rs)

def sc0 : Sc := ⟨0, 0, 0, 0, 0, false, 0, 0⟩

theorem let_w {x : Sc} (hm : x.mode = 0) (hp : x.part = 0) : ∃ y, Acc x [119] y ∧ InL 0 119 y ∧ y.mode = 1 := by
  refine ⟨{ x with letter := 119, mode := 1, count := 0, want := 0 }, Acc.one ?_, ⟨hp, rfl, by omega⟩, rfl⟩
  rw [show (((119 : UInt8).toNat : Nat) : Int) = 119 from rfl]
  unfold Sc.goes Sc.doLetter
  rw [if_pos hm, if_pos rfl, hp]
  rfl

theorem let_c {x : Sc} (hm : x.mode = 0) (hp : x.part = 1) : ∃ y, Acc x [99] y ∧ y.mode = 1 ∧ y.letter = 99 ∧ y.count = 0 ∧ y.part = 1 := by
  refine ⟨{ x with letter := 99, mode := 1, count := 0, want := 0 }, Acc.one ?_, rfl, rfl, rfl, hp⟩
  rw [show (((99 : UInt8).toNat : Nat) : Int) = 99 from rfl]
  unfold Sc.goes Sc.doLetter
  rw [if_pos hm, if_neg (by omega), if_pos rfl, hp]
  rfl

theorem let_r {x : Sc} (hm : x.mode = 0) (hp : 0 < x.part) : ∃ y, Acc x [114] y ∧ InL 2 114 y ∧ y.mode = 1 := by
  refine ⟨{ x with letter := 114, mode := 1, count := 0, want := 0, part := 2 }, Acc.one ?_, ⟨rfl, rfl, by omega⟩, rfl⟩
  rw [show (((114 : UInt8).toNat : Nat) : Int) = 114 from rfl]
  unfold Sc.goes Sc.doLetter
  rw [if_pos hm, if_neg (by omega), if_neg (by omega), if_pos rfl, decide_eq_true hp]

theorem line_w {x : Sc} (hm : x.mode = 0) (hp : x.part = 0) {l : List Int} (h : RowL l) : ∃ y, Acc x (lineT 119 l) y ∧ y.mode = 0 ∧ y.part = 1 := by
  obtain ⟨y, a, i, m⟩ := let_w hm hp
  obtain ⟨z, b, m2, p2⟩ := i.line m h.2 h.1
  exact ⟨z, a.append b, m2, p2⟩

theorem line_r {x : Sc} (hm : x.mode = 0) (hp : 0 < x.part) {l : List Int} (h : RowL l) : ∃ y, Acc x (lineT 114 l) y ∧ y.mode = 0 ∧ y.part = 2 := by
  obtain ⟨y, a, i, m⟩ := let_r hm hp
  obtain ⟨z, b, m2, p2⟩ := i.line m h.2 h.1
  exact ⟨z, a.append b, m2, p2⟩

theorem line_c {x : Sc} (hm : x.mode = 0) (hp : x.part = 1) {l : List Int} (h : CellL l) : ∃ y, Acc x (lineT 99 l) y ∧ y.mode = 0 ∧ y.part = 1 := by
  obtain ⟨kd, t, rfl, k0, k1, hw, hn⟩ := h
  obtain ⟨y, a, m, l1, c1, p1⟩ := let_c hm hp
  obtain ⟨y0, a0, i0⟩ := xkind_acc m p1 l1 c1 k0 k1
  obtain ⟨y2, a2, i2, _, _⟩ := InC.nums hn i0 (by simp; omega)
  rw [List.nil_append] at i2
  have e := goes_end i2.mode (Or.inr (by rw [i2.full]; exact decide_eq_true hw))
  refine ⟨{ y2 with mode := 0, part := if y2.part = 0 then 1 else y2.part }, ?_, rfl, ?_⟩
  · have : lineT 99 (kd :: t) = [99] ++ ((32 :: itoa kd) ++ (numsT t ++ [10])) := by unfold lineT; rw [numsT_cons]; simp
    rw [this]
    exact a.append (a0.append (a2.append (Acc.one (c := 10) e)))
  · show (if y2.part = 0 then (1 : Int) else y2.part) = 1
    rw [i2.part]
    rfl

theorem cs_acc {cs : List (List Int)} (h : ∀ l ∈ cs, CellL l) : ∀ {x : Sc}, x.mode = 0 → x.part = 1 → ∃ y, Acc x (csT cs) y ∧ y.mode = 0 ∧ y.part = 1 := by
  induction cs with
  | nil => exact fun {x} hm hp => ⟨x, rfl, hm, hp⟩
  | cons l cs ih =>
    intro x hm hp
    obtain ⟨y, a, m, p⟩ := line_c hm hp (h l (by simp))
    obtain ⟨z, b, m2, p2⟩ := ih (fun k hk => h k (by simp [hk])) m p
    exact ⟨z, by unfold csT; rw [List.flatMap_cons]; exact a.append b, m2, p2⟩

theorem rs_acc {rs : List (List Int)} (h : ∀ l ∈ rs, RowL l) : ∀ {x : Sc}, x.mode = 0 → 0 < x.part → ∃ y, Acc x (rsT rs) y ∧ y.mode = 0 ∧ (rs = [] → y = x) ∧ (rs ≠ [] → y.part = 2) := by
  induction rs with
  | nil => exact fun {x} hm hp => ⟨x, rfl, hm, fun _ => rfl, fun e => absurd rfl e⟩
  | cons l rs ih =>
    intro x hm hp
    obtain ⟨y, a, m, p⟩ := line_r hm hp (h l (by simp))
    obtain ⟨z, b, m2, e0, p2⟩ := ih (fun k hk => h k (by simp [hk])) m (by omega)
    refine ⟨z, by unfold rsT; rw [List.flatMap_cons]; exact a.append b, m2, fun e => by simp at e, fun _ => ?_⟩
    by_cases hr : rs = []
    · rw [e0 hr]; exact p
    · exact p2 hr

theorem Doc.acc {d : Doc} (h : d.Ok) : ∃ y, Acc sc0 d.text y ∧ y.mode = 0 ∧ (d.rs = [] → y.part = 1) ∧ (d.rs ≠ [] → y.part = 2) := by
  obtain ⟨x1, a1, m1, p1⟩ := line_w (x := sc0) rfl rfl h.w
  obtain ⟨x2, a2, m2, p2⟩ := cs_acc h.cs m1 p1
  obtain ⟨x3, a3, m3, e3, p3⟩ := rs_acc h.rs m2 (by omega)
  exact ⟨x3, a1.append (a2.append a3), m3, fun e => by rw [e3 e]; exact p2, p3⟩

theorem Doc.pl {d : Doc} (h : d.Ok) : pl sc0 d.text = none := by
  obtain ⟨y, a, m, p1, p2⟩ := Doc.acc h
  have := a.on []
  rw [List.append_nil] at this
  rw [this, pl_nil, if_pos]
  · rfl
  · unfold Sc.fin
    refine decide_eq_true ⟨m, ?_⟩
    by_cases hr : d.rs = []
    · rw [p1 hr]; omega
    · rw [p2 hr]; omega

/-- No text: r' is where that shows. -/
def TextNo (s r' : List UInt8) : Prop :=
  (Not 119 s ∧ r' = s) ∨ (∃ t, s = 119 :: t ∧ LineNo t r')
  ∨ (∃ d t, Doc.Ok d ∧ d.rs = [] ∧ s = d.text ++ 99 :: t ∧ CellNo t r')
  ∨ (∃ d t, Doc.Ok d ∧ s = d.text ++ 114 :: t ∧ LineNo t r')
  ∨ (∃ d, Doc.Ok d ∧ s = d.text ++ r' ∧ r' ≠ [] ∧ Not 114 r' ∧ (d.rs = [] → Not 99 r'))

theorem stk_zero {x : Sc} (hm : x.mode = 0) {c : UInt8} {t : List UInt8} (h1 : x.part ≠ 0 ∨ c ≠ 119) (h2 : x.part ≠ 1 ∨ c ≠ 99) (h3 : x.part ≤ 0 ∨ c ≠ 114) : Stk x (c :: t) := by
  refine Or.inr ⟨c, t, rfl, ?_⟩
  unfold Sc.goes Sc.doLetter
  rw [if_pos hm]
  by_cases c1 : (c.toNat : Int) = 119
  · have e : c = 119 := UInt8.toNat_inj.1 (by rw [show (119 : UInt8).toNat = 119 from rfl]; omega)
    rw [if_pos c1]
    rcases h1 with h | h
    · exact decide_eq_false h
    · exact absurd e h
  · rw [if_neg c1]
    by_cases c2 : (c.toNat : Int) = 99
    · have e : c = 99 := UInt8.toNat_inj.1 (by rw [show (99 : UInt8).toNat = 99 from rfl]; omega)
      rw [if_pos c2]
      rcases h2 with h | h
      · exact decide_eq_false h
      · exact absurd e h
    · rw [if_neg c2]
      by_cases c3 : (c.toNat : Int) = 114
      · have e : c = 114 := UInt8.toNat_inj.1 (by rw [show (114 : UInt8).toNat = 114 from rfl]; omega)
        rw [if_pos c3]
        rcases h3 with h | h
        · exact decide_eq_false (by omega)
        · exact absurd e h
      · rw [if_neg c3]

theorem TextNo.pl {s r' : List UInt8} (h : TextNo s r') : pl sc0 s = some (s.length - r'.length) := by
  rcases h with ⟨h, rfl⟩ | ⟨t, rfl, h⟩ | ⟨d, t, hd, hr, rfl, h⟩ | ⟨d, t, hd, rfl, h⟩ | ⟨d, hd, rfl, h0, h1, h2⟩
  · refine no_place ⟨[], sc0, rfl, rfl, ?_⟩
    cases r' with
    | nil => exact Or.inl ⟨rfl, rfl⟩
    | cons c t => exact stk_zero rfl (Or.inr (not_head h)) (Or.inl (by show (0 : Int) ≠ 1; omega)) (Or.inl (Int.le_refl _))
  · obtain ⟨y, a, i, m⟩ := let_w (x := sc0) rfl rfl
    exact no_place (a.no (z := y) (q := []) (i.no m h))
  · obtain ⟨y, a, m, p1, _⟩ := Doc.acc hd
    obtain ⟨y2, a2, m2, l2, c2, _⟩ := let_c m (p1 hr)
    exact no_place (a.no (z := y) (q := []) (a2.no (z := y) (q := []) (xcell_no m2 l2 c2 h)))
  · obtain ⟨y, a, m, p1, p2⟩ := Doc.acc hd
    obtain ⟨y2, a2, i2, m2⟩ := let_r m (by by_cases hr : d.rs = []; (rw [p1 hr]; omega); (rw [p2 hr]; omega))
    exact no_place (a.no (z := y) (q := []) (a2.no (z := y) (q := []) (i2.no m2 h)))
  · obtain ⟨y, a, m, p1, p2⟩ := Doc.acc hd
    refine no_place ⟨_, y, rfl, a, ?_⟩
    cases r' with
    | nil => exact absurd rfl h0
    | cons c t =>
      by_cases hr : d.rs = []
      · exact stk_zero m (Or.inl (by rw [p1 hr]; omega)) (Or.inr (not_head (h2 hr))) (Or.inr (not_head h1))
      · exact stk_zero m (Or.inl (by rw [p2 hr]; omega)) (Or.inl (by rw [p2 hr]; omega)) (Or.inr (not_head h1))

end Go.Proofs.YtmofidaojmiepaaGreatDoor

/-
  TEXTS, as mathematics: a number, read digit by digit.
-/
set_option linter.unusedVariables false
set_option linter.unusedSimpArgs false
namespace Go.Proofs.YtmofidaojmiepaaGreatDoor

open Go.Lib (itoa decDigits nDigits)

def valF (a : Nat) (q : List UInt8) : Nat := q.foldl (fun a c => 10 * a + (c.toNat - 48)) a

theorem valF_nil (a : Nat) : valF a [] = a := rfl

theorem valF_cons (a : Nat) (c : UInt8) (q : List UInt8) : valF a (c :: q) = valF (10 * a + (c.toNat - 48)) q := by unfold valF; rw [List.foldl_cons]

theorem valF_le : ∀ (q : List UInt8) (a : Nat), a ≤ valF a q := by
  intro q
  induction q with
  | nil => exact fun a => Nat.le_refl _
  | cons c q ih => intro a; rw [valF_cons]; have := ih (10 * a + (c.toNat - 48)); omega

theorem valF_dec (n : Nat) : valF 0 (decDigits n) = n := by
  induction n using Nat.strongRecOn with
  | ind n ih =>
    by_cases h : n < 10
    · rw [dec_one h, valF_cons, valF_nil, ofNat_toNat h]; omega
    · have h1 : n = 10 * (n / 10) + n % 10 := by omega
      have h2 := ih (n / 10) (by omega)
      rw [h1, dec_more (by omega) (by omega)]
      unfold valF
      rw [List.foldl_append]
      show 10 * valF 0 (decDigits (n / 10)) + ((UInt8.ofNat (48 + n % 10)).toNat - 48) = _
      rw [h2, ofNat_toNat (by omega)]
      omega

/-- Within a number: cur is what was read of it, q is still to be read. -/
def NumSt (n cur : Int) (m : Bool) (q : List UInt8) : Prop :=
  (cur = 0 ∧ m = false ∧ q = 45 :: decDigits n.natAbs ∧ n < 0) ∨ (∃ a : Nat, (∀ c ∈ q, Dg c) ∧ valF a q = n.natAbs ∧ m = decide (n < 0) ∧ cur = (if n < 0 then -(a : Int) else a))

theorem NumSt.start (n : Int) : NumSt n 0 false (itoa n) := by
  by_cases h : n < 0
  · obtain ⟨k, hk⟩ := Int.eq_ofNat_of_zero_le (show 0 ≤ -n by omega)
    obtain rfl : n = -(k : Int) := by omega
    left
    exact ⟨rfl, rfl, by rw [itoa_neg (by omega)]; simp, h⟩
  · obtain ⟨k, rfl⟩ := Int.eq_ofNat_of_zero_le (show 0 ≤ n by omega)
    right
    refine ⟨0, ?_, ?_, by simp, by simp⟩
    · rw [itoa_pos]; exact dec_digits k
    · rw [itoa_pos, valF_dec]; simp

theorem NumSt.done {n cur : Int} {m : Bool} (h : NumSt n cur m []) : cur = n := by
  rcases h with ⟨_, _, h, _⟩ | ⟨a, _, h1, _, h2⟩
  · cases h
  · rw [valF_nil] at h1
    rw [h2]
    split
    · omega
    · omega

theorem NumSt.step {n cur : Int} {m : Bool} {c : UInt8} {q : List UInt8} (h : NumSt n cur m (c :: q)) :
    (c = 45 ∧ NumSt n cur true q) ∨ (Dg c ∧ NumSt n (10 * cur + (if m = true then -((c.toNat : Int) - 48) else (c.toNat : Int) - 48)) m q ∧ cur.natAbs ≤ n.natAbs) := by
  rcases h with ⟨rfl, rfl, h, hn⟩ | ⟨a, h1, h2, rfl, rfl⟩
  · obtain ⟨rfl, rfl⟩ := List.cons.inj h
    left
    refine ⟨rfl, Or.inr ⟨0, dec_digits _, valF_dec _, by simp [hn], by simp⟩⟩
  · right
    have hc := h1 c (by simp)
    have hd := hc
    unfold Dg at hd
    rw [valF_cons] at h2
    refine ⟨hc, Or.inr ⟨10 * a + (c.toNat - 48), fun x hx => h1 x (by simp [hx]), h2, rfl, ?_⟩, ?_⟩
    · by_cases hn : n < 0
      · simp only [hn, if_true, decide_true]; omega
      · simp only [hn, if_false, decide_false]; simp; omega
    · have := valF_le q (10 * a + (c.toNat - 48))
      split <;> omega

theorem dg_ne {c : UInt8} (h : Dg c) : c ≠ 10 ∧ c ≠ 32 ∧ c ≠ 45 := by
  unfold Dg at h
  refine ⟨?_, ?_, ?_⟩ <;> (rintro rfl; revert h; decide)

end Go.Proofs.YtmofidaojmiepaaGreatDoor
