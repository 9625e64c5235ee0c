/-
  PLAIN MATHEMATICS, no program: ways in a graph of n nodes, what lies in a ring, and that among nodes that lie in no ring there is always one all of whose needs are done.
-/
import Derived.WalkKit
import Derived.Lib.RabinKarpLaws
import Derived.Test.YtmofidaojmiepaaGreatDoorProg
import Derived.WalkSpells
import Derived.Deep.OwnRows
import Derived.Deep.LoopGhost
import Derived.Deep.RegionHeld3
import Derived.Deep.DrawnRows
set_option linter.unusedVariables false
set_option linter.unusedSimpArgs false
namespace Go.Proofs.YtmofidaojmiepaaGreatDoor.M

/-- A way of s steps from i to j. -/
def Way (E : Nat → Nat → Prop) : Nat → Nat → Nat → Prop
  | 0, i, j => i = j
  | s + 1, i, j => ∃ k, Way E s i k ∧ E k j

theorem way_trans {E : Nat → Nat → Prop} {s i k : Nat} (h : Way E s i k) : ∀ {t j : Nat}, Way E t k j → Way E (s + t) i j
  | 0, j, g => by
    have e : k = j := g
    subst e
    exact h
  | t + 1, j, g => by
    obtain ⟨m, g1, g2⟩ := g
    exact ⟨m, way_trans h g1, g2⟩

theorem way_nodes {E : Nat → Nat → Prop} {p : Nat → Nat} {s : Nat} (h : ∀ t, t < s → E (p t) (p (t + 1))) : ∀ d a, a + d ≤ s → Way E d (p a) (p (a + d))
  | 0, _, _ => rfl
  | d + 1, a, hs => ⟨p (a + d), way_nodes h d a (by omega), h (a + d) (by omega)⟩

theorem nodes_of_way {E : Nat → Nat → Prop} {i : Nat} : ∀ {s j : Nat}, Way E s i j → ∃ p : Nat → Nat, p 0 = i ∧ p s = j ∧ ∀ t, t < s → E (p t) (p (t + 1))
  | 0, j, h => ⟨fun _ => i, rfl, h, fun t ht => by omega⟩
  | s + 1, j, h => by
    obtain ⟨k, h1, h2⟩ := h
    obtain ⟨p, p0, ps, pe⟩ := nodes_of_way h1
    refine ⟨fun t => if t ≤ s then p t else j, by simp [p0], if_neg (by omega), fun t ht => ?_⟩
    by_cases e : t = s
    · subst e; simp only [Nat.le_refl, if_true, show ¬ t + 1 ≤ t by omega, if_false, ps]; exact h2
    · have h3 : t < s := by omega
      simp [show t ≤ s by omega, show t + 1 ≤ s by omega, pe t h3]

theorem pigeon : ∀ (n : Nat) (f : Nat → Nat), (∀ i, i ≤ n → f i < n) → ∃ a b, a < b ∧ b ≤ n ∧ f a = f b
  | 0, f, h => by have := h 0 (by omega); omega
  | n + 1, f, h => by
    by_cases hv : ∃ a, a ≤ n ∧ f a = f (n + 1)
    · obtain ⟨a, h1, h2⟩ := hv
      exact ⟨a, n + 1, by omega, by omega, h2⟩
    · have hno : ∀ a, a ≤ n → f a ≠ f (n + 1) := fun a ha e => hv ⟨a, ha, e⟩
      have hlast := h (n + 1) (by omega)
      obtain ⟨a, b, hab, hb, hg⟩ := pigeon n (fun i => if f i = n then f (n + 1) else f i) (fun i hi => by
        have h1 := h i (by omega)
        have h2 := hno i hi
        by_cases e : f i = n
        · simp only [e, if_true]; omega
        · simp only [e, if_false]; omega)
      refine ⟨a, b, hab, by omega, ?_⟩
      have ha := hno a (by omega)
      have hb' := hno b (by omega)
      by_cases ea : f a = n <;> by_cases eb : f b = n <;> simp only [ea, eb, if_true, if_false] at hg <;> omega

/-- The edges stay among n nodes. -/
def Within (E : Nat → Nat → Prop) (n : Nat) : Prop := ∀ i j, E i j → j < n

theorem way_short {E : Nat → Nat → Prop} {n : Nat} (hE : Within E n) {i j : Nat} : ∀ (m s : Nat), s ≤ m → 1 ≤ s → Way E s i j → ∃ t, 1 ≤ t ∧ t ≤ n ∧ Way E t i j
  | 0, s, h1, h2, _ => by omega
  | m + 1, s, h1, h2, h => by
    by_cases hs : s ≤ n
    · exact ⟨s, h2, hs, h⟩
    · obtain ⟨p, p0, ps, pe⟩ := nodes_of_way h
      obtain ⟨a, b, hab, hb, hq⟩ := pigeon n (fun t => p (t + 1)) (fun t ht => hE (p t) _ (pe t (by omega)))
      have w1 : Way E (a + 1) i (p (a + 1)) := by
        have := way_nodes pe (a + 1) 0 (by omega)
        rw [p0] at this; simpa using this
      have w2 : Way E (s - (b + 1)) (p (b + 1)) j := by
        have := way_nodes pe (s - (b + 1)) (b + 1) (by omega)
        rw [show b + 1 + (s - (b + 1)) = s by omega, ps] at this; exact this
      have hq' : p (a + 1) = p (b + 1) := hq
      rw [← hq'] at w2
      exact way_short hE m _ (by omega) (by omega) (way_trans w1 w2)

/-- Lies the node in a ring? -/
def Ring (E : Nat → Nat → Prop) (i : Nat) : Prop := ∃ s, 1 ≤ s ∧ Way E s i i

theorem ring_short {E : Nat → Nat → Prop} {n : Nat} (hE : Within E n) (i : Nat) : Ring E i ↔ ∃ t, 1 ≤ t ∧ t ≤ n ∧ Way E t i i :=
  ⟨fun ⟨s, h1, h2⟩ => way_short hE s s (Nat.le_refl _) h1 h2, fun ⟨t, h1, _, h3⟩ => ⟨t, h1, h3⟩⟩

/-- Where nothing lies in a ring: of nodes that are not done there is one that needs none of them. -/
theorem progress {E : Nat → Nat → Prop} {n : Nat} (hno : ∀ i, i < n → ¬ Ring E i) (U : Nat → Prop) (hU : ∀ i, U i → i < n) {i0 : Nat} (h0 : U i0) : ∃ i, U i ∧ ∀ j, E i j → ¬ U j := by
  apply Classical.byContradiction
  intro hcon
  have step : ∀ i, U i → ∃ j, E i j ∧ U j := by
    intro i hi
    apply Classical.byContradiction
    intro h
    exact hcon ⟨i, hi, fun j hj hu => h ⟨j, hj, hu⟩⟩
  have build : ∀ s : Nat, ∃ p : Nat → Nat, p 0 = i0 ∧ (∀ t, t ≤ s → U (p t)) ∧ ∀ t, t < s → E (p t) (p (t + 1)) := by
    intro s
    induction s with
    | zero => exact ⟨fun _ => i0, rfl, fun _ _ => h0, fun t ht => by omega⟩
    | succ s ih =>
      obtain ⟨p, p0, pu, pe⟩ := ih
      obtain ⟨j, hj, hu⟩ := step (p s) (pu s (Nat.le_refl _))
      refine ⟨fun t => if t ≤ s then p t else j, by simp [p0], fun t ht => ?_, fun t ht => ?_⟩
      · by_cases e : t ≤ s
        · simp only [e, if_true]; exact pu t e
        · simp only [e, if_false]; exact hu
      · by_cases e : t = s
        · subst e; simp only [Nat.le_refl, if_true, show ¬ t + 1 ≤ t by omega, if_false]; exact hj
        · simp [show t ≤ s by omega, show t + 1 ≤ s by omega, pe t (by omega)]
  obtain ⟨p, p0, pu, pe⟩ := build n
  obtain ⟨a, b, hab, hb, hq⟩ := pigeon n p (fun t ht => hU _ (pu t ht))
  have w := way_nodes pe (b - a) a (by omega)
  rw [show a + (b - a) = b by omega, ← hq] at w
  exact hno (p a) (hU _ (pu a (by omega))) ⟨b - a, by omega, w⟩

end Go.Proofs.YtmofidaojmiepaaGreatDoor.M

/-
  PLAIN MATHEMATICS, no program: days at work, and the k-th of them behind a day.
-/
set_option linter.unusedVariables false
set_option linter.unusedSimpArgs false
namespace Go.Proofs.YtmofidaojmiepaaGreatDoor.M

/-- Is the day's bit in the week? -/
def atw (week day : Int) : Bool := decide (week / 2 ^ (day % 7).toNat % 2 = 1)

/-- Is it a working day? -/
def wkd (week : Int) (hol : List Int) (day : Int) : Bool := atw week day && !hol.contains day

/-- How many of the n days behind d are so. -/
def cnt (p : Int → Bool) (d : Int) : Nat → Nat
  | 0 => 0
  | n + 1 => cnt p d n + if p (d + ((n + 1 : Nat) : Int)) then 1 else 0

theorem cnt_add (p : Int → Bool) (d : Int) (n : Nat) : ∀ m, cnt p d (n + m) = cnt p d n + cnt p (d + n) m
  | 0 => rfl
  | m + 1 => by
    have e : d + ((n + m + 1 : Nat) : Int) = d + n + ((m + 1 : Nat) : Int) := by omega
    show cnt p d (n + m) + (if p (d + ((n + m + 1 : Nat) : Int)) then 1 else 0) = _
    rw [cnt_add p d n m, e]
    simp only [cnt]; omega

theorem cnt_mono (p : Int → Bool) (d : Int) {n m : Nat} (h : n ≤ m) : cnt p d n ≤ cnt p d m := by
  obtain ⟨k, rfl⟩ : ∃ k, m = n + k := ⟨m - n, by omega⟩
  rw [cnt_add]; omega

theorem cnt_one (p : Int → Bool) (d : Int) : cnt p d 1 = if p (d + 1) then 1 else 0 := by simp [cnt]

theorem cnt_congr {p q : Int → Bool} {d : Int} : ∀ {n : Nat}, (∀ i : Nat, 1 ≤ i → i ≤ n → p (d + i) = q (d + i)) → cnt p d n = cnt q d n
  | 0, _ => rfl
  | n + 1, h => by
    have h1 : cnt p d n = cnt q d n := cnt_congr fun i a b => h i a (by omega)
    have h2 := h (n + 1) (by omega) (by omega)
    simp only [cnt, h1, h2]

/-- The k-th such day behind d is T; T is d, if k is 0. -/
def IsDue (p : Int → Bool) (d : Int) (k : Nat) (T : Int) : Prop := ∃ n : Nat, T = d + n ∧ cnt p d n = k ∧ (n = 0 ∨ p T = true)

theorem due_zero (p : Int → Bool) (d : Int) : IsDue p d 0 d := ⟨0, by omega, rfl, Or.inl rfl⟩

theorem due_lt {p : Int → Bool} {d : Int} {k : Nat} {a b : Nat} (hab : a < b) (h1 : cnt p d a = k) (h2 : cnt p d b = k) (h3 : p (d + b) = true) : False := by
  obtain ⟨m, rfl⟩ : ∃ m, b = m + 1 := ⟨b - 1, by omega⟩
  have h := cnt_mono p d (show a ≤ m by omega)
  simp only [cnt, h3, if_true] at h2
  omega

theorem due_unique {p : Int → Bool} {d : Int} {k : Nat} {T S : Int} (h : IsDue p d k T) (g : IsDue p d k S) : T = S := by
  obtain ⟨a, rfl, h2, h3⟩ := h
  obtain ⟨b, rfl, g2, g3⟩ := g
  by_cases e : a = b
  · rw [e]
  · rcases h3 with h3 | h3 <;> rcases g3 with g3 | g3
    · omega
    · exact (due_lt (show a < b by omega) h2 g2 g3).elim
    · exact (due_lt (show b < a by omega) g2 h2 h3).elim
    · by_cases l : a < b
      · exact (due_lt l h2 g2 g3).elim
      · exact (due_lt (show b < a by omega) g2 h2 h3).elim

theorem due_step {p : Int → Bool} {d : Int} {k : Nat} {T : Int} (h : IsDue p d (k + 1) T) : d < T ∧ IsDue p (d + 1) (if p (d + 1) then k else k + 1) T := by
  obtain ⟨n, rfl, h2, h3⟩ := h
  obtain ⟨m, rfl⟩ : ∃ m, n = 1 + m := by
    cases n with
    | zero => simp [cnt] at h2
    | succ m => exact ⟨m, by omega⟩
  refine ⟨by omega, m, by omega, ?_, ?_⟩
  · rw [cnt_add, cnt_one] at h2
    have e : d + ((1 : Nat) : Int) = d + 1 := by omega
    rw [e] at h2
    cases hp : p (d + 1) <;> simp only [hp] at h2 ⊢ <;> simp at h2 ⊢ <;> omega
  · rcases h3 with h3 | h3
    · omega
    · exact Or.inr h3

theorem due_end {p : Int → Bool} {d : Int} {T : Int} (h : IsDue p d 0 T) : T = d := due_unique h (due_zero p d)

theorem due_first (p : Int → Bool) (d : Int) (k : Nat) : ∀ m : Nat, k ≤ cnt p d m → ∃ n : Nat, n ≤ m ∧ cnt p d n = k ∧ (n = 0 ∨ p (d + n) = true)
  | 0, h => ⟨0, by omega, by simp only [cnt] at h ⊢; omega, Or.inl rfl⟩
  | m + 1, h => by
    by_cases hk : k ≤ cnt p d m
    · obtain ⟨n, h1, h2⟩ := due_first p d k m hk
      exact ⟨n, by omega, h2⟩
    · have h' := h
      simp only [cnt] at h
      by_cases hp : p (d + ((m + 1 : Nat) : Int)) = true
      · exact ⟨m + 1, by omega, by simp only [hp, if_true] at h; simp only [cnt, hp, if_true]; omega, Or.inr hp⟩
      · simp only [hp] at h; simp at h; omega

/-! Weeks. -/

theorem atw_week (week day : Int) : atw week (day + 7) = atw week day := by
  unfold atw
  rw [show (day + 7) % 7 = day % 7 by omega]

theorem atw_congr (week : Int) {a b : Int} (h : a % 7 = b % 7) : atw week a = atw week b := by unfold atw; rw [h]

theorem cnt_shift (week d : Int) : cnt (atw week) (d + 1) 7 = cnt (atw week) d 7 := by
  have h1 := cnt_add (atw week) d 1 7
  have h2 := cnt_add (atw week) d 7 1
  rw [cnt_one] at h1 h2
  have e1 : d + ((1 : Nat) : Int) = d + 1 := by omega
  have e2 : d + ((7 : Nat) : Int) + 1 = d + 1 + 7 := by omega
  rw [e1] at h1
  rw [e2, atw_week] at h2
  have e3 : (1 + 7 : Nat) = 7 + 1 := rfl
  rw [e3] at h1
  omega

theorem cnt_week (week : Int) (d : Int) : cnt (atw week) d 7 = cnt (atw week) (-1) 7 := by
  have up : ∀ (n : Nat) (x : Int), cnt (atw week) (x + n) 7 = cnt (atw week) x 7 := by
    intro n
    induction n with
    | zero => intro x; simp
    | succ n ih => intro x; rw [show x + ((n + 1 : Nat) : Int) = x + n + 1 by omega, cnt_shift, ih]
  by_cases h : -1 ≤ d
  · have := up (d + 1).toNat (-1)
    rw [show -1 + ((d + 1).toNat : Int) = d by omega] at this; exact this
  · have := up (-1 - d).toNat d
    rw [show d + ((-1 - d).toNat : Int) = -1 by omega] at this; exact this.symm

theorem cnt_weeks (week d : Int) : ∀ w : Nat, cnt (atw week) d (w * 7) = w * cnt (atw week) (-1) 7
  | 0 => by simp [cnt]
  | w + 1 => by rw [show (w + 1) * 7 = w * 7 + 7 by omega, cnt_add, cnt_weeks week d w, cnt_week week (d + _), Nat.add_mul]; omega

theorem pow_seven {P : Nat → Prop} (h0 : P 0) (h1 : P 1) (h2 : P 2) (h3 : P 3) (h4 : P 4) (h5 : P 5) (h6 : P 6) : ∀ i, i < 7 → P i
  | 0, _ => h0 | 1, _ => h1 | 2, _ => h2 | 3, _ => h3 | 4, _ => h4 | 5, _ => h5 | 6, _ => h6
  | n + 7, h => by omega

/-- A week has a day at work. -/
theorem week_some {week : Int} (h1 : 1 ≤ week) (h2 : week ≤ 127) : 1 ≤ cnt (atw week) (-1) 7 := by
  have e : cnt (atw week) (-1) 7 = (if week % 2 = 1 then 1 else 0) + (if week / 2 % 2 = 1 then 1 else 0) + (if week / 4 % 2 = 1 then 1 else 0) + (if week / 8 % 2 = 1 then 1 else 0) + (if week / 16 % 2 = 1 then 1 else 0) + (if week / 32 % 2 = 1 then 1 else 0) + (if week / 64 % 2 = 1 then 1 else 0) := by
    simp [cnt, atw]
  rw [e]
  have s7 : ∀ a b c d e f g : Nat, 1 ≤ a ∨ 1 ≤ b ∨ 1 ≤ c ∨ 1 ≤ d ∨ 1 ≤ e ∨ 1 ≤ f ∨ 1 ≤ g → 1 ≤ a + b + c + d + e + f + g := by omega
  have one : ∀ {p : Prop} [Decidable p], p → 1 ≤ (if p then 1 else 0 : Nat) := fun h => by rw [if_pos h]; exact Nat.le_refl _
  apply s7
  have hb : week % 2 = 1 ∨ week / 2 % 2 = 1 ∨ week / 4 % 2 = 1 ∨ week / 8 % 2 = 1 ∨ week / 16 % 2 = 1 ∨ week / 32 % 2 = 1 ∨ week / 64 % 2 = 1 := by omega
  rcases hb with h | h | h | h | h | h | h
  · exact Or.inl (one h)
  · exact Or.inr (Or.inl (one h))
  · exact Or.inr (Or.inr (Or.inl (one h)))
  · exact Or.inr (Or.inr (Or.inr (Or.inl (one h))))
  · exact Or.inr (Or.inr (Or.inr (Or.inr (Or.inl (one h)))))
  · exact Or.inr (Or.inr (Or.inr (Or.inr (Or.inr (Or.inl (one h))))))
  · exact Or.inr (Or.inr (Or.inr (Or.inr (Or.inr (Or.inr (one h))))))

theorem week_le (week : Int) : cnt (atw week) (-1) 7 ≤ 7 := by
  have : ∀ n, cnt (atw week) (-1) n ≤ n := by
    intro n
    induction n with
    | zero => simp [cnt]
    | succ n ih => simp only [cnt]; split <;> omega
  exact this 7

/-- Behind all holidays each week has a working day. -/
theorem wkd_late {week : Int} {hol : List Int} {x : Int} (hh : ∀ h, h ∈ hol → h ≤ x) : ∀ n : Nat, cnt (wkd week hol) x n = cnt (atw week) x n := by
  intro n
  apply cnt_congr
  intro i hi _
  have : hol.contains (x + i) = false := by
    rw [Bool.eq_false_iff]
    intro hc
    have := hh _ (List.contains_iff_mem.1 hc)
    omega
  simp only [wkd, this]; simp

theorem due_exists {week : Int} {hol : List Int} (h1 : 1 ≤ week) (h2 : week ≤ 127) (hh : ∀ h, h ∈ hol → h ≤ 11574) (d : Int) (k : Nat) :
    ∃ T, IsDue (wkd week hol) d k T ∧ d ≤ T ∧ T ≤ (if d ≤ 11574 then 11574 else d) + 7 * k := by
  have hw := week_some h1 h2
  obtain ⟨a, ha⟩ : ∃ a : Nat, (if d ≤ 11574 then 11574 else d) = d + a := by
    by_cases e : d ≤ 11574
    · exact ⟨(11574 - d).toNat, by rw [if_pos e]; omega⟩
    · exact ⟨0, by rw [if_neg e]; omega⟩
  have hx : ∀ h, h ∈ hol → h ≤ d + a := by
    intro h hm
    have := hh h hm
    rw [← ha]; split <;> omega
  have hc : k ≤ cnt (wkd week hol) d (a + k * 7) := by
    rw [cnt_add, wkd_late hx, cnt_weeks]
    have := Nat.mul_le_mul_left k hw
    omega
  obtain ⟨n, n1, n2, n3⟩ := due_first _ d k _ hc
  exact ⟨d + n, ⟨n, rfl, n2, n3⟩, by omega, by rw [ha]; omega⟩

/-! What the code does: days at work first, then on by one for each holiday on the way. -/

/-- The next day at work. -/
def IsNext (week x y : Int) : Prop := ∃ m : Nat, 1 ≤ m ∧ m ≤ 7 ∧ y = x + m ∧ atw week y = true ∧ ∀ i : Nat, 1 ≤ i → i < m → atw week (x + i) = false

theorem cnt_none {p : Int → Bool} {d : Int} : ∀ {n : Nat}, (∀ i : Nat, 1 ≤ i → i ≤ n → p (d + i) = false) → cnt p d n = 0
  | 0, _ => rfl
  | n + 1, h => by
    have h1 : cnt p d n = 0 := cnt_none fun i a b => h i a (by omega)
    have h2 := h (n + 1) (by omega) (by omega)
    simp only [cnt, h1, h2]; rfl

theorem next_cnt {p : Int → Bool} {week x y : Int} (h : IsNext week x y) (hp : ∀ z, x < z → p z = atw week z) : ∃ m : Nat, y = x + m ∧ 1 ≤ m ∧ m ≤ 7 ∧ cnt p x m = 1 ∧ p y = true := by
  obtain ⟨m, m1, m2, rfl, m3, m4⟩ := h
  have py : p (x + m) = true := by rw [hp _ (by omega)]; exact m3
  refine ⟨m, rfl, m1, m2, ?_, py⟩
  obtain ⟨q, rfl⟩ : ∃ q, m = q + 1 := ⟨m - 1, by omega⟩
  have : cnt p x q = 0 := cnt_none fun i a b => by rw [hp _ (by omega)]; exact m4 i a (by omega)
  simp only [cnt, this, py, if_true]

theorem next_exists {week : Int} (h1 : 1 ≤ week) (h2 : week ≤ 127) (x : Int) : ∃ i : Nat, 1 ≤ i ∧ i ≤ 7 ∧ atw week (x + i) = true := by
  have hw := week_some h1 h2
  rw [← cnt_week week x] at hw
  apply Classical.byContradiction
  intro hn
  have : cnt (atw week) x 7 = 0 := cnt_none fun i a b => by
    cases e : atw week (x + i) with
    | false => rfl
    | true => exact (hn ⟨i, a, b, e⟩).elim
  omega

/-- Days at work so far: behind whole weeks, and then one by one. -/
def Walked (week day : Int) (j : Nat) (last : Int) : Prop := ∃ n : Nat, last = day + n ∧ cnt (atw week) day n = j ∧ (n : Int) ≤ 7 * j + 7

theorem walked_weeks (week day : Int) (w : Nat) (h : 1 ≤ cnt (atw week) (-1) 7) : Walked week day (w * cnt (atw week) (-1) 7) (day + w * 7) := by
  refine ⟨w * 7, by omega, cnt_weeks _ _ _, ?_⟩
  have := Nat.mul_le_mul_left w h
  omega

theorem walked_next {week day : Int} {j : Nat} {x y : Int} (h : Walked week day j x) (g : IsNext week x y) : Walked week day (j + 1) y ∧ IsDue (atw week) day (j + 1) y := by
  obtain ⟨n, rfl, h2, h3⟩ := h
  obtain ⟨m, rfl, m1, m2, m3, m4⟩ := next_cnt (p := atw week) g (fun _ _ => rfl)
  have e : cnt (atw week) day (n + m) = j + 1 := by rw [cnt_add, h2, m3]
  exact ⟨⟨n + m, by omega, e, by omega⟩, n + m, by omega, e, Or.inr m4⟩

theorem cnt_less {p q : Int → Bool} {d h : Int} (hq : ∀ x, q x = (p x && !(x == h))) (ph : p h = true) : ∀ {n : Nat}, d < h → h ≤ d + n → cnt q d n + 1 = cnt p d n
  | 0, h1, h2 => by omega
  | n + 1, h1, h2 => by
    by_cases e : h = d + ((n + 1 : Nat) : Int)
    · have h3 : cnt q d n = cnt p d n := cnt_congr fun i a b => by
        rw [hq]
        have : (d + (i : Int) == h) = false := by rw [beq_eq_false_iff_ne]; omega
        simp [this]
      have h4 : q (d + ((n + 1 : Nat) : Int)) = false := by rw [hq, ← e]; simp
      have h5 : p (d + ((n + 1 : Nat) : Int)) = true := by rw [← e]; exact ph
      simp only [cnt, h3, h4, h5, if_true]; simp
    · have h3 := cnt_less hq ph (n := n) h1 (by omega)
      have h4 : q (d + ((n + 1 : Nat) : Int)) = p (d + ((n + 1 : Nat) : Int)) := by
        rw [hq]
        have : (d + ((n + 1 : Nat) : Int) == h) = false := by rw [beq_eq_false_iff_ne]; omega
        simp only [this]; simp
      simp only [cnt, h4]; omega

theorem wkd_snoc (week : Int) (l : List Int) (h x : Int) : wkd week (l ++ [h]) x = (wkd week l x && !(x == h)) := by
  unfold wkd
  have e : (l ++ [h]).contains x = (l.contains x || (x == h)) := by
    rw [Bool.eq_iff_iff]
    simp
  rw [e]
  cases atw week x <;> cases l.contains x <;> cases x == h <;> rfl

/-- One holiday more that is passed by. -/
theorem due_skip {week day : Int} {k : Nat} {l : List Int} {h last : Int} (g : IsDue (wkd week l) day k last) (hn : ¬ (day < h ∧ h ≤ last ∧ atw week h = true)) : IsDue (wkd week (l ++ [h])) day k last := by
  obtain ⟨n, rfl, g2, g3⟩ := g
  have same : ∀ i : Nat, 1 ≤ i → i ≤ n → wkd week (l ++ [h]) (day + i) = wkd week l (day + i) := by
    intro i a b
    rw [wkd_snoc]
    by_cases e : day + (i : Int) = h
    · have : atw week (day + i) = false := by
        rw [Bool.eq_false_iff]
        intro ha
        exact hn ⟨by omega, by omega, by rw [← e]; exact ha⟩
      simp [wkd, this]
    · have : (day + (i : Int) == h) = false := by rw [beq_eq_false_iff_ne]; exact e
      simp [this]
  refine ⟨n, rfl, by rw [cnt_congr same]; exact g2, ?_⟩
  rcases g3 with g3 | g3
  · exact Or.inl g3
  · by_cases n0 : n = 0
    · exact Or.inl n0
    · exact Or.inr (by rw [same n (by omega) (Nat.le_refl _)]; exact g3)

/-- One holiday more on the way: on to the next day at work. -/
theorem due_on {week day : Int} {k : Nat} {l : List Int} {h last next : Int} (g : IsDue (wkd week l) day k last) (h1 : day < h) (h2 : h ≤ last) (h3 : atw week h = true) (hl : ∀ x, x ∈ l → x < h) (hx : IsNext week last next) :
    IsDue (wkd week (l ++ [h])) day k next := by
  obtain ⟨n, rfl, g2, g3⟩ := g
  have nin : l.contains h = false := by
    rw [Bool.eq_false_iff]; intro hc
    have := hl _ (List.contains_iff_mem.1 hc); omega
  have ph : wkd week l h = true := by simp only [wkd, h3, nin]; rfl
  have c := cnt_less (p := wkd week l) (q := wkd week (l ++ [h])) (d := day) (fun x => wkd_snoc week l h x) ph (n := n) h1 (by omega)
  have late : ∀ z, day + (n : Int) < z → wkd week (l ++ [h]) z = atw week z := by
    intro z hz
    have : (l ++ [h]).contains z = false := by
      rw [Bool.eq_false_iff]; intro hc
      have hm := List.contains_iff_mem.1 hc
      rcases List.mem_append.1 hm with hm | hm
      · have := hl _ hm; omega
      · simp at hm; omega
    simp only [wkd, this]; simp
  obtain ⟨m, rfl, m1, m2, m3, m4⟩ := next_cnt hx late
  exact ⟨n + m, by omega, by rw [cnt_add, m3]; omega, Or.inr m4⟩

theorem wkd_nil (week : Int) : wkd week [] = atw week := by funext x; simp [wkd]

end Go.Proofs.YtmofidaojmiepaaGreatDoor.M

/-
  PLAIN MATHEMATICS: Go's division, bits, what is cut.
-/
set_option linter.unusedVariables false
set_option linter.unusedSimpArgs false
namespace Go.Proofs.YtmofidaojmiepaaGreatDoor.M

open Go.RowKit

theorem div_neg {v n : Int} (hn : 1 ≤ n) (h : v.tmod n < 0) : v.tdiv n - 1 = v / n := by
  have e1 := Int.tdiv_eq_ediv (a := v) (b := n)
  have e2 := Int.tmod_eq_emod (a := v) (b := n)
  have p := Int.emod_nonneg v (show n ≠ 0 by omega)
  have s : n.sign = 1 := Int.sign_eq_one_of_pos (by omega)
  by_cases c : 0 ≤ v ∨ n ∣ v
  · rw [if_pos c] at e2; omega
  · rw [if_neg c, s] at e1; omega

theorem div_pos {v n : Int} (hn : 1 ≤ n) (h : 0 ≤ v.tmod n) : v.tdiv n = v / n := by
  have e1 := Int.tdiv_eq_ediv (a := v) (b := n)
  have e2 := Int.tmod_eq_emod (a := v) (b := n)
  have p := Int.emod_lt_of_pos v (show 0 < n by omega)
  by_cases c : 0 ≤ v ∨ n ∣ v
  · rw [if_pos c] at e1; omega
  · rw [if_neg c] at e2; omega

theorem mod_neg {v n : Int} (hn : 1 ≤ n) (h : v.tmod n < 0) : v.tmod n + n = v % n := by
  have e2 := Int.tmod_eq_emod (a := v) (b := n)
  have p := Int.emod_nonneg v (show n ≠ 0 by omega)
  by_cases c : 0 ≤ v ∨ n ∣ v
  · rw [if_pos c] at e2; omega
  · rw [if_neg c] at e2; omega

theorem mod_pos {v n : Int} (hn : 1 ≤ n) (h : 0 ≤ v.tmod n) : v.tmod n = v % n := by
  have e2 := Int.tmod_eq_emod (a := v) (b := n)
  have p := Int.emod_lt_of_pos v (show 0 < n by omega)
  by_cases c : 0 ≤ v ∨ n ∣ v
  · rw [if_pos c] at e2; omega
  · rw [if_neg c] at e2; omega

theorem div_bound {v n : Int} (hn : 1 ≤ n) {B : Int} (h1 : -B ≤ v) (h2 : v ≤ B) (hB : 0 ≤ B) : -B - 1 ≤ v / n ∧ v / n ≤ B := by
  have e := Int.mul_ediv_add_emod v n
  have p := Int.emod_nonneg v (show n ≠ 0 by omega)
  have q := Int.emod_lt_of_pos v (show 0 < n by omega)
  constructor
  · by_cases c : v / n ≥ 0
    · omega
    · have : n * (v / n) ≤ 1 * (v / n) := Int.mul_le_mul_of_nonpos_right hn (by omega)
      have e3 : v / n * n = n * (v / n) := Int.mul_comm _ _
      apply Classical.byContradiction; intro hc
      have : n * (v / n) ≤ n * (-B - 2) := Int.mul_le_mul_of_nonneg_left (by omega) (by omega)
      have e4 : n * (-B - 2) = -(n * B) - n * 2 := by rw [Int.mul_sub, Int.mul_neg]
      have : 1 * B ≤ n * B := Int.mul_le_mul_of_nonneg_right hn hB
      omega
  · by_cases c : v / n ≤ 0
    · omega
    · have : 1 * (v / n) ≤ n * (v / n) := Int.mul_le_mul_of_nonneg_right hn (by omega)
      omega

theorem week_bit {week : Int} (h1 : 0 ≤ week) (h2 : week ≤ 127) {p : Int} (hp : 0 ≤ p) (hp' : p < 7) (n : Nat) (hn : n = p.toNat) : bits BinOp.and IntKind.i64 (week / 2 ^ n) 1 = week / 2 ^ p.toNat % 2 := by
  subst hn
  obtain ⟨q, hq⟩ : ∃ q : Nat, week / 2 ^ p.toNat = (q : Int) := by
    refine ⟨(week / 2 ^ p.toNat).toNat, ?_⟩
    have : 0 ≤ week / 2 ^ p.toNat := Int.ediv_nonneg h1 (by exact Int.le_of_lt (Int.pow_pos (by omega)))
    omega
  have hle : (q : Int) ≤ 127 := by
    rw [← hq]
    have : week / 2 ^ p.toNat ≤ week := Int.ediv_le_self _ h1
    omega
  rw [hq, Go.Proofs.and_one q (by omega)]
  omega

end Go.Proofs.YtmofidaojmiepaaGreatDoor.M

/-
  THE WALKS: the functions of plain numbers.
-/
set_option linter.unusedVariables false
set_option linter.unusedSimpArgs false
namespace Go.Proofs.YtmofidaojmiepaaGreatDoor

open Go.RowKit

theorem ret_int {k : IntKind} {a b : Int} (h : a = b) : Ending.returned (.int k a) = .returned (.int k b) := by rw [h]

theorem ret_bool {a b : Bool} (h : a = b) : Ending.returned (.bool a) = .returned (.bool b) := by rw [h]

namespace M

def cutv (v : Int) : Int := if 2000000000 < v then 2000000000 else if v < -2000000000 then -2000000000 else v

def isv (v : Int) : Bool := decide (-2000000000 ≤ v ∧ v ≤ 2000000000)

def minv (a b : Int) : Int := if a < b then a else b

def maxv (a b : Int) : Int := if a < b then b else a

def num (b : Bool) : Int := if b then 1 else 0

/-- How many of A, B and C the kind's row names; -1: there is no such kind. -/
def needs (kind : Int) : Int := if kind = 0 ∨ kind = 1 then 0 else if kind = 10 ∨ kind = 11 ∨ kind = 12 then 1 else if kind = 9 then 3 else if 2 ≤ kind ∧ kind ≤ 8 then 2 else -1

def two (kind a b : Int) : Int :=
  if kind = 2 then cutv (a + b) else if kind = 3 then cutv (a - b) else if kind = 4 then cutv (a * b) else if kind = 5 then minv a b else if kind = 6 then maxv a b else if kind = 7 then num (decide (a < b)) else num (decide (a = b))

def knownB (kind : Int) : Bool := decide (0 ≤ kind ∧ kind < 13)

def allowsB (kind k : Int) : Bool := if kind = 0 ∨ kind = 1 then isv k else if kind = 11 then decide (1000000 ≤ k ∧ k ≤ 1000000000) else if kind = 12 then decide (0 ≤ k ∧ k ≤ 250) else true

end M

set_option maxHeartbeats 400000 in
theorem pcut_any (v : Int) (w : World) : Calls Tryz.prog 90 #[.int .i64 v] w fun e w' => e = .returned (.int .i64 (M.cutv v)) ∧ w' = w := by
  go_enter Tryz.func90, Tryz.ntmps90
  go_wp2
  all_goals go_ret
  all_goals exact ⟨ret_int (by unfold M.cutv; repeat' split
                               all_goals omega), rfl⟩

set_option maxHeartbeats 400000 in
theorem truth_any (b : Bool) (w : World) : Calls Tryz.prog 81 #[.bool b] w fun e w' => e = .returned (.int .i64 (M.num b)) ∧ w' = w := by
  cases b <;> (go_enter Tryz.func81, Tryz.ntmps81; go_wp2; go_ret; exact ⟨rfl, rfl⟩)

set_option maxHeartbeats 400000 in
theorem pisv_any (v : Int) (w : World) : Calls Tryz.prog 46 #[.int .i64 v] w fun e w' => e = .returned (.bool (M.isv v)) ∧ w' = w := by
  go_enter Tryz.func46, Tryz.ntmps46
  go_wp2
  all_goals go_ret
  all_goals exact ⟨ret_bool (by unfold M.isv; rw [Bool.eq_iff_iff]; simp; try omega), rfl⟩

set_option maxHeartbeats 400000 in
theorem dayOf_any (v : Int) (w : World) (hv : -9000000000000000000 ≤ v) (hv' : v ≤ 9000000000000000000) : Calls Tryz.prog 91 #[.int .i64 v] w fun e w' => e = .returned (.int .i64 (v / 86400)) ∧ w' = w := by
  have hb := M.div_bound (v := v) (n := 86400) (by omega) hv hv' (by omega)
  go_enter Tryz.func91, Tryz.ntmps91
  go_wp2
  all_goals go_ret
  · exact ⟨ret_int (by rw [M.div_neg (by omega) (by assumption), IntWalk.wrap64_in _ (by omega)]), rfl⟩
  · exact ⟨ret_int (M.div_pos (by omega) (by assumption)), rfl⟩

theorem atWork_eq {week : Int} (h1 : 0 ≤ week) (h2 : week ≤ 127) (d : Int) {p : Int} (hp : p = d % 7) {m : Nat} (hm : m = p.toNat) : (bits BinOp.and IntKind.i64 (week / 2 ^ m) 1 == 1) = M.atw week d := by
  subst hp
  rw [M.week_bit h1 h2 (p := d % 7) (by omega) (by omega) m hm]
  unfold M.atw
  rw [Bool.eq_iff_iff]; simp

set_option maxHeartbeats 400000 in
theorem atWork_any (week d : Int) (w : World) (h1 : 0 ≤ week) (h2 : week ≤ 127) : Calls Tryz.prog 102 #[.int .i64 week, .int .i64 d] w fun e w' => e = .returned (.bool (M.atw week d)) ∧ w' = w := by
  go_enter Tryz.func102, Tryz.ntmps102
  go_wp2
  all_goals go_ret
  · exact ⟨ret_bool (atWork_eq h1 h2 d (p := d.tmod 7 + 7) (M.mod_neg (by omega) (by assumption)) (by
      have e := M.mod_neg (v := d) (n := 7) (by omega) (by assumption)
      rw [e, IntWalk.wrap64_in _ (by omega), IntWalk.u64_in _ (by omega)]; omega)), rfl⟩
  · exact ⟨ret_bool (atWork_eq h1 h2 d (p := d.tmod 7) (M.mod_pos (by omega) (by assumption)) (by
      have e := M.mod_pos (v := d) (n := 7) (by omega) (by assumption)
      rw [e, IntWalk.u64_in _ (by omega)]; omega)), rfl⟩

set_option maxHeartbeats 400000 in
theorem lesser_any (a b : Int) (w : World) : Calls Tryz.prog 93 #[.int .i64 a, .int .i64 b] w fun e w' => e = .returned (.int .i64 (M.minv a b)) ∧ w' = w := by
  go_enter Tryz.func93, Tryz.ntmps93
  go_wp2
  all_goals go_ret
  all_goals exact ⟨ret_int (by first | (unfold M.minv; split <;> omega) | (unfold M.maxv; split <;> omega)), rfl⟩

set_option maxHeartbeats 400000 in
theorem greater_any (a b : Int) (w : World) : Calls Tryz.prog 94 #[.int .i64 a, .int .i64 b] w fun e w' => e = .returned (.int .i64 (M.maxv a b)) ∧ w' = w := by
  go_enter Tryz.func94, Tryz.ntmps94
  go_wp2
  all_goals go_ret
  all_goals exact ⟨ret_int (by first | (unfold M.minv; split <;> omega) | (unfold M.maxv; split <;> omega)), rfl⟩

set_option maxHeartbeats 400000 in
theorem known_any (k : Int) (w : World) : Calls Tryz.prog 52 #[.int .i64 k] w fun e w' => e = .returned (.bool (M.knownB k)) ∧ w' = w := by
  go_enter Tryz.func52, Tryz.ntmps52
  go_wp2
  all_goals go_ret
  all_goals exact ⟨ret_bool (by unfold M.knownB; rw [Bool.eq_iff_iff]; simp; try omega), rfl⟩

set_option maxHeartbeats 400000 in
theorem pallows_any (kd k : Int) (w : World) : Calls Tryz.prog 53 #[.int .i64 kd, .int .i64 k] w fun e w' => e = .returned (.bool (M.allowsB kd k)) ∧ w' = w := by
  go_enter Tryz.func53, Tryz.ntmps53
  go_wp2_with (go_at_call 46; refine (pisv_any _ _).mono ?_; rintro e w' ⟨rfl, rfl⟩)
  all_goals go_ret
  all_goals refine ⟨ret_bool ?_, rfl⟩
  all_goals (simp only [beq_iff_eq, beq_eq_false_iff_ne, ne_eq] at *)
  all_goals (unfold M.allowsB)
  all_goals first
    | (rw [if_pos (by omega)]; done)
    | (rw [if_neg (by omega), if_pos (by omega), Bool.eq_iff_iff]; simp; try omega)
    | (rw [if_neg (by omega), if_neg (by omega), if_pos (by omega), Bool.eq_iff_iff]; simp; try omega)
    | (rw [if_neg (by omega), if_neg (by omega), if_neg (by omega)])

end Go.Proofs.YtmofidaojmiepaaGreatDoor

/-
  THE WALKS: days at work.
-/
set_option linter.unusedVariables false
set_option linter.unusedSimpArgs false
namespace Go.Proofs.YtmofidaojmiepaaGreatDoor

open Go.RowKit

set_option maxHeartbeats 400000 in
theorem nextAtWork_any (week d : Int) (w : World) (h1 : 1 ≤ week) (h2 : week ≤ 127) (hd : -1000000000 ≤ d) (hd' : d ≤ 1000000000) : Calls Tryz.prog 101 #[.int .i64 week, .int .i64 d] w fun e w' => ∃ y, e = .returned (.int .i64 y) ∧ M.IsNext week d y ∧ w' = w := by
  go_enter Tryz.func101, Tryz.ntmps101
  go_wp2
  go_loop [5] (fun t => ∃ k : Nat, 1 ≤ k ∧ k ≤ 7 ∧ t = .int .i64 k ∧ Hid (∀ i : Nat, 1 ≤ i → i < k → M.atw week (d + i) = false)) (fun t => (7 - intOf t).toNat)
  case atStart => exact ⟨1, by omega, by omega, rfl, fun i a b => by omega⟩
  case round =>
    obtain ⟨k, k1, k2, rfl, hk⟩ := hrel
    by_cases hlt : k < 7
    · cases hb : M.atw week (d + k)
      · have HB : Hid (M.atw week (d + k) = false) := hb
        go_wp2_with (go_at_call 102; refine (atWork_any _ _ _ (by omega) h2).mono ?_; rintro e w' ⟨rfl, rfl⟩)
        go_round
        case rel => exact ⟨k + 1, by omega, by omega, by go_num, fun i a b => by
          by_cases e : i = k
          · subst e; exact HB.out
          · exact hk.out i a (by omega)⟩
        case measure => simp [intOf]; omega
      · have HB : Hid (M.atw week (d + k) = true) := hb
        go_wp2_with (go_at_call 102; refine (atWork_any _ _ _ (by omega) h2).mono ?_; rintro e w' ⟨rfl, rfl⟩)
        go_ret
        exact ⟨_, rfl, ⟨k, by omega, by omega, rfl, HB.out, hk.out⟩, rfl⟩
    · go_wp2
      go_ret
      obtain rfl : k = 7 := by omega
      obtain ⟨i, i1, i2, i3⟩ := M.next_exists h1 h2 d
      have : i = 7 := by
        by_cases e : i = 7
        · exact e
        · have := hk.out i i1 (by omega); rw [this] at i3; cases i3
      subst this
      exact ⟨_, rfl, ⟨7, by omega, by omega, rfl, i3, hk.out⟩, rfl⟩

set_option maxHeartbeats 400000 in
theorem daysAtWork_any (week : Int) (w : World) (h1 : 1 ≤ week) (h2 : week ≤ 127) : Calls Tryz.prog 100 #[.int .i64 week] w fun e w' => e = .returned (.int .i64 (M.cnt (M.atw week) (-1) 7)) ∧ w' = w := by
  go_enter Tryz.func100, Tryz.ntmps100
  go_wp2
  go_loop [3, 4] (fun c t => ∃ k n : Nat, k ≤ 7 ∧ n ≤ k ∧ t = .int .i64 k ∧ c = .int .i64 n ∧ Hid (n = M.cnt (M.atw week) (-1) k)) (fun _ t => (7 - intOf t).toNat)
  case atStart => exact ⟨0, 0, by omega, by omega, rfl, rfl, rfl⟩
  case round =>
    obtain ⟨k, n, k2, n1, rfl, rfl, hk⟩ := hrel
    by_cases hlt : k < 7
    · have e : (-1 : Int) + ((k + 1 : Nat) : Int) = k := by omega
      cases hb : M.atw week k
      · have HB : Hid (M.atw week k = false) := hb
        clear e
        go_wp2_with (go_at_call 102; refine (atWork_any _ _ _ (by omega) h2).mono ?_; rintro e w' ⟨rfl, rfl⟩)
        go_round
        case rel => exact ⟨k + 1, n, by omega, by omega, by go_num, rfl, by
          show n = M.cnt _ _ k + _
          rw [show (-1 : Int) + ((k + 1 : Nat) : Int) = k by omega, HB.out, ← hk.out]; rfl⟩
        case measure => simp [intOf]; omega
      · have HB : Hid (M.atw week k = true) := hb
        clear e
        go_wp2_with (go_at_call 102; refine (atWork_any _ _ _ (by omega) h2).mono ?_; rintro e w' ⟨rfl, rfl⟩)
        go_round
        case rel => exact ⟨k + 1, n + 1, by omega, by omega, by go_num, by go_num, by
          show n + 1 = M.cnt _ _ k + _
          rw [show (-1 : Int) + ((k + 1 : Nat) : Int) = k by omega, HB.out, ← hk.out]; rfl⟩
        case measure => simp [intOf]; omega
    · go_wp2
      go_ret
      obtain rfl : k = 7 := by omega
      exact ⟨ret_int (by rw [hk.out]), rfl⟩

end Go.Proofs.YtmofidaojmiepaaGreatDoor

/-
  THE WALKS: the k-th working day; sums.
-/
set_option linter.unusedVariables false
set_option linter.unusedSimpArgs false
namespace Go.Proofs.YtmofidaojmiepaaGreatDoor

open Go.RowKit

/-- A slice of n elements of st cells each; cell j of them holds g j. -/
def SlAt (w : World) (v : Value) (n st : Nat) (g : Nat → Value) : Prop :=
  ∃ a cap, v = .slice a n cap ∧ ∀ j, j < n * st → ∃ b off, a = some ⟨b, off, none⟩ ∧ b < w.heap.size ∧ w.cell? ⟨b, off + j, none⟩ = some (g j)

theorem SlAt.elim {w : World} {v : Value} {n st : Nat} {g : Nat → Value} (h : SlAt w v n st g) (hst : 0 < st) :
    (n = 0 ∧ ∃ a cap, v = .slice a 0 cap) ∨ (0 < n ∧ ∃ b off cap, v = .slice (some ⟨b, off, none⟩) n cap ∧ b < w.heap.size ∧ ∀ j, j < n * st → w.cell? ⟨b, off + j, none⟩ = some (g j)) := by
  obtain ⟨a, cap, rfl, hc⟩ := h
  by_cases hn : n = 0
  · subst hn; exact Or.inl ⟨rfl, a, cap, rfl⟩
  · have hp : 0 < n * st := Nat.mul_pos (by omega) hst
    obtain ⟨b, off, rfl, hb, _⟩ := hc 0 hp
    refine Or.inr ⟨by omega, b, off, cap, rfl, hb, fun j hj => ?_⟩
    obtain ⟨b', off', e, _, h2⟩ := hc j hj
    cases e
    exact h2

theorem SlAt.below {B : Nat} {w w' : World} {v : Value} {n st : Nat} {g : Nat → Value} (h : SlAt w v n st g) (hb : Below B w w') (hB : w.heap.size ≤ B) : SlAt w' v n st g := by
  obtain ⟨a, cap, rfl, hc⟩ := h
  refine ⟨a, cap, rfl, fun j hj => ?_⟩
  obtain ⟨b, off, e, h1, h2⟩ := hc j hj
  exact ⟨b, off, e, by have := hb.size; omega, by rw [hb.cell (p := ⟨b, off + j, none⟩) (by show b < B; omega)]; exact h2⟩

/-- A slice of ints. -/
def IntsAt (w : World) (v : Value) (xs : List Int) : Prop := SlAt w v xs.length 1 (fun j => .int .i64 (xs.getD j 0))

theorem take_snoc (l : List Int) (k : Nat) (h : k < l.length) : l.take (k + 1) = l.take k ++ [l.getD k 0] := by
  rw [List.take_succ_eq_append_getElem h]; simp [List.getD, h]

theorem take_mem_lt {l : List Int} (h : l.Pairwise (· < ·)) {k : Nat} (hk : k < l.length) {x : Int} (hx : x ∈ l.take k) : x < l.getD k 0 := by
  rw [List.pairwise_iff_getElem] at h
  obtain ⟨i, hi, rfl⟩ := List.mem_iff_getElem.1 hx
  have hi' : i < k := by simp at hi; omega
  have := h i k (by omega) hk hi'
  simp only [List.getElem_take, List.getD, List.getElem?_eq_getElem hk, Option.getD_some]
  exact this

theorem due_bound {week : Int} {hol : List Int} (h1 : 1 ≤ week) (h2 : week ≤ 127) (hh : ∀ h, h ∈ hol → h ≤ 11574) {d : Int} {k : Nat} {T : Int} (h : M.IsDue (M.wkd week hol) d k T) : d ≤ T ∧ T ≤ (if d ≤ 11574 then 11574 else d) + 7 * k := by
  obtain ⟨S, a, b, c⟩ := M.due_exists h1 h2 hh d k
  rw [M.due_unique h a]; exact ⟨b, c⟩

theorem hol_step {week day : Int} {k : Nat} {hol : List Int} (hr : hol.Pairwise (· < ·)) {j : Nat} (hj : j < hol.length) {last : Int} (g : M.IsDue (M.wkd week (hol.take j)) day k last) :
    (¬ (day < hol.getD j 0 ∧ hol.getD j 0 ≤ last ∧ M.atw week (hol.getD j 0) = true) → M.IsDue (M.wkd week (hol.take (j + 1))) day k last) ∧
    (∀ next, day < hol.getD j 0 → hol.getD j 0 ≤ last → M.atw week (hol.getD j 0) = true → M.IsNext week last next → M.IsDue (M.wkd week (hol.take (j + 1))) day k next) := by
  rw [take_snoc _ _ hj]
  exact ⟨fun h => M.due_skip g h, fun next a b c d => M.due_on g a b c (fun x hx => take_mem_lt hr hj hx) d⟩

set_option maxHeartbeats 800000 in
theorem workingDay_some (week d : Int) (hol : List Int) (b off cap k : Nat) (w : World) (h1 : 1 ≤ week) (h2 : week ≤ 127) (hd : -100000 ≤ d) (hd' : d ≤ 100000) (hk : 1 ≤ k) (hk' : k ≤ 250)
    (hh : Hid (∀ h, h ∈ hol → h ≤ 11574)) (hr : Hid (hol.Pairwise (· < ·))) (hl : hol.length ≤ 20) (a : Option Addr) (hc : ∀ j, j < hol.length → w.cell? ⟨b, off + j, none⟩ = some (.int .i64 (hol.getD j 0))) (ha : hol.length = 0 ∨ a = some ⟨b, off, none⟩) :
    Calls Tryz.prog 92 #[.int .i64 week, .slice a hol.length cap, .int .i64 d, .int .i64 k] w fun e w' => ∃ T, e = .returned (.int .i64 T) ∧ M.IsDue (M.wkd week hol) d k T ∧ w' = w := by
  obtain ⟨E, hE⟩ : ∃ E, E = M.cnt (M.atw week) (-1) 7 := ⟨_, rfl⟩
  have e1 : 1 ≤ E := by rw [hE]; exact M.week_some h1 h2
  have e2 : E ≤ 7 := by rw [hE]; exact M.week_le week
  have HE : Hid (E = M.cnt (M.atw week) (-1) 7) := hE
  have hE0 : ((E : Int) == 0) = false := beq_eq_false_iff_ne.2 (by omega)
  clear hE
  go_enter Tryz.func92, Tryz.ntmps92
  go_wp2_with (go_at_call 100; refine (daysAtWork_any _ _ h1 h2).mono ?_; rintro e w' ⟨rfl, rfl⟩; rw [← HE.out])
  obtain ⟨q, hq1, hq2, hq3⟩ : ∃ q : Nat, ((k : Int) - 1) / E = q ∧ q * E + 1 ≤ k ∧ k ≤ q * E + E := by
    refine ⟨(k - 1) / E, ?_, ?_, ?_⟩
    · rw [show (k : Int) - 1 = ((k - 1 : Nat) : Int) by omega]; rfl
    · have := Nat.div_mul_le_self (k - 1) E; omega
    · have := Nat.lt_div_mul_add (a := k - 1) (b := E) (by omega); omega
  have hq4 : q ≤ q * E := Nat.le_mul_of_pos_right q (by omega)
  have hw0 := M.walked_weeks week d q (by rw [← HE.out]; exact e1)
  rw [← HE.out] at hw0
  have HW0 : Hid (M.Walked week d (q * E) (d + q * 7)) := hw0
  have s11 : wrap64 (d + wrap64 (((k : Int) - 1) / E * 7)) = d + q * 7 := by rw [hq1, IntWalk.wrap64_in ((q : Int) * 7) (by omega), IntWalk.wrap64_in _ (by omega)]
  have s12 : wrap64 ((k : Int) - wrap64 (((k : Int) - 1) / E * E)) = k - (q * E : Nat) := by
    rw [hq1, show (q : Int) * (E : Int) = ((q * E : Nat) : Int) by simp, IntWalk.wrap64_in ((q * E : Nat) : Int) (by omega), IntWalk.wrap64_in _ (by omega)]
  clear hw0
  go_loop [11, 12] (fun l t => ∃ (j : Nat) (last : Int), q * E ≤ j ∧ j ≤ k ∧ t = .int .i64 (k - j) ∧ l = .int .i64 last ∧ d ≤ last ∧ last ≤ d + 7 * j + 7 ∧ Hid (M.Walked week d j last) ∧ Hid (j = k → M.IsDue (M.atw week) d k last)) (fun _ t => (intOf t).toNat)
  case atStart => exact ⟨q * E, d + q * 7, by omega, by omega, by rw [s12], by rw [s11], by omega, by omega, HW0, fun e => by omega⟩
  case round =>
    clear s11 s12 hq1
    obtain ⟨j, last, j1, j2, rfl, rfl, l1, l2, hw, hdue⟩ := hrel
    by_cases hlt : j < k
    · go_wp2_with fail
      refine (nextAtWork_any _ _ _ h1 h2 (by omega) (by omega)).mono ?_
      rintro e w1 ⟨y, rfl, hy, rfl⟩
      obtain ⟨hw1, hw2⟩ := M.walked_next hw.out hy
      have hy' : last ≤ y ∧ y ≤ last + 7 := by
        obtain ⟨m, m1, m2, m3, _⟩ := hy
        omega
      have HW1 : Hid (M.Walked week d (j + 1) y) := hw1
      have HW2 : Hid (M.IsDue (M.atw week) d (j + 1) y) := hw2
      clear hw1 hw2 hy
      go_wp2
      go_round
      case rel => exact ⟨j + 1, y, by omega, by omega, by go_num, rfl, by omega, by omega, HW1, fun e => by rw [← e]; exact HW2⟩
      case measure => simp [intOf]; omega
    · obtain rfl : j = k := by omega
      have hdue' : Hid (M.IsDue (M.wkd week (hol.take 0)) d j last) := by
        rw [List.take_zero, M.wkd_nil]; exact hdue.out rfl
      clear hdue
      go_wp2
      go_loop [11, 46] (fun l t => ∃ (m : Nat) (last : Int), m ≤ hol.length ∧ t = .int .i64 m ∧ l = .int .i64 last ∧ d ≤ last ∧ last ≤ 102000 ∧ Hid (M.IsDue (M.wkd week (hol.take m)) d j last)) (fun _ t => hol.length - (intOf t).toNat)
      case atStart => exact ⟨0, last, by omega, rfl, rfl, by omega, by omega, hdue'⟩
      case round =>
        clear l1 l2 hdue' hw
        obtain ⟨m, last, m1, rfl, rfl, l1, l2, hdue⟩ := hrel
        by_cases hm : m < hol.length
        · obtain rfl : a = some ⟨b, off, none⟩ := by
            rcases ha with ha | ha
            · omega
            · exact ha
          have hcell := hc m hm
          obtain ⟨hs1, hs2⟩ := hol_step hr.out hm hdue.out
          have HS1 := (show Hid _ from hs1)
          have HS2 := (show Hid _ from hs2)
          have hx : hol.getD m 0 ≤ 11574 := hh.out _ (by simp [List.getD, hm])
          clear hs1 hs2 hc ha
          generalize hol.getD m 0 = x at *
          have bd : ∀ {z : Int}, M.IsDue (M.wkd week (hol.take (m + 1))) d j z → d ≤ z ∧ z ≤ 102000 := fun {z} g => by
            have := due_bound h1 h2 (fun h hh' => hh.out h (List.mem_of_mem_take hh')) g
            revert this
            split <;> omega
          have BD := (show Hid _ from @bd)
          clear bd
          by_cases c1 : d < x
          · by_cases c2 : x ≤ last
            · cases c3 : M.atw week x
              · have C3 : Hid (M.atw week x = false) := c3
                go_wp2_with fail
                refine (atWork_any _ _ _ (by omega) h2).mono ?_
                rintro e w1 ⟨rfl, rfl⟩
                go_wp2
                go_round
                case rel => exact ⟨m + 1, last, by omega, by go_num, rfl, by omega, by omega, HS1.out fun g => by rw [C3.out] at g; cases g.2.2⟩
                case measure => simp [intOf]; omega
              · have C3 : Hid (M.atw week x = true) := c3
                go_wp2_with fail
                refine (atWork_any _ _ _ (by omega) h2).mono ?_
                rintro e w1 ⟨rfl, rfl⟩
                go_wp2_with fail
                refine (nextAtWork_any _ _ _ h1 h2 (by omega) (by omega)).mono ?_
                rintro e w1 ⟨y, rfl, hy, rfl⟩
                have hy1 := HS2.out y c1 c2 C3.out hy
                have HY := (show Hid _ from hy1)
                have hy2 := BD.out hy1
                clear hy hy1
                go_wp2
                go_round
                case rel => exact ⟨m + 1, y, by omega, by go_num, rfl, by omega, by omega, HY⟩
                case measure => simp [intOf]; omega
            · go_wp2
              go_round
              case rel => exact ⟨m + 1, last, by omega, by go_num, rfl, by omega, by omega, HS1.out fun g => by omega⟩
              case measure => simp [intOf]; omega
          · go_wp2
            go_round
            case rel => exact ⟨m + 1, last, by omega, by go_num, rfl, by omega, by omega, HS1.out fun g => by omega⟩
            case measure => simp [intOf]; omega
        · go_wp2
          go_ret
          obtain rfl : m = hol.length := by omega
          exact ⟨_, rfl, by have := hdue.out; rw [List.take_length] at this; exact this, rfl⟩

end Go.Proofs.YtmofidaojmiepaaGreatDoor

/-
  THE WALKS: what a cell is worth by the values that it needs.
-/
set_option linter.unusedVariables false
set_option linter.unusedSimpArgs false
namespace Go.Proofs.YtmofidaojmiepaaGreatDoor

open Go.RowKit

theorem bcell {W w1 : World} (hb : Below W.heap.size W w1) : (∀ b o, b < W.heap.size → w1.cell? ⟨b, o, none⟩ = W.cell? ⟨b, o, none⟩) ∧ (∀ b o, b < W.heap.size → w1.frozen? ⟨b, o, none⟩ = W.frozen? ⟨b, o, none⟩) :=
  ⟨fun b o h => hb.cell (p := ⟨b, o, none⟩) h, fun b o h => hb.frozen (p := ⟨b, o, none⟩) h⟩

/-- The holidays of a form that is one. -/
def HolOk (hol : List Int) : Prop := hol.length ≤ 20 ∧ (∀ h, h ∈ hol → 0 ≤ h ∧ h ≤ 11574) ∧ hol.Pairwise (· < ·)

set_option maxHeartbeats 400000 in
theorem workingDay_zero (week d : Int) (v : Option Addr) (n cap : Nat) (w : World) (h1 : 1 ≤ week) (h2 : week ≤ 127) :
    Calls Tryz.prog 92 #[.int .i64 week, .slice v n cap, .int .i64 d, .int .i64 0] w fun e w' => e = .returned (.int .i64 d) ∧ w' = w := by
  go_enter Tryz.func92, Tryz.ntmps92
  go_wp2_with (go_at_call 100; refine (daysAtWork_any _ _ h1 h2).mono ?_; rintro e w' ⟨rfl, rfl⟩)
  go_ret
  exact ⟨rfl, rfl⟩

theorem workingDay_any (week d k : Int) (hol : List Int) (a : Option Addr) (n cap : Nat) (w : World) (h1 : 1 ≤ week) (h2 : week ≤ 127) (hd : -100000 ≤ d) (hd' : d ≤ 100000) (hk : 0 ≤ k) (hk' : k ≤ 250)
    (hh : HolOk hol) (hn : n = hol.length) (hc : IntsAt w (.slice a n cap) hol) :
    Calls Tryz.prog 92 #[.int .i64 week, .slice a n cap, .int .i64 d, .int .i64 k] w fun e w' => ∃ T, e = .returned (.int .i64 T) ∧ M.IsDue (M.wkd week hol) d k.toNat T ∧ w' = w := by
  subst hn
  by_cases k0 : k = 0
  · subst k0
    refine (workingDay_zero week d a _ cap w h1 h2).mono ?_
    rintro e w' ⟨rfl, rfl⟩
    exact ⟨d, rfl, M.due_zero _ _, rfl⟩
  · obtain ⟨m, rfl⟩ := Int.eq_ofNat_of_zero_le hk
    rw [Int.toNat_natCast]
    rcases SlAt.elim hc (by omega) with ⟨h0, a', cap', e⟩ | ⟨h0, b, off, cap', e, _, hcell⟩
    · exact workingDay_some week d hol 0 0 cap m w h1 h2 hd hd' (by omega) (by omega) (fun h hm => (hh.2.1 h hm).2) hh.2.2 hh.1 a (fun j hj => by omega) (Or.inl h0)
    · obtain ⟨rfl, _, rfl⟩ : a = some ⟨b, off, none⟩ ∧ hol.length = hol.length ∧ cap = cap' := by simpa using e
      exact workingDay_some week d hol b off cap m w h1 h2 hd hd' (by omega) (by omega) (fun h hm => (hh.2.1 h hm).2) hh.2.2 hh.1 _ (fun j hj => hcell j (by omega)) (Or.inr rfl)

set_option maxHeartbeats 400000 in
theorem pdue_any (aC aR aH : Option Addr) (nC cC nR cR nH cH : Nat) (week a k : Int) (hol : List Int) (w : World) (h1 : 1 ≤ week) (h2 : week ≤ 127) (ha : -2000000000 ≤ a) (ha' : a ≤ 2000000000) (hk : 0 ≤ k) (hk' : k ≤ 250)
    (hh : HolOk hol) (hn : nH = hol.length) (hc : IntsAt w (.slice aH nH cH) hol) :
    Calls Tryz.prog 83 #[.agg #[.slice aC nC cC, .slice aR nR cR, .int .i64 week, .slice aH nH cH], .int .i64 a, .int .i64 k] w fun e w' => ∃ T, e = .returned (.int .i64 (M.cutv (T * 86400))) ∧ M.IsDue (M.wkd week hol) (a / 86400) k.toNat T ∧ Below w.heap.size w w' := by
  have HH : Hid (HolOk hol) := hh
  have HC : Hid (IntsAt w (.slice aH nH cH) hol) := hc
  have HN : Hid (nH = hol.length) := hn
  clear hh hc hn
  go_enter Tryz.func83, Tryz.ntmps83
  go_wp2_with fail
  refine (dayOf_any _ _ (by omega) (by omega)).mono ?_
  rintro e w1 ⟨rfl, rfl⟩
  go_wp2_with fail
  refine (workingDay_any week (a / 86400) k hol aH nH cH _ h1 h2 (by omega) (by omega) hk hk' HH.out HN.out (SlAt.below HC.out ((Below.refl _ _).alloc (Nat.le_refl _) _) (Nat.le_refl _))).mono ?_
  rintro e w1 ⟨T, rfl, hT, rfl⟩
  have bd := due_bound h1 h2 (fun h hm => (HH.out.2.1 h hm).2) hT
  have bd' : -100000 ≤ T ∧ T ≤ 100000 := by revert bd; split <;> omega
  have HT := (show Hid _ from hT)
  clear bd hT
  go_wp2_with fail
  refine (pcut_any _ _).mono ?_
  rintro e w1 ⟨rfl, rfl⟩
  go_wp2
  go_ret
  exact ⟨T, rfl, HT, (Below.refl _ _).alloc (Nat.le_refl _) _⟩

end Go.Proofs.YtmofidaojmiepaaGreatDoor

/-
  THE WALKS: the document's Due; sums.
-/
set_option linter.unusedVariables false
set_option linter.unusedSimpArgs false
namespace Go.Proofs.YtmofidaojmiepaaGreatDoor

open Go.RowKit

theorem rwork_eq {week : Int} (h1 : 0 ≤ week) (h2 : week ≤ 127) (d : Int) {p : Int} (hp : p = d % 7) {m : Nat} (hm : m = p.toNat) : (bits BinOp.and IntKind.i64 (week / 2 ^ m) 1 == 0) = !M.atw week d := by
  subst hp
  rw [M.week_bit h1 h2 (p := d % 7) (by omega) (by omega) m hm]
  unfold M.atw
  rw [Bool.eq_iff_iff]; simp; omega

theorem wkd_no {week d : Int} {hol : List Int} {k : Nat} (hk : k < hol.length) (h : hol.getD k 0 = d) : M.wkd week hol d = false := by
  have : hol.contains d = true := by
    rw [List.contains_iff_mem, ← h]; simp [List.getD, hk]
  simp only [M.wkd, this]; simp

theorem wkd_yes {week d : Int} {hol : List Int} (h : ∀ i : Nat, i < hol.length → hol.getD i 0 ≠ d) (ha : M.atw week d = true) : M.wkd week hol d = true := by
  have : hol.contains d = false := by
    rw [Bool.eq_false_iff]; intro hc
    obtain ⟨i, hi, e⟩ := List.mem_iff_getElem.1 (List.contains_iff_mem.1 hc)
    exact h i hi (by simp [List.getD, hi, e])
  simp only [M.wkd, this, ha]; rfl

/-- What is known of a slice of ints, as a walk takes it: nothing there, or its cells. -/
theorem IntsAt.cases {w : World} {a : Option Addr} {cap : Nat} {xs : List Int} (h : IntsAt w (.slice a xs.length cap) xs) : xs.length = 0 ∨ ∃ b off, a = some ⟨b, off, none⟩ ∧ b < w.heap.size ∧ ∀ j, j < xs.length → w.cell? ⟨b, off + j, none⟩ = some (.int .i64 (xs.getD j 0)) := by
  rcases SlAt.elim h (by omega) with ⟨h0, _⟩ | ⟨h0, b, off, cap', e, hb, hc⟩
  · exact Or.inl h0
  · obtain ⟨rfl, _⟩ : a = some ⟨b, off, none⟩ ∧ cap = cap' := by simpa using e
    exact Or.inr ⟨b, off, rfl, hb, fun j hj => hc j (by omega)⟩

theorem mul_bd {a b : Int} (ha : -2000000000 ≤ a) (ha' : a ≤ 2000000000) (hb : -2000000000 ≤ b) (hb' : b ≤ 2000000000) : -4000000000000000000 ≤ a * b ∧ a * b ≤ 4000000000000000000 := by
  have h1 : a.natAbs ≤ 2000000000 := by omega
  have h2 : b.natAbs ≤ 2000000000 := by omega
  have h3 : (a * b).natAbs ≤ 2000000000 * 2000000000 := by rw [Int.natAbs_mul]; exact Nat.mul_le_mul h1 h2
  omega

theorem two_cases {kd : Int} (hk : 2 ≤ kd) (hk' : kd ≤ 8) : kd = 2 ∨ kd = 3 ∨ kd = 4 ∨ kd = 7 ∨ kd = 8 ∨ kd = 5 ∨ kd = 6 := by omega

theorem two2 (a b : Int) : M.two 2 a b = M.cutv (a + b) := if_pos rfl

theorem two3 (a b : Int) : M.two 3 a b = M.cutv (a - b) := by unfold M.two; rw [if_neg (by decide), if_pos rfl]

theorem two4 (a b : Int) : M.two 4 a b = M.cutv (a * b) := by unfold M.two; rw [if_neg (by decide), if_neg (by decide), if_pos rfl]

theorem two5 (a b : Int) : M.two 5 a b = M.minv a b := by unfold M.two; rw [if_neg (by decide), if_neg (by decide), if_neg (by decide), if_pos rfl]

theorem two6 (a b : Int) : M.two 6 a b = M.maxv a b := by unfold M.two; rw [if_neg (by decide), if_neg (by decide), if_neg (by decide), if_neg (by decide), if_pos rfl]

theorem two7 (a b : Int) : M.two 7 a b = M.num (decide (a < b)) := by unfold M.two; rw [if_neg (by decide), if_neg (by decide), if_neg (by decide), if_neg (by decide), if_neg (by decide), if_pos rfl]

theorem two8 (a b : Int) : M.two 8 a b = M.num (a == b) := by unfold M.two; rw [if_neg (by decide), if_neg (by decide), if_neg (by decide), if_neg (by decide), if_neg (by decide), if_neg (by decide)]; rfl

theorem beq_dec (a b : Int) : (a == b) = decide (a = b) := rfl

set_option maxHeartbeats 1000000 in
theorem ofTwo_any (kd a b : Int) (w : World) (hk : 2 ≤ kd) (hk' : kd ≤ 8) (ha : -2000000000 ≤ a) (ha' : a ≤ 2000000000) (hb : -2000000000 ≤ b) (hb' : b ≤ 2000000000) :
    Calls Tryz.prog 84 #[.int .i64 kd, .int .i64 a, .int .i64 b] w fun e w' => e = .returned (.int .i64 (M.two kd a b)) ∧ w' = w := by
  obtain ⟨hm1, hm2⟩ := mul_bd ha ha' hb hb'
  rcases two_cases hk hk' with rfl | rfl | rfl | rfl | rfl | rfl | rfl
  · go_enter Tryz.func84, Tryz.ntmps84
    go_wp2_with (go_at_call 90; refine (pcut_any _ _).mono ?_; rintro e w' ⟨rfl, rfl⟩)
    go_ret
    exact ⟨ret_int (by rw [two2]), rfl⟩
  · go_enter Tryz.func84, Tryz.ntmps84
    go_wp2_with (go_at_call 90; refine (pcut_any _ _).mono ?_; rintro e w' ⟨rfl, rfl⟩)
    go_ret
    exact ⟨ret_int (by rw [two3]), rfl⟩
  · go_enter Tryz.func84, Tryz.ntmps84
    go_wp2_with (go_at_call 90; refine (pcut_any _ _).mono ?_; rintro e w' ⟨rfl, rfl⟩)
    go_ret
    exact ⟨ret_int (by rw [two4]), rfl⟩
  · go_enter Tryz.func84, Tryz.ntmps84
    go_wp2_with (go_at_call 81; refine (truth_any _ _).mono ?_; rintro e w' ⟨rfl, rfl⟩)
    go_ret
    exact ⟨ret_int (by rw [two7]), rfl⟩
  · go_enter Tryz.func84, Tryz.ntmps84
    go_wp2_with (go_at_call 81; refine (truth_any _ _).mono ?_; rintro e w' ⟨rfl, rfl⟩)
    go_ret
    exact ⟨ret_int (by rw [two8]), rfl⟩
  · go_enter Tryz.func84, Tryz.ntmps84
    go_wp2_with (go_at_call 93; refine (lesser_any _ _ _).mono ?_; rintro e w' ⟨rfl, rfl⟩)
    go_ret
    exact ⟨ret_int (by rw [two5]), rfl⟩
  · go_enter Tryz.func84, Tryz.ntmps84
    go_wp2_with (go_at_call 94; refine (greater_any _ _ _).mono ?_; rintro e w' ⟨rfl, rfl⟩)
    go_ret
    exact ⟨ret_int (by rw [two6]), rfl⟩

def M.agev (now x k : Int) : Int := if now < x then 0 else (now - x) / k

set_option maxHeartbeats 400000 in
theorem page_any (a k now : Int) (w : World) (ha : -2000000000 ≤ a) (ha' : a ≤ 2000000000) (hk : 1000000 ≤ k) (hk' : k ≤ 1000000000) (hn : 0 ≤ now) (hn' : now ≤ 1000000000) :
    Calls Tryz.prog 82 #[.int .i64 a, .int .i64 k, .int .i64 now] w fun e w' => e = .returned (.int .i64 (M.agev now a k)) ∧ w' = w := by
  by_cases c : now < a
  · rw [show M.agev now a k = 0 from if_pos c]
    go_enter Tryz.func82, Tryz.ntmps82
    go_wp2
    go_ret
    exact ⟨rfl, rfl⟩
  · rw [show M.agev now a k = (now - a) / k from if_neg c]
    have hq := M.div_bound (v := now - a) (n := k) (by omega) (B := 3000000000) (by omega) (by omega) (by omega)
    have hq0 : 0 ≤ (now - a) / k := Int.ediv_nonneg (by omega) (by omega)
    have hq1 : (now - a) / k ≤ 3000 := Int.ediv_le_of_le_mul (by omega) (by omega)
    go_enter Tryz.func82, Tryz.ntmps82
    go_wp2_with fail
    refine (pcut_any _ _).mono ?_
    rintro e w1 ⟨rfl, rfl⟩
    go_wp2
    go_ret
    exact ⟨ret_int (by unfold M.cutv; rw [if_neg (by omega), if_neg (by omega)]), rfl⟩

end Go.Proofs.YtmofidaojmiepaaGreatDoor

/-
  THE WALKS: the document's Due; what hangs on the clock.
-/
set_option linter.unusedVariables false
set_option linter.unusedSimpArgs false
namespace Go.Proofs.YtmofidaojmiepaaGreatDoor

open Go.RowKit

theorem boxed {w wr : World} {c : Array Value} {t : TypeId} (hb : Below (w.heap.size + 1) (w.alloc (.cells c t)) wr) (i : Nat) : wr.cell? ⟨w.heap.size, i, none⟩ = c[i]? := by
  rw [hb.cell (p := ⟨w.heap.size, i, none⟩) (by show w.heap.size < _; omega), World.cell?_alloc_new]

theorem boxed_below {w wr : World} {o : Obj} (hb : Below (w.heap.size + 1) (w.alloc o) wr) : Below w.heap.size w wr :=
  ((Below.refl _ _).alloc (Nat.le_refl _) _).trans (hb.mono (by omega))

end Go.Proofs.YtmofidaojmiepaaGreatDoor

/-
  THE WALKS: a cell's value out of those that it needs.
-/
set_option linter.unusedVariables false
set_option linter.unusedSimpArgs false
namespace Go.Proofs.YtmofidaojmiepaaGreatDoor

open Go.RowKit

/-- A cell, as a form has it. -/
structure Cel where
  kind : Int
  a : Int
  b : Int
  c : Int
  k : Int

abbrev Cel.val (c : Cel) : Value := .agg #[.int .i64 c.kind, .int .i64 c.a, .int .i64 c.b, .int .i64 c.c, .int .i64 c.k]

/-- WHAT A CELL IS WORTH, by the values of those that it needs: the document's table. -/
def CRel (week : Int) (hol : List Int) (now : Int) (c : Cel) (x y z v : Int) : Prop :=
  ((c.kind = 0 ∨ c.kind = 1) → v = c.k) ∧
  ((2 ≤ c.kind ∧ c.kind ≤ 8) → v = M.two c.kind x y) ∧
  (c.kind = 9 → v = if x = 0 then z else y) ∧
  (c.kind = 10 → v = M.num (decide (x ≤ now))) ∧
  (c.kind = 11 → v = if now < x then 0 else (now - x) / c.k) ∧
  (c.kind = 12 → ∃ T, M.IsDue (M.wkd week hol) (x / 86400) c.k.toNat T ∧ v = M.cutv (T * 86400))

/-- A value. -/
abbrev IsV (x : Int) : Prop := -2000000000 ≤ x ∧ x ≤ 2000000000

/-- K is one that the row allows. -/
def KOk (c : Cel) : Prop := ((c.kind = 0 ∨ c.kind = 1) → IsV c.k) ∧ (c.kind = 11 → 1000000 ≤ c.k ∧ c.k ≤ 1000000000) ∧ (c.kind = 12 → 0 ≤ c.k ∧ c.k ≤ 250)

theorem cut_v (x : Int) : IsV (M.cutv x) := by
  unfold M.cutv IsV
  split
  · omega
  · split <;> omega

theorem num_v (b : Bool) : IsV (M.num b) := by cases b <;> simp [M.num, IsV]

theorem two_v {kd a b : Int} (hk : 2 ≤ kd) (hk' : kd ≤ 8) (ha : IsV a) (hb : IsV b) : IsV (M.two kd a b) := by
  rcases two_cases hk hk' with rfl | rfl | rfl | rfl | rfl | rfl | rfl
  · rw [two2]; exact cut_v _
  · rw [two3]; exact cut_v _
  · rw [two4]; exact cut_v _
  · rw [two7]; exact num_v _
  · rw [two8]; exact num_v _
  · rw [two5]; unfold M.minv; split <;> assumption
  · rw [two6]; unfold M.maxv; split <;> assumption

theorem CRel.isV {week : Int} {hol : List Int} {now : Int} {c : Cel} {x y z v : Int} (h : CRel week hol now c x y z v) (hk : 0 ≤ c.kind) (hk' : c.kind ≤ 12) (hK : KOk c) (hn : 0 ≤ now) (hn' : now ≤ 1000000000) (hx : IsV x) (hy : IsV y) (hz : IsV z) : IsV v := by
  obtain ⟨h0, h2, h9, h10, h11, h12⟩ := h
  have cs : (c.kind = 0 ∨ c.kind = 1) ∨ (2 ≤ c.kind ∧ c.kind ≤ 8) ∨ c.kind = 9 ∨ c.kind = 10 ∨ c.kind = 11 ∨ c.kind = 12 := by omega
  rcases cs with e | e | e | e | e | e
  · rw [h0 e]; exact hK.1 e
  · rw [h2 e]; exact two_v e.1 e.2 hx hy
  · rw [h9 e]; split <;> assumption
  · rw [h10 e]; exact num_v _
  · rw [h11 e]
    have hq := hK.2.1 e
    split
    · exact ⟨by omega, by omega⟩
    · have hq0 : 0 ≤ (now - x) / c.k := Int.ediv_nonneg (by omega) (by omega)
      have hq1 : (now - x) / c.k ≤ 3000 := Int.ediv_le_of_le_mul (by omega) (by have := hx.1; omega)
      exact ⟨by omega, by omega⟩
  · obtain ⟨T, _, e2⟩ := h12 e
    rw [e2]; exact cut_v _

theorem CRel.unique {week : Int} {hol : List Int} {now : Int} {c : Cel} {x y z x' y' z' v v' : Int} (h : CRel week hol now c x y z v) (g : CRel week hol now c x' y' z' v') (hk : 0 ≤ c.kind) (hk' : c.kind ≤ 12)
    (hx : 0 < M.needs c.kind → x = x') (hy : 1 < M.needs c.kind → y = y') (hz : 2 < M.needs c.kind → z = z') : v = v' := by
  obtain ⟨h0, h2, h9, h10, h11, h12⟩ := h
  obtain ⟨g0, g2, g9, g10, g11, g12⟩ := g
  have cs : (c.kind = 0 ∨ c.kind = 1) ∨ (2 ≤ c.kind ∧ c.kind ≤ 8) ∨ c.kind = 9 ∨ c.kind = 10 ∨ c.kind = 11 ∨ c.kind = 12 := by omega
  rcases cs with e | e | e | e | e | e
  · rw [h0 e, g0 e]
  · have n : M.needs c.kind = 2 := by unfold M.needs; rw [if_neg (by omega), if_neg (by omega), if_neg (by omega), if_pos (by omega)]
    rw [h2 e, g2 e, hx (by omega), hy (by omega)]
  · have n : M.needs c.kind = 3 := by rw [e]; decide
    rw [h9 e, g9 e, hx (by omega), hy (by omega), hz (by omega)]
  · have n : M.needs c.kind = 1 := by rw [e]; decide
    rw [h10 e, g10 e, hx (by omega)]
  · have n : M.needs c.kind = 1 := by rw [e]; decide
    rw [h11 e, g11 e, hx (by omega)]
  · have n : M.needs c.kind = 1 := by rw [e]; decide
    obtain ⟨T, t1, t2⟩ := h12 e
    obtain ⟨S, s1, s2⟩ := g12 e
    rw [hx (by omega)] at t1
    rw [t2, s2, M.due_unique t1 s1]

def pk (V : Nat → Int) (n : Nat) (i : Int) : Int := if 0 ≤ i ∧ i < n then V i.toNat else 0

theorem pk_v {V : Nat → Int} {n : Nat} (h : ∀ i, i < n → IsV (V i)) (i : Int) : IsV (pk V n i) := by
  unfold pk
  split
  · exact h _ (by omega)
  · exact ⟨by omega, by omega⟩

/-- A slice of n ints. -/
def FnAt (w : World) (v : Value) (n : Nat) (V : Nat → Int) : Prop := SlAt w v n 1 (fun j => .int .i64 (V j))

theorem FnAt.cases {w : World} {a : Option Addr} {n cap : Nat} {V : Nat → Int} (h : FnAt w (.slice a n cap) n V) : n = 0 ∨ ∃ b off, a = some ⟨b, off, none⟩ ∧ b < w.heap.size ∧ ∀ j, j < n → w.cell? ⟨b, off + j, none⟩ = some (.int .i64 (V j)) := by
  rcases SlAt.elim h (by omega) with ⟨h0, _⟩ | ⟨h0, b, off, cap', e, hb, hc⟩
  · exact Or.inl h0
  · obtain ⟨rfl, _⟩ : a = some ⟨b, off, none⟩ ∧ cap = cap' := by simpa using e
    exact Or.inr ⟨b, off, rfl, hb, fun j hj => hc j (by omega)⟩

set_option maxHeartbeats 400000 in
theorem pick_any (a : Option Addr) (n cap : Nat) (V : Nat → Int) (i : Int) (w : World) (hl : n ≤ 20) (hc : FnAt w (.slice a n cap) n V) :
    Calls Tryz.prog 80 #[.slice a n cap, .int .i64 i] w fun e w' => e = .returned (.int .i64 (pk V n i)) ∧ w' = w := by
  have HC := (show Hid _ from FnAt.cases hc)
  clear hc
  by_cases c : 0 ≤ i ∧ i < n
  · obtain ⟨c1, c2⟩ := c
    obtain ⟨k, rfl⟩ := Int.eq_ofNat_of_zero_le c1
    rcases HC.out with h0 | ⟨b, off, rfl, hb, hcell⟩
    · omega
    have hx := hcell k (by omega)
    have hv : Hid (pk V n k = V k) := by show pk V n k = _; unfold pk; rw [if_pos ⟨c1, c2⟩]; rfl
    clear hcell
    generalize V k = x at *
    go_enter Tryz.func80, Tryz.ntmps80
    go_wp2
    go_ret
    exact ⟨ret_int hv.out.symm, rfl⟩
  · have hv : Hid (pk V n i = 0) := by show pk V n i = 0; unfold pk; rw [if_neg c]
    by_cases c1 : 0 ≤ i
    · have c2 : (n : Int) ≤ i := by omega
      clear c
      go_enter Tryz.func80, Tryz.ntmps80
      go_wp2
      go_ret
      exact ⟨ret_int hv.out.symm, rfl⟩
    · clear c
      go_enter Tryz.func80, Tryz.ntmps80
      go_wp2
      go_ret
      exact ⟨ret_int hv.out.symm, rfl⟩

theorem CRel.congr {week : Int} {hol : List Int} {now : Int} {c : Cel} {x y z x' y' z' v : Int} (h : CRel week hol now c x y z v)
    (hx : 0 < M.needs c.kind → x = x') (hy : 1 < M.needs c.kind → y = y') (hz : 2 < M.needs c.kind → z = z') : CRel week hol now c x' y' z' v := by
  obtain ⟨h0, h2, h9, h10, h11, h12⟩ := h
  refine ⟨h0, fun e => ?_, fun e => ?_, fun e => ?_, fun e => ?_, fun e => ?_⟩
  · have n : M.needs c.kind = 2 := by unfold M.needs; rw [if_neg (by omega), if_neg (by omega), if_neg (by omega), if_pos (by omega)]
    rw [← hx (by omega), ← hy (by omega)]; exact h2 e
  · have n : M.needs c.kind = 3 := by rw [e]; decide
    rw [← hx (by omega), ← hy (by omega), ← hz (by omega)]; exact h9 e
  · have n : M.needs c.kind = 1 := by rw [e]; decide
    rw [← hx (by omega)]; exact h10 e
  · have n : M.needs c.kind = 1 := by rw [e]; decide
    rw [← hx (by omega)]; exact h11 e
  · have n : M.needs c.kind = 1 := by rw [e]; decide
    rw [← hx (by omega)]; exact h12 e

end Go.Proofs.YtmofidaojmiepaaGreatDoor

/-
  THE WALKS: value and timed.
-/
set_option linter.unusedVariables false
set_option linter.unusedSimpArgs false
namespace Go.Proofs.YtmofidaojmiepaaGreatDoor

open Go.RowKit

theorem crel0 {week : Int} {hol : List Int} {now kd a b c k x y z : Int} (h : kd = 0 ∨ kd = 1) : CRel week hol now ⟨kd, a, b, c, k⟩ x y z k :=
  ⟨fun _ => rfl, fun e => by have : 2 ≤ kd := e.1; omega, fun e => by have : kd = 9 := e; omega, fun e => by have : kd = 10 := e; omega, fun e => by have : kd = 11 := e; omega, fun e => by have : kd = 12 := e; omega⟩

theorem crel2 {week : Int} {hol : List Int} {now kd a b c k x y z : Int} (h : 2 ≤ kd) (h' : kd ≤ 8) : CRel week hol now ⟨kd, a, b, c, k⟩ x y z (M.two kd x y) :=
  ⟨fun e => by have : kd = 0 ∨ kd = 1 := e; omega, fun _ => rfl, fun e => by have : kd = 9 := e; omega, fun e => by have : kd = 10 := e; omega, fun e => by have : kd = 11 := e; omega, fun e => by have : kd = 12 := e; omega⟩

theorem crel9 {week : Int} {hol : List Int} {now a b c k x y z v : Int} (h : v = if x = 0 then z else y) : CRel week hol now ⟨9, a, b, c, k⟩ x y z v :=
  ⟨fun e => by have : (9 : Int) = 0 ∨ (9 : Int) = 1 := e; omega, fun e => by have : (9 : Int) ≤ 8 := e.2; omega, fun _ => h, fun e => by have : (9 : Int) = 10 := e; omega, fun e => by have : (9 : Int) = 11 := e; omega, fun e => by have : (9 : Int) = 12 := e; omega⟩

theorem crel10 {week : Int} {hol : List Int} {now a b c k x y z v : Int} (h : v = M.num (decide (x ≤ now))) : CRel week hol now ⟨10, a, b, c, k⟩ x y z v :=
  ⟨fun e => by have : (10 : Int) = 0 ∨ (10 : Int) = 1 := e; omega, fun e => by have : (10 : Int) ≤ 8 := e.2; omega, fun e => by have : (10 : Int) = 9 := e; omega, fun _ => h, fun e => by have : (10 : Int) = 11 := e; omega, fun e => by have : (10 : Int) = 12 := e; omega⟩

theorem crel11 {week : Int} {hol : List Int} {now a b c k x y z v : Int} (h : v = if now < x then 0 else (now - x) / k) : CRel week hol now ⟨11, a, b, c, k⟩ x y z v :=
  ⟨fun e => by have : (11 : Int) = 0 ∨ (11 : Int) = 1 := e; omega, fun e => by have : (11 : Int) ≤ 8 := e.2; omega, fun e => by have : (11 : Int) = 9 := e; omega, fun e => by have : (11 : Int) = 10 := e; omega, fun _ => h, fun e => by have : (11 : Int) = 12 := e; omega⟩

theorem crel12 {week : Int} {hol : List Int} {now a b c k x y z v T : Int} (h : M.IsDue (M.wkd week hol) (x / 86400) k.toNat T) (h' : v = M.cutv (T * 86400)) : CRel week hol now ⟨12, a, b, c, k⟩ x y z v :=
  ⟨fun e => by have : (12 : Int) = 0 ∨ (12 : Int) = 1 := e; omega, fun e => by have : (12 : Int) ≤ 8 := e.2; omega, fun e => by have : (12 : Int) = 9 := e; omega, fun e => by have : (12 : Int) = 10 := e; omega, fun e => by have : (12 : Int) = 11 := e; omega, fun _ => ⟨T, h, h'⟩⟩

set_option maxHeartbeats 2000000 in
theorem value_any (aC aR aH : Option Addr) (nC cC nR cR nH cH : Nat) (week : Int) (hol : List Int) (kd ca cb cc ck : Int) (av : Option Addr) (nv cv : Nat) (V : Nat → Int) (now : Int) (w : World)
    (h1 : 1 ≤ week) (h2 : week ≤ 127) (hh : HolOk hol) (hn : nH = hol.length) (hc : IntsAt w (.slice aH nH cH) hol) (hk : 0 ≤ kd) (hk' : kd ≤ 12) (hK : KOk ⟨kd, ca, cb, cc, ck⟩) (hl : nv ≤ 20) (hcv : FnAt w (.slice av nv cv) nv V)
    (hv : ∀ i, i < nv → IsV (V i)) (n0 : 0 ≤ now) (n1 : now ≤ 1000000000) :
    Calls Tryz.prog 75 #[.agg #[.slice aC nC cC, .slice aR nR cR, .int .i64 week, .slice aH nH cH], .agg #[.int .i64 kd, .int .i64 ca, .int .i64 cb, .int .i64 cc, .int .i64 ck], .slice av nv cv, .int .i64 now] w
      fun e w' => ∃ v, e = .returned (.int .i64 v) ∧ CRel week hol now ⟨kd, ca, cb, cc, ck⟩ (pk V nv ca) (pk V nv cb) (pk V nv cc) v ∧ Below w.heap.size w w' := by
  have HH : Hid _ := hh
  have HN : Hid _ := hn
  have HC : Hid _ := hc
  have HK : Hid _ := hK
  have HCV : Hid _ := hcv
  obtain ⟨x1, x2⟩ := pk_v hv ca
  obtain ⟨y1, y2⟩ := pk_v hv cb
  obtain ⟨z1, z2⟩ := pk_v hv cc
  clear hh hn hc hK hcv hv
  have hb2 : ∀ o o', Below w.heap.size w ((w.alloc o).alloc o') := fun o o' => ((Below.refl _ _).alloc (Nat.le_refl _) _).alloc (by simp) _
  have HB2 : Hid _ := hb2
  clear hb2
  have P : ∀ i W, Below w.heap.size w W → Calls Tryz.prog 80 #[.slice av nv cv, .int .i64 i] W fun e w' => e = .returned (.int .i64 (pk V nv i)) ∧ w' = W :=
    fun i W hW => pick_any av nv cv V i W hl (SlAt.below HCV.out hW (Nat.le_refl _))
  have HP : Hid _ := P
  clear P
  have cs : (kd = 0 ∨ kd = 1) ∨ kd = 9 ∨ kd = 10 ∨ kd = 11 ∨ kd = 12 ∨ (2 ≤ kd ∧ kd ≤ 8) := by omega
  generalize hx : pk V nv ca = x at *
  generalize hy : pk V nv cb = y at *
  generalize hz : pk V nv cc = z at *
  have HX : Hid _ := hx
  have HY : Hid _ := hy
  have HZ : Hid _ := hz
  clear hx hy hz
  rcases cs with (rfl | rfl) | rfl | rfl | rfl | rfl | ⟨k2, k8⟩
  · go_enter Tryz.func75, Tryz.ntmps75
    go_wp2_with (go_at_call 80; refine (HP.out _ _ (HB2.out _ _)).mono ?_; rintro e w1 ⟨rfl, rfl⟩)
    go_ret
    exact ⟨_, rfl, crel0 (Or.inl rfl), HB2.out _ _⟩
  · go_enter Tryz.func75, Tryz.ntmps75
    go_wp2_with (go_at_call 80; refine (HP.out _ _ (HB2.out _ _)).mono ?_; rintro e w1 ⟨rfl, rfl⟩)
    go_ret
    exact ⟨_, rfl, crel0 (Or.inr rfl), HB2.out _ _⟩
  · by_cases c : x = 0
    · have c' : (x != 0) = false := by simp [c]
      have C : Hid _ := c
      clear c
      go_enter Tryz.func75, Tryz.ntmps75
      go_wp2_with (go_at_call 80; refine (HP.out _ _ (HB2.out _ _)).mono ?_; rintro e w1 ⟨rfl, rfl⟩; simp only [HX.out, HY.out])
      go_ret
      exact ⟨_, rfl, crel9 (by rw [if_pos C.out]; exact HZ.out), HB2.out _ _⟩
    · have c' : (x != 0) = true := by simp [c]
      have C : Hid _ := c
      clear c
      go_enter Tryz.func75, Tryz.ntmps75
      go_wp2_with (go_at_call 80; refine (HP.out _ _ (HB2.out _ _)).mono ?_; rintro e w1 ⟨rfl, rfl⟩; simp only [HX.out, HY.out])
      go_ret
      exact ⟨_, rfl, crel9 (by rw [if_neg C.out]), HB2.out _ _⟩
  · go_enter Tryz.func75, Tryz.ntmps75
    go_wp2_with (first | (go_at_call 80; refine (HP.out _ _ (HB2.out _ _)).mono ?_; rintro e w1 ⟨rfl, rfl⟩; simp only [HX.out, HY.out]) | (go_at_call 81; refine (truth_any _ _).mono ?_; rintro e w1 ⟨rfl, rfl⟩))
    go_ret
    exact ⟨_, rfl, crel10 rfl, HB2.out _ _⟩
  · obtain ⟨q1, q2⟩ := HK.out.2.1 rfl
    go_enter Tryz.func75, Tryz.ntmps75
    go_wp2_with (first | (go_at_call 80; refine (HP.out _ _ (HB2.out _ _)).mono ?_; rintro e w1 ⟨rfl, rfl⟩; simp only [HX.out, HY.out]) | (go_at_call 82; refine (page_any _ _ _ _ x1 x2 q1 q2 n0 n1).mono ?_; rintro e w1 ⟨rfl, rfl⟩))
    go_ret
    exact ⟨_, rfl, crel11 rfl, HB2.out _ _⟩
  · obtain ⟨q1, q2⟩ := HK.out.2.2 rfl
    go_enter Tryz.func75, Tryz.ntmps75
    go_wp2_with (go_at_call 80; refine (HP.out _ _ (HB2.out _ _)).mono ?_; rintro e w1 ⟨rfl, rfl⟩; simp only [HX.out, HY.out])
    refine (pdue_any aC aR aH nC cC nR cR nH cH week x ck hol _ h1 h2 x1 x2 q1 q2 HH.out HN.out (SlAt.below HC.out (HB2.out _ _) (Nat.le_refl _))).mono ?_
    rintro e w1 ⟨T, rfl, hT, hb⟩
    have HB : Hid (Below w.heap.size w w1) := (HB2.out _ _).trans (hb.mono (by simp; omega))
    have HT : Hid _ := hT
    clear hb hT
    go_wp2
    go_ret
    exact ⟨_, rfl, crel12 HT.out rfl, HB.out⟩
  · have t0 : (kd == 0) = false := beq_eq_false_iff_ne.2 (by omega)
    have t1 : (kd == 1) = false := beq_eq_false_iff_ne.2 (by omega)
    have t9 : (kd == 9) = false := beq_eq_false_iff_ne.2 (by omega)
    have t10 : (kd == 10) = false := beq_eq_false_iff_ne.2 (by omega)
    have t11 : (kd == 11) = false := beq_eq_false_iff_ne.2 (by omega)
    have t12 : (kd == 12) = false := beq_eq_false_iff_ne.2 (by omega)
    go_enter Tryz.func75, Tryz.ntmps75
    go_wp2_with (first | (go_at_call 80; refine (HP.out _ _ (HB2.out _ _)).mono ?_; rintro e w1 ⟨rfl, rfl⟩; simp only [HX.out, HY.out]) | (go_at_call 84; refine (ofTwo_any _ _ _ _ k2 k8 x1 x2 y1 y2).mono ?_; rintro e w1 ⟨rfl, rfl⟩))
    go_ret
    exact ⟨_, rfl, crel2 k2 k8, HB2.out _ _⟩

end Go.Proofs.YtmofidaojmiepaaGreatDoor

/-
  PLAIN MATHEMATICS: what cells need, levels, values that are what the rows say.
-/
set_option linter.unusedVariables false
set_option linter.unusedSimpArgs false
namespace Go.Proofs.YtmofidaojmiepaaGreatDoor

open Go.RowKit

/-- Cell i needs cell j. -/
def Ed (C : Nat → Cel) (n : Nat) (i j : Nat) : Prop :=
  i < n ∧ ((0 < M.needs (C i).kind ∧ (C i).a = j) ∨ (1 < M.needs (C i).kind ∧ (C i).b = j) ∨ (2 < M.needs (C i).kind ∧ (C i).c = j))

/-- A cell that may stand in a form of n cells. -/
def CellOk (c : Cel) (n : Nat) : Prop :=
  0 ≤ c.kind ∧ c.kind ≤ 12 ∧ KOk c ∧ (0 < M.needs c.kind → 0 ≤ c.a ∧ c.a < n) ∧ (1 < M.needs c.kind → 0 ≤ c.b ∧ c.b < n) ∧ (2 < M.needs c.kind → 0 ≤ c.c ∧ c.c < n)

def CellsOk (C : Nat → Cel) (n : Nat) : Prop := ∀ i, i < n → CellOk (C i) n

def NoRing (C : Nat → Cel) (n : Nat) : Prop := ∀ i, i < n → ¬ M.Ring (Ed C n) i

theorem ed_within {C : Nat → Cel} {n : Nat} (h : CellsOk C n) : M.Within (Ed C n) n := by
  intro i j ⟨hi, hj⟩
  obtain ⟨_, _, _, ha, hb, hc⟩ := h i hi
  rcases hj with ⟨p, e⟩ | ⟨p, e⟩ | ⟨p, e⟩
  · have := ha p; omega
  · have := hb p; omega
  · have := hc p; omega

/-- The cells that r rounds have worked out for sure. -/
def Lv (C : Nat → Cel) (n : Nat) : Nat → Nat → Prop
  | 0, _ => False
  | r + 1, i => ∀ j, Ed C n i j → Lv C n r j

theorem lv_all {C : Nat → Cel} {n : Nat} (hok : CellsOk C n) (hno : NoRing C n) {i : Nat} (hi : i < n) : Lv C n n i := by
  apply Classical.byContradiction
  intro h
  have step : ∀ r i, i < n → ¬ Lv C n (r + 1) i → ∃ j, Ed C n i j ∧ ¬ Lv C n r j := by
    intro r i _ h
    apply Classical.byContradiction
    intro g
    apply h
    intro j hj
    apply Classical.byContradiction
    intro hl
    exact g ⟨j, hj, hl⟩
  have build : ∀ s, s ≤ n → ∃ p : Nat → Nat, p 0 = i ∧ (∀ t, t ≤ s → p t < n) ∧ (∀ t, t < s → Ed C n (p t) (p (t + 1))) ∧ ¬ Lv C n (n - s) (p s) := by
    intro s
    induction s with
    | zero => exact fun _ => ⟨fun _ => i, rfl, fun _ _ => hi, fun t ht => by omega, h⟩
    | succ s ih =>
      intro hs
      obtain ⟨p, p0, pn, pe, pl⟩ := ih (by omega)
      rw [show n - s = (n - (s + 1)) + 1 by omega] at pl
      obtain ⟨j, j1, j2⟩ := step _ _ (pn s (Nat.le_refl _)) pl
      refine ⟨fun t => if t ≤ s then p t else j, by simp [p0], fun t ht => ?_, fun t ht => ?_, by simp only [show ¬ s + 1 ≤ s by omega, if_false]; exact j2⟩
      · by_cases e : t ≤ s
        · simp only [e, if_true]; exact pn t e
        · simp only [e, if_false]; exact ed_within hok _ _ j1
      · by_cases e : t = s
        · subst e; simp only [Nat.le_refl, if_true, show ¬ t + 1 ≤ t by omega, if_false]; exact j1
        · simp only [show t ≤ s by omega, show t + 1 ≤ s by omega, if_true]; exact pe t (by omega)
  obtain ⟨p, p0, pn, pe, _⟩ := build n (Nat.le_refl _)
  obtain ⟨a, b, hab, hb, hq⟩ := M.pigeon n p (fun t ht => pn t ht)
  have w := M.way_nodes pe (b - a) a (by omega)
  rw [show a + (b - a) = b by omega, ← hq] at w
  exact hno (p a) (pn a (by omega)) ⟨b - a, by omega, w⟩

/-- Each value is what its row says. -/
def LocalAt (C : Nat → Cel) (n : Nat) (week : Int) (hol : List Int) (now : Int) (V : Nat → Int) (i : Nat) : Prop :=
  CRel week hol now (C i) (pk V n (C i).a) (pk V n (C i).b) (pk V n (C i).c) (V i)

def LocalEq (C : Nat → Cel) (n : Nat) (week : Int) (hol : List Int) (now : Int) (V : Nat → Int) : Prop := ∀ i, i < n → LocalAt C n week hol now V i

theorem pk_eq {V V' : Nat → Int} {n : Nat} {a : Int} (h : ∀ j : Nat, a = j → j < n → V j = V' j) : pk V n a = pk V' n a := by
  unfold pk
  split
  · exact h _ (by omega) (by omega)
  · rfl

theorem local_unique {C : Nat → Cel} {n : Nat} {week : Int} {hol : List Int} {now : Int} {V V' : Nat → Int} (hok : CellsOk C n) (hno : NoRing C n) (h : LocalEq C n week hol now V) (g : LocalEq C n week hol now V') : ∀ i, i < n → V i = V' i := by
  intro i0 h0
  apply Classical.byContradiction
  intro hne
  obtain ⟨i, ⟨hi, hd⟩, hs⟩ := M.progress hno (fun i => i < n ∧ V i ≠ V' i) (fun i hi => hi.1) ⟨h0, hne⟩
  apply hd
  have same : ∀ j, Ed C n i j → j < n → V j = V' j := fun j hj hn => Classical.byContradiction fun e => hs j hj ⟨hn, e⟩
  obtain ⟨k0, k1, _⟩ := hok i hi
  exact CRel.unique (h i hi) (g i hi) k0 k1 (fun p => pk_eq fun j e hj => same j ⟨hi, Or.inl ⟨p, e⟩⟩ hj) (fun p => pk_eq fun j e hj => same j ⟨hi, Or.inr (Or.inl ⟨p, e⟩)⟩ hj) (fun p => pk_eq fun j e hj => same j ⟨hi, Or.inr (Or.inr ⟨p, e⟩)⟩ hj)

/-- A state of the work: what is done is what its row says, and so is what it needs. -/
structure Done (C : Nat → Cel) (n : Nat) (week : Int) (hol : List Int) (now : Int) (V : Nat → Int) (D : Nat → Bool) : Prop where
  val : ∀ i, i < n → IsV (V i)
  eq : ∀ i, i < n → D i = true → LocalAt C n week hol now V i
  need : ∀ i j, i < n → D i = true → Ed C n i j → D j = true

theorem done_start (C : Nat → Cel) (n : Nat) (week : Int) (hol : List Int) (now : Int) : Done C n week hol now (fun _ => 0) (fun _ => false) :=
  ⟨fun _ _ => ⟨by omega, by omega⟩, fun _ _ h => (by cases h), fun _ _ _ h => (by cases h)⟩

def upd {α : Type} (f : Nat → α) (i : Nat) (v : α) : Nat → α := fun j => if j = i then v else f j

theorem upd_same {α : Type} (f : Nat → α) (i : Nat) (v : α) : upd f i v i = v := if_pos rfl

theorem upd_other {α : Type} (f : Nat → α) {i j : Nat} (v : α) (h : j ≠ i) : upd f i v j = f j := if_neg h

/-- One cell more is worked out. -/
theorem Done.step {C : Nat → Cel} {n : Nat} {week : Int} {hol : List Int} {now : Int} {V : Nat → Int} {D : Nat → Bool} (h : Done C n week hol now V D) (hok : CellsOk C n) {i : Nat} (hi : i < n) (hD : D i = false) (hn : ∀ j, Ed C n i j → D j = true) {v : Int}
    (hv : CRel week hol now (C i) (pk V n (C i).a) (pk V n (C i).b) (pk V n (C i).c) v) (n0 : 0 ≤ now) (n1 : now ≤ 1000000000) : Done C n week hol now (upd V i v) (upd D i true) := by
  obtain ⟨k0, k1, kk, _⟩ := hok i hi
  have hiv : IsV v := CRel.isV hv k0 k1 kk n0 n1 (pk_v h.val _) (pk_v h.val _) (pk_v h.val _)
  have old : ∀ k, k < n → (k = i ∨ D k = true) → ∀ j, Ed C n k j → j ≠ i := by
    intro k hk hd j hj e
    subst e
    rcases hd with hd | hd
    · subst hd; have := hn _ hj; rw [hD] at this; cases this
    · have := h.need k j hk hd hj; rw [hD] at this; cases this
  refine ⟨fun k hk => ?_, fun k hk hd => ?_, fun k j hk hd hj => ?_⟩
  · by_cases e : k = i
    · subst e; rw [upd_same]; exact hiv
    · rw [upd_other _ _ e]; exact h.val k hk
  · have hd' : k = i ∨ D k = true := by
      by_cases e : k = i
      · exact Or.inl e
      · rw [upd_other _ _ e] at hd; exact Or.inr hd
    have o := old k hk hd'
    have pq : ∀ {a : Int}, (∀ j : Nat, a = j → Ed C n k j) → pk V n a = pk (upd V i v) n a := fun hh => pk_eq fun j e _ => (upd_other V v (o j (hh j e))).symm
    unfold LocalAt
    have base : CRel week hol now (C k) (pk V n (C k).a) (pk V n (C k).b) (pk V n (C k).c) (upd V i v k) := by
      by_cases e : k = i
      · subst e; rw [upd_same]; exact hv
      · rw [upd_other _ _ e]
        rcases hd' with hd' | hd'
        · exact (e hd').elim
        · exact h.eq k hk hd'
    exact CRel.congr base (fun p => pq fun j e => ⟨hk, Or.inl ⟨p, e⟩⟩) (fun p => pq fun j e => ⟨hk, Or.inr (Or.inl ⟨p, e⟩)⟩) (fun p => pq fun j e => ⟨hk, Or.inr (Or.inr ⟨p, e⟩)⟩)
  · by_cases e : j = i
    · subst e; exact upd_same _ _ _
    · rw [upd_other _ _ e]
      by_cases e2 : k = i
      · subst e2; exact hn j hj
      · rw [upd_other _ _ e2] at hd; exact h.need k j hk hd hj

end Go.Proofs.YtmofidaojmiepaaGreatDoor

/-
  THE WALKS: what a cell needs, in the code; is it ready?
-/
set_option linter.unusedVariables false
set_option linter.unusedSimpArgs false
namespace Go.Proofs.YtmofidaojmiepaaGreatDoor

open Go.RowKit

/-- The table of package kind, as it is laid. -/
def Tab (w : World) : Prop := 0 < w.heap.size ∧ ∀ i : Nat, i < 13 → w.cell? ⟨0, i, none⟩ = some (.int .i64 (M.needs i))

theorem Tab.below {B : Nat} {w w' : World} (h : Tab w) (hb : Below B w w') (hB : w.heap.size ≤ B) : Tab w' :=
  ⟨by have := hb.size; have := h.1; omega, fun i hi => by rw [hb.cell (p := ⟨0, i, none⟩) (by have := h.1; show 0 < B; omega)]; exact h.2 i hi⟩

/-- How many it needs; none, if there is no such kind. -/
def need0 (k : Int) : Int := if 0 ≤ k ∧ k < 13 then M.needs k else 0

theorem need0_bd (k : Int) : 0 ≤ need0 k ∧ need0 k ≤ 3 := by
  unfold need0
  split
  · unfold M.needs; repeat' split
    all_goals omega
  · omega

set_option maxHeartbeats 400000 in
theorem pneeds_any (k : Int) (w : World) (ht : Tab w) : Calls Tryz.prog 57 #[.int .i64 k] w fun e w' => e = .returned (.int .i64 (need0 k)) ∧ w' = w := by
  have HT : Hid _ := ht
  clear ht
  by_cases c : 0 ≤ k ∧ k < 13
  · obtain ⟨c1, c2⟩ := c
    obtain ⟨m, rfl⟩ := Int.eq_ofNat_of_zero_le c1
    have hv : Hid (need0 m = M.needs m) := if_pos ⟨c1, c2⟩
    have hkn : Hid (M.knownB m = true) := by show M.knownB m = true; simp [M.knownB]; omega
    have hx := HT.out.2 m (by omega)
    generalize M.needs m = x at *
    go_enter Tryz.func57, Tryz.ntmps57
    go_wp2_with (go_at_call 52; refine (known_any _ _).mono ?_; rintro e w1 ⟨rfl, rfl⟩; rw [hkn.out])
    go_ret
    exact ⟨ret_int hv.out.symm, rfl⟩
  · have hv : Hid (need0 k = 0) := if_neg c
    have hkn : Hid (M.knownB k = false) := by show M.knownB k = false; simp [M.knownB]; omega
    go_enter Tryz.func57, Tryz.ntmps57
    go_wp2_with (go_at_call 52; refine (known_any _ _).mono ?_; rintro e w1 ⟨rfl, rfl⟩; rw [hkn.out])
    go_ret
    exact ⟨ret_int hv.out.symm, rfl⟩

/-- What stands in A, B or C. -/
def needp (c : Cel) (p : Nat) : Int := if p = 0 then c.a else if p = 1 then c.b else c.c

set_option maxHeartbeats 400000 in
theorem pneed_any (kd a b c k : Int) (p : Nat) (w : World) (hp : p ≤ 3) : Calls Tryz.prog 58 #[.agg #[.int .i64 kd, .int .i64 a, .int .i64 b, .int .i64 c, .int .i64 k], .int .i64 p] w fun e w' => e = .returned (.int .i64 (needp ⟨kd, a, b, c, k⟩ p)) ∧ Below w.heap.size w w' := by
  by_cases p0 : p = 0
  · subst p0
    go_enter Tryz.func58, Tryz.ntmps58
    go_wp2
    go_ret
    exact ⟨rfl, (Below.refl _ _).alloc (Nat.le_refl _) _⟩
  · by_cases p1 : p = 1
    · subst p1
      go_enter Tryz.func58, Tryz.ntmps58
      go_wp2
      go_ret
      exact ⟨rfl, (Below.refl _ _).alloc (Nat.le_refl _) _⟩
    · have t0 : ((p : Int) == 0) = false := beq_eq_false_iff_ne.2 (by omega)
      have t1 : ((p : Int) == 1) = false := beq_eq_false_iff_ne.2 (by omega)
      have hv : Hid (needp ⟨kd, a, b, c, k⟩ p = c) := by show needp ⟨kd, a, b, c, k⟩ p = c; unfold needp; rw [if_neg p0, if_neg p1]
      clear p0 p1
      go_enter Tryz.func58, Tryz.ntmps58
      go_wp2
      go_ret
      exact ⟨ret_int hv.out.symm, (Below.refl _ _).alloc (Nat.le_refl _) _⟩

/-- Are all that it needs done? -/
def readyB (c : Cel) (n : Nat) (D : Nat → Bool) : Prop := ∀ p : Nat, (p : Int) < need0 c.kind → 0 ≤ needp c p ∧ needp c p < n ∧ D (needp c p).toNat = true

theorem ready_ed {C : Nat → Cel} {n i : Nat} (hi : i < n) (hok : CellsOk C n) {D : Nat → Bool} : readyB (C i) n D ↔ ∀ j, Ed C n i j → D j = true := by
  obtain ⟨k0, k1, _, ha, hb, hc⟩ := hok i hi
  have e : need0 (C i).kind = M.needs (C i).kind := if_pos ⟨k0, by omega⟩
  have bd := need0_bd (C i).kind
  unfold readyB
  rw [e] at *
  constructor
  · intro h j ⟨_, hj⟩
    rcases hj with ⟨p, q⟩ | ⟨p, q⟩ | ⟨p, q⟩
    · have := (h 0 (by omega)).2.2
      rw [show needp (C i) 0 = (C i).a from rfl, q] at this; exact this
    · have := (h 1 (by omega)).2.2
      rw [show needp (C i) 1 = (C i).b from rfl, q] at this; exact this
    · have := (h 2 (by omega)).2.2
      rw [show needp (C i) 2 = (C i).c from rfl, q] at this; exact this
  · intro h p hp
    have hp3 : p = 0 ∨ p = 1 ∨ p = 2 := by omega
    rcases hp3 with rfl | rfl | rfl
    · obtain ⟨a0, a1⟩ := ha (by omega)
      exact ⟨a0, a1, h _ ⟨hi, Or.inl ⟨by omega, by show (C i).a = (((C i).a).toNat : Int); omega⟩⟩⟩
    · obtain ⟨a0, a1⟩ := hb (by omega)
      exact ⟨a0, a1, h _ ⟨hi, Or.inr (Or.inl ⟨by omega, by show (C i).b = (((C i).b).toNat : Int); omega⟩)⟩⟩
    · obtain ⟨a0, a1⟩ := hc (by omega)
      exact ⟨a0, a1, h _ ⟨hi, Or.inr (Or.inr ⟨by omega, by show (C i).c = (((C i).c).toNat : Int); omega⟩)⟩⟩

set_option maxHeartbeats 800000 in
theorem ready_any (kd a b c k : Int) (bd n cap : Nat) (D : Nat → Bool) (w : World) (ht : Tab w) (hl : n ≤ 20) (hbd : bd < w.heap.size) (hD : ∀ j, j < n → w.cell? ⟨bd, j, none⟩ = some (.bool (D j))) :
    Calls Tryz.prog 74 #[.agg #[.int .i64 kd, .int .i64 a, .int .i64 b, .int .i64 c, .int .i64 k], .slice (some ⟨bd, 0, none⟩) n cap] w
      fun e w' => ∃ r, e = .returned (.bool r) ∧ (r = true ↔ readyB ⟨kd, a, b, c, k⟩ n D) ∧ Below w.heap.size w w' := by
  have HT : Hid _ := ht
  have HD : Hid _ := hD
  clear ht hD
  obtain ⟨q1, q2⟩ := need0_bd kd
  obtain ⟨q, hq⟩ := Int.eq_ofNat_of_zero_le q1
  have HQ : Hid (need0 kd = (q : Int)) := hq
  rw [hq] at q1 q2
  clear hq
  go_enter Tryz.func74, Tryz.ntmps74
  go_wp2_with fail
  refine (pneeds_any _ _ (Tab.below HT.out ((Below.refl _ _).alloc (Nat.le_refl _) _) (Nat.le_refl _))).mono ?_
  rintro e w1 ⟨rfl, rfl⟩
  rw [HQ.out]
  go_wp2
  go_loopw [6] (fun t wr => ∃ p : Nat, p ≤ q ∧ t = .int .i64 p ∧ Hid (∀ p' : Nat, p' < p → 0 ≤ needp ⟨kd, a, b, c, k⟩ p' ∧ needp ⟨kd, a, b, c, k⟩ p' < n ∧ D (needp ⟨kd, a, b, c, k⟩ p').toNat = true) ∧ Below (w.heap.size + 1) (w.alloc (.cells #[.int .i64 kd, .int .i64 a, .int .i64 b, .int .i64 c, .int .i64 k] 47)) wr) (fun t _ => q - (intOf t).toNat)
  case atStart => exact ⟨0, by omega, rfl, fun p' hp => by omega, Below.refl _ _⟩
  case round =>
    obtain ⟨p, p1, rfl, hp, hb⟩ := hrel
    by_cases hlt : p < q
    · have c0 := boxed hb 0
      have c1 := boxed hb 1
      have c2 := boxed hb 2
      have c3 := boxed hb 3
      have c4 := boxed hb 4
      simp at c0 c1 c2 c3 c4
      have hsz := hb.size
      simp at hsz
      have HB : Hid _ := hb
      clear hb
      go_wp2_with fail
      refine (pneed_any kd a b c k p _ (by omega)).mono ?_
      rintro e w1 ⟨rfl, hb1⟩
      have HB1 : Hid (Below (w.heap.size + 1) (w.alloc (.cells #[.int .i64 kd, .int .i64 a, .int .i64 b, .int .i64 c, .int .i64 k] 47)) w1) := HB.out.trans (hb1.mono (by omega))
      have HW : Hid (Below w.heap.size w w1) := boxed_below HB1.out
      clear hb1 c0 c1 c2 c3 c4
      have nx : Hid (0 ≤ needp ⟨kd, a, b, c, k⟩ p ∧ needp ⟨kd, a, b, c, k⟩ p < n → D (needp ⟨kd, a, b, c, k⟩ p).toNat = true → ∀ p' : Nat, p' < p + 1 → 0 ≤ needp ⟨kd, a, b, c, k⟩ p' ∧ needp ⟨kd, a, b, c, k⟩ p' < n ∧ D (needp ⟨kd, a, b, c, k⟩ p').toNat = true) := fun h1 h2 p' hp' => by
        by_cases e : p' = p
        · subst e; exact ⟨h1.1, h1.2, h2⟩
        · exact hp.out p' (by omega)
      have no : Hid (¬ (0 ≤ needp ⟨kd, a, b, c, k⟩ p ∧ needp ⟨kd, a, b, c, k⟩ p < n ∧ D (needp ⟨kd, a, b, c, k⟩ p).toNat = true) → (false = true ↔ readyB ⟨kd, a, b, c, k⟩ n D)) := fun h => ⟨fun e => (by cases e), fun g => (h (g p (by rw [HQ.out]; omega))).elim⟩
      generalize needp ⟨kd, a, b, c, k⟩ p = x at *
      by_cases x0 : 0 ≤ x
      · obtain ⟨y, rfl⟩ := Int.eq_ofNat_of_zero_le x0
        by_cases x1 : y < n
        · have hcell : w1.cell? ⟨bd, y, none⟩ = some (.bool (D y)) := by rw [HW.out.cell (p := ⟨bd, y, none⟩) hbd]; exact HD.out y x1
          cases hd : D y
          · rw [hd] at hcell
            have NO : Hid _ := no.out (fun h => by rw [Int.toNat_natCast, hd] at h; cases h.2.2)
            clear hd
            go_wp2
            go_ret
            exact ⟨_, rfl, NO.out, HW.out⟩
          · rw [hd] at hcell
            have NX : Hid _ := nx.out ⟨by omega, by omega⟩ (by rw [Int.toNat_natCast]; exact hd)
            clear hd
            go_wp2
            go_roundw
            case rel => exact ⟨p + 1, by omega, by go_num, NX, HB1⟩
            case measure => simp [intOf]; omega
        · have NO : Hid _ := no.out (fun h => by omega)
          go_wp2
          go_ret
          exact ⟨_, rfl, NO.out, HW.out⟩
      · have NO : Hid _ := no.out (fun h => by omega)
        go_wp2
        go_ret
        exact ⟨_, rfl, NO.out, HW.out⟩
    · have HB : Hid _ := hb
      clear hb
      go_wp2
      go_ret
      exact ⟨_, rfl, ⟨fun _ p' hp' => hp.out p' (by rw [HQ.out] at hp'; omega), fun _ => rfl⟩, boxed_below HB.out⟩

end Go.Proofs.YtmofidaojmiepaaGreatDoor

/-
  THE WALKS: the code's Values.
-/
set_option linter.unusedVariables false
set_option linter.unusedSimpArgs false
namespace Go.Proofs.YtmofidaojmiepaaGreatDoor

open Go.RowKit

theorem info3 : (Tryz.prog.info? 3).map (fun i => (i.zero, i.size, i.bytes)) = some (some (.int .i64 0), 1, 8) := by kernel_rfl

theorem info4 : (Tryz.prog.info? 4).map (fun i => (i.zero, i.size, i.bytes)) = some (some (.bool false), 1, 1) := by kernel_rfl

/-- The cells' memory, five places each. -/
def cellf (C : Nat → Cel) (j : Nat) : Value :=
  if j % 5 = 0 then .int .i64 (C (j / 5)).kind else if j % 5 = 1 then .int .i64 (C (j / 5)).a else if j % 5 = 2 then .int .i64 (C (j / 5)).b else if j % 5 = 3 then .int .i64 (C (j / 5)).c else .int .i64 (C (j / 5)).k

theorem cellf0 (C : Nat → Cel) (m : Nat) : cellf C (m * 5) = .int .i64 (C m).kind := by
  unfold cellf; rw [if_pos (by omega), show m * 5 / 5 = m by omega]

theorem cellf1 (C : Nat → Cel) (m : Nat) : cellf C (m * 5 + 1) = .int .i64 (C m).a := by
  unfold cellf; rw [if_neg (by omega), if_pos (by omega), show (m * 5 + 1) / 5 = m by omega]

theorem cellf2 (C : Nat → Cel) (m : Nat) : cellf C (m * 5 + 2) = .int .i64 (C m).b := by
  unfold cellf; rw [if_neg (by omega), if_neg (by omega), if_pos (by omega), show (m * 5 + 2) / 5 = m by omega]

theorem cellf3 (C : Nat → Cel) (m : Nat) : cellf C (m * 5 + 3) = .int .i64 (C m).c := by
  unfold cellf; rw [if_neg (by omega), if_neg (by omega), if_neg (by omega), if_pos (by omega), show (m * 5 + 3) / 5 = m by omega]

theorem cellf4 (C : Nat → Cel) (m : Nat) : cellf C (m * 5 + 4) = .int .i64 (C m).k := by
  unfold cellf; rw [if_neg (by omega), if_neg (by omega), if_neg (by omega), if_neg (by omega), show (m * 5 + 4) / 5 = m by omega]

/-- A slice of n cells. -/
def CellsAt (w : World) (v : Value) (n : Nat) (C : Nat → Cel) : Prop := SlAt w v n 5 (cellf C)

/-- Cell c lies at an address. -/
def CelIs (w : World) (b o : Nat) (c : Cel) : Prop :=
  w.cell? ⟨b, o, none⟩ = some (.int .i64 c.kind) ∧ w.cell? ⟨b, o + 1, none⟩ = some (.int .i64 c.a) ∧ w.cell? ⟨b, o + 2, none⟩ = some (.int .i64 c.b) ∧ w.cell? ⟨b, o + 3, none⟩ = some (.int .i64 c.c) ∧ w.cell? ⟨b, o + 4, none⟩ = some (.int .i64 c.k)

theorem CellsAt.cases {w : World} {a : Option Addr} {n cap : Nat} {C : Nat → Cel} (h : CellsAt w (.slice a n cap) n C) : n = 0 ∨ ∃ b off, a = some ⟨b, off, none⟩ ∧ b < w.heap.size ∧ ∀ m, m < n → CelIs w b (off + m * 5) (C m) := by
  rcases SlAt.elim h (by omega) with ⟨h0, _⟩ | ⟨h0, b, off, cap', e, hb, hc⟩
  · exact Or.inl h0
  · obtain ⟨rfl, _⟩ : a = some ⟨b, off, none⟩ ∧ cap = cap' := by simpa using e
    refine Or.inr ⟨b, off, rfl, hb, fun m hm => ⟨?_, ?_, ?_, ?_, ?_⟩⟩
    · rw [hc (m * 5) (by omega), cellf0]
    · rw [Nat.add_assoc, hc (m * 5 + 1) (by omega), cellf1]
    · rw [Nat.add_assoc, hc (m * 5 + 2) (by omega), cellf2]
    · rw [Nat.add_assoc, hc (m * 5 + 3) (by omega), cellf3]
    · rw [Nat.add_assoc, hc (m * 5 + 4) (by omega), cellf4]

theorem CelIs.below {B : Nat} {w w' : World} {b o : Nat} {c : Cel} (h : CelIs w b o c) (hb : Below B w w') (hB : b < B) : CelIs w' b o c := by
  unfold CelIs
  rw [hb.cell (p := ⟨b, o, none⟩) hB, hb.cell (p := ⟨b, o + 1, none⟩) hB, hb.cell (p := ⟨b, o + 2, none⟩) hB, hb.cell (p := ⟨b, o + 3, none⟩) hB, hb.cell (p := ⟨b, o + 4, none⟩) hB]
  exact h

/-- The memory of the work: block N the form, N + 1 the values, N + 2 what is done. -/
structure Mem (w W0 wr : World) (n : Nat) (V : Nat → Int) (D : Nat → Bool) : Prop where
  bel : Below (w.heap.size + 1) W0 wr
  vals : wr.rowIs (w.heap.size + 1) 3 n (fun i => .int .i64 (V i))
  done : wr.rowIs (w.heap.size + 1 + 1) 4 n (fun i => .bool (D i))

theorem Mem.below {w W0 wr w1 : World} {n : Nat} {V : Nat → Int} {D : Nat → Bool} (h : Mem w W0 wr n V D) (hb : Below wr.heap.size wr w1) : Mem w W0 w1 n V D :=
  ⟨h.bel.trans (hb.mono (by have := h.done.lt; omega)), h.vals.of_block (hb.block _ h.vals.lt), h.done.of_block (hb.block _ h.done.lt)⟩

/-- One value more, and its mark. -/
theorem Mem.store {w W0 wr : World} {n : Nat} {V : Nat → Int} {D : Nat → Bool} (h : Mem w W0 wr n V D) (m : Nat) (v : Int) :
    Mem w W0 ((wr.setCell ⟨w.heap.size + 1, m, none⟩ (.int .i64 v)).setCell ⟨w.heap.size + 1 + 1, m, none⟩ (.bool true)) n (upd V m v) (upd D m true) := by
  refine ⟨(h.bel.setCell (by simp) _).setCell (by simp) _, ?_, ?_⟩
  · exact ((h.vals.set m _).setOther (by simp) _).congr (fun i _ => by unfold upd; split <;> rfl)
  · exact ((h.done.setOther (by simp) _).set m _).congr (fun i _ => by unfold upd; split <;> rfl)

theorem made_at (W : World) (z : Value) (n : Nat) (t : TypeId) {b : Nat} (h : b = W.heap.size) : (W.alloc (.cells (madeCells #[z] n) t)).rowIs b t n (fun _ => z) := by
  subst h; exact World.rowIs_made _ _ _ _

/-- What Values answers: a list of its own, each value what its row says. -/
def ValPost (C : Nat → Cel) (n : Nat) (week : Int) (hol : List Int) (now : Int) (w : World) (e : Ending) (w' : World) : Prop :=
  ∃ (b : Nat) (V : Nat → Int), e = .returned (.slice (some ⟨b, 0, none⟩) n n) ∧ w.heap.size ≤ b ∧ w'.rowIs b 3 n (fun i => .int .i64 (V i)) ∧ LocalEq C n week hol now V ∧ (∀ i, i < n → IsV (V i)) ∧ Below w.heap.size w w'

/-- How many cells are left. -/
def cnt (D : Nat → Bool) : Nat → Nat
  | 0 => 0
  | n + 1 => cnt D n + if D n then 0 else 1

theorem cnt_none (n : Nat) : cnt (fun _ => false) n = n := by
  induction n with
  | zero => rfl
  | succ n ih => show cnt _ n + 1 = _; rw [ih]

theorem cnt_le (D : Nat → Bool) (n : Nat) : cnt D n ≤ n := by
  induction n with
  | zero => exact Nat.le_refl _
  | succ n ih => show cnt D n + (if D n then 0 else 1) ≤ _; split <;> omega

theorem cnt_zero {D : Nat → Bool} : ∀ {n : Nat}, cnt D n = 0 → ∀ i, i < n → D i = true
  | 0, _, i, hi => by omega
  | n + 1, h, i, hi => by
    have h' : cnt D n + (if D n then 0 else 1) = 0 := h
    by_cases e : i = n
    · subst e
      cases hd : D i
      · rw [hd] at h'; simp at h'
      · rfl
    · exact cnt_zero (n := n) (by omega) i (by omega)

theorem cnt_same {D : Nat → Bool} {i : Nat} : ∀ {n : Nat}, n ≤ i → cnt (upd D i true) n = cnt D n
  | 0, _ => rfl
  | n + 1, h => by
    show cnt (upd D i true) n + (if upd D i true n then 0 else 1) = cnt D n + (if D n then 0 else 1)
    rw [cnt_same (by omega), upd_other _ _ (by omega)]

theorem cnt_upd {D : Nat → Bool} {i : Nat} (hd : D i = false) : ∀ {n : Nat}, i < n → cnt D n = cnt (upd D i true) n + 1
  | 0, h => by omega
  | n + 1, h => by
    show cnt D n + (if D n then 0 else 1) = cnt (upd D i true) n + (if upd D i true n then 0 else 1) + 1
    by_cases e : i = n
    · subst e
      rw [cnt_same (Nat.le_refl _), upd_same, hd]; simp
    · rw [cnt_upd hd (show i < n by omega), upd_other _ _ (by omega)]; omega

set_option maxHeartbeats 1000000 in
theorem pvalues_any (aR aH : Option Addr) (bC oC n cC nR cR nH cH : Nat) (C : Nat → Cel) (week now : Int) (hol : List Int) (w : World) (hn : n ≤ 20) (n1 : 1 ≤ n)
    (ht : Tab w) (h1 : 1 ≤ week) (h2 : week ≤ 127) (hh : HolOk hol) (hnh : nH = hol.length) (hch : IntsAt w (.slice aH nH cH) hol) (hbc : bC < w.heap.size) (hcs : ∀ m, m < n → CelIs w bC (oC + m * 5) (C m))
    (hok : CellsOk C n) (hno : NoRing C n) (t0 : 0 ≤ now) (t1 : now ≤ 1000000000) :
    Calls Tryz.prog 65 #[.agg #[.slice (some ⟨bC, oC, none⟩) n cC, .slice aR nR cR, .int .i64 week, .slice aH nH cH], .int .i64 now] w
      fun e w' => ValPost C n week hol now w e w' := by
  have HT : Hid _ := ht
  have HH : Hid _ := hh
  have HNH : Hid _ := hnh
  have HCH : Hid _ := hch
  have HCS : Hid _ := hcs
  have HOK : Hid _ := hok
  have HNO : Hid _ := hno
  clear ht hh hnh hch hcs hok hno
  have mk3 := run_make_row' (P := Tryz.prog) 24 3 (.int .i64 0) 8 Tryz.underlying24 info3 rfl .i64 .i64 n (by omega) (by omega)
  have mk4 := run_make_row' (P := Tryz.prog) 103 4 (.bool false) 1 Tryz.underlying103 info4 rfl .i64 .i64 n (by omega) (by omega)
  go_enter Tryz.func65, Tryz.ntmps65
  go_wp2
  clear mk3 mk4
  go_loopw [7, 8] (fun l r wr => ∃ (k : Nat) (V : Nat → Int) (D : Nat → Bool), k ≤ n ∧ l = .int .i64 (cnt D n) ∧ r = .int .i64 k ∧ Hid (Done C n week hol now V D) ∧ Hid (∀ i, i < n → Lv C n k i → D i = true) ∧ Hid (Mem w (w.alloc (.cells #[.slice (some ⟨bC, oC, none⟩) n cC, .slice aR nR cR, .int .i64 week, .slice aH nH cH] 26)) wr n V D)) (fun _ r _ => n - (intOf r).toNat)
  case atStart => exact ⟨0, fun _ => 0, fun _ => false, by omega, by rw [cnt_none], rfl, done_start _ _ _ _ _, fun i _ h => h.elim, ⟨((Below.refl _ _).alloc (by simp) _).alloc (by simp) _, (made_at _ _ _ _ (by simp)).alloc _, made_at _ _ _ _ (by simp)⟩⟩
  case round =>
    obtain ⟨k, V, D, k1, rfl, rfl, hdone, hlv, hmem⟩ := hrel
    have fb := hmem.out.bel
    have f0 := boxed fb 0
    simp at f0
    clear fb
    have hcl := cnt_le D n
    by_cases hc0 : cnt D n = 0
    · have Q : Hid (ValPost C n week hol now w (.returned (.slice (some ⟨w.heap.size + 1, 0, none⟩) n n)) wr) := ⟨_, V, rfl, by omega, hmem.out.vals, fun i hi => hdone.out.eq i hi (cnt_zero hc0 i hi), hdone.out.val, boxed_below hmem.out.bel⟩
      rw [hc0]
      clear hc0 hcl
      go_wp2
      exact bodyPost_ret (v := .slice (some ⟨w.heap.size + 1, 0, none⟩) n n) (by simp [results, go_sem]) rfl Q.out
    have hcp : (0 : Int) < (cnt D n : Int) := by omega
    by_cases hlt : k < n
    · have hlt' : (k : Int) < (n : Int) := by omega
      go_wp2
      go_loopw [7, 36] (fun l r wr => ∃ (m : Nat) (V : Nat → Int) (D : Nat → Bool), m ≤ n ∧ l = .int .i64 (cnt D n) ∧ r = .int .i64 m ∧ Hid (Done C n week hol now V D) ∧ Hid (∀ i, i < n → Lv C n k i → D i = true) ∧ Hid (∀ i, i < m → Lv C n (k + 1) i → D i = true) ∧ Hid (Mem w (w.alloc (.cells #[.slice (some ⟨bC, oC, none⟩) n cC, .slice aR nR cR, .int .i64 week, .slice aH nH cH] 26)) wr n V D)) (fun _ r _ => n - (intOf r).toNat)
      case atStart => exact ⟨0, V, D, by omega, rfl, rfl, hdone, hlv, fun i h => by omega, hmem⟩
      case round =>
        clear f0 hdone hlv hmem k1 hcl hc0 hcp
        obtain ⟨m, V, D, m1, rfl, rfl, hdone, hlv, hlv2, hmem⟩ := hrel
        have hcl := cnt_le D n
        by_cases hmt : m < n
        · have fb := hmem.out.bel
          have f0 := boxed fb 0
          have f1 := boxed fb 1
          have f2 := boxed fb 2
          have f3 := boxed fb 3
          simp at f0 f1 f2 f3
          have hsz := hmem.out.done.lt
          have hwb : Hid (Below w.heap.size w wr) := boxed_below fb
          clear fb
          obtain ⟨g0, g1, g2, g3, g4⟩ := CelIs.below (HCS.out m hmt) hwb.out hbc
          rcases hC : C m with ⟨kd, ca, cb, cc, ck⟩
          rw [hC] at g0 g1 g2 g3 g4
          simp only at g0 g1 g2 g3 g4
          have HCm : Hid _ := hC
          clear hC
          have d0 : wr.cell? ⟨w.heap.size + 1 + 1, m, none⟩ = some (.bool (D m)) := hmem.out.done.cell hmt
          have hba : Hid (∀ o, Below wr.heap.size wr (wr.alloc o)) := fun o => (Below.refl _ _).alloc (Nat.le_refl _) _
          have hmem1 : Hid (∀ o, Mem w (w.alloc (.cells #[.slice (some ⟨bC, oC, none⟩) n cC, .slice aR nR cR, .int .i64 week, .slice aH nH cH] 26)) (wr.alloc o) n V D) := fun o => hmem.out.below (hba.out o)
          cases hd : D m
          · rw [hd] at d0
            have HDm : Hid _ := hd
            clear hd
            go_wp2_with fail
            refine (ready_any kd ca cb cc ck (w.heap.size + 1 + 1) n n D _ (Tab.below HT.out (hwb.out.trans ((hba.out _).mono (by omega))) (Nat.le_refl _)) hn (by simp; omega) (fun j hj => (hmem1.out _).done.cell hj)).mono ?_
            rintro e w1 ⟨r, rfl, hr, hb1⟩
            have HR : Hid (r = true ↔ ∀ j, Ed C n m j → D j = true) := by
              rw [← HCm.out] at hr
              exact hr.trans (ready_ed hmt HOK.out)
            have hmem2 : Hid _ := (hmem1.out _).below hb1
            have hb2 : Hid _ := hb1
            simp only [World.size_alloc] at hb2
            clear hr hb1
            cases r
            · go_wp2
              go_roundw
              case rel => exact ⟨m + 1, V, D, by omega, rfl, by go_num, hdone, hlv, fun i hi hl => by
                by_cases e : i = m
                · subst e
                  have : false = true := HR.out.2 (fun j hj => hlv.out j (ed_within HOK.out _ _ hj) (hl j hj))
                  cases this
                · exact hlv2.out i (by omega) hl, hmem2⟩
              case measure => simp [intOf]; omega
            · have hneeds := HR.out.1 rfl
              have HNE : Hid _ := hneeds
              clear hneeds
              have q0 := boxed hb2.out 0
              have q1 := boxed hb2.out 1
              have q2 := boxed hb2.out 2
              have q3 := boxed hb2.out 3
              have q4 := boxed hb2.out 4
              have p0 := boxed hmem2.out.bel 0
              have p1 := boxed hmem2.out.bel 1
              have p2 := boxed hmem2.out.bel 2
              have p3 := boxed hmem2.out.bel 3
              simp at q0 q1 q2 q3 q4 p0 p1 p2 p3
              have hw1 : Hid (Below w.heap.size w w1) := boxed_below hmem2.out.bel
              have hokm := HOK.out m hmt
              rw [HCm.out] at hokm
              obtain ⟨kd0, kd1, kk, _⟩ := hokm
              have KK : Hid _ := kk
              clear kk
              go_wp2_with fail
              refine (value_any (some ⟨bC, oC, none⟩) aR aH n cC nR cR nH cH week hol kd ca cb cc ck (some ⟨w.heap.size + 1, 0, none⟩) n n V now w1 h1 h2 HH.out HNH.out (SlAt.below HCH.out hw1.out (Nat.le_refl _)) kd0 kd1 KK.out hn
                ⟨some ⟨w.heap.size + 1, 0, none⟩, n, rfl, fun j hj => ⟨w.heap.size + 1, 0, rfl, hmem2.out.vals.lt, by rw [Nat.zero_add]; exact hmem2.out.vals.cell (by omega)⟩⟩ hdone.out.val t0 t1).mono ?_
              rintro e w2 ⟨v, rfl, hv, hb3⟩
              have hmem3 : Hid _ := hmem2.out.below hb3
              have hv' : CRel week hol now (C m) (pk V n (C m).a) (pk V n (C m).b) (pk V n (C m).c) v := by rw [HCm.out]; exact hv
              have hdone' : Hid _ := hdone.out.step HOK.out hmt HDm.out HNE.out hv' t0 t1
              have HMS : Hid _ := hmem3.out.store m v
              have s0 : w2.cell? ⟨w.heap.size + 1, m, none⟩ = some (.int .i64 (V m)) := hmem3.out.vals.cell hmt
              have s1 : w2.frozen? ⟨w.heap.size + 1, m, none⟩ = false := hmem3.out.vals.frozen m
              have s2 : ∀ x, (w2.setCell ⟨w.heap.size + 1, m, none⟩ x).cell? ⟨w.heap.size + 1 + 1, m, none⟩ = some (.bool (D m)) := fun x => (hmem3.out.done.setOther (by simp) _).cell hmt
              have s3 : ∀ x, (w2.setCell ⟨w.heap.size + 1, m, none⟩ x).frozen? ⟨w.heap.size + 1 + 1, m, none⟩ = false := fun x => (hmem3.out.done.setOther (by simp) _).frozen m
              have hcu := cnt_upd HDm.out hmt
              have HCU : Hid ((cnt D n : Int) - 1 = (cnt (upd D m true) n : Nat)) := by show _ = _; omega
              clear hcu
              have hc1 : (1 : Int) ≤ (cnt D n : Int) := by have := HCU.out; omega
              clear hv hv' hb3 q0 q1 q2 q3 q4 p0 p1 p2 p3
              go_wp2
              go_roundw
              case rel => exact ⟨m + 1, upd V m v, upd D m true, by omega, by rw [← HCU.out], by go_num, hdone', fun i hi hl => by
                by_cases e : i = m
                · subst e; exact upd_same _ _ _
                · rw [upd_other _ _ e]; exact hlv.out i hi hl, fun i hi hl => by
                by_cases e : i = m
                · subst e; exact upd_same _ _ _
                · rw [upd_other _ _ e]; exact hlv2.out i (by omega) hl, HMS⟩
              case measure => simp [intOf]; omega
          · rw [hd] at d0
            have HDm : Hid _ := hd
            clear hd
            go_wp2
            go_roundw
            case rel => exact ⟨m + 1, V, D, by omega, rfl, by go_num, hdone, hlv, fun i hi hl => by
              by_cases e : i = m
              · subst e; exact HDm.out
              · exact hlv2.out i (by omega) hl, hmem1.out _⟩
            case measure => simp [intOf]; omega
        · go_wp2
          go_roundw
          case rel => exact ⟨k + 1, V, D, by omega, rfl, by go_num, hdone, fun i hi hl => hlv2.out i (by omega) hl, hmem⟩
          case measure => simp [intOf]; omega
    · obtain rfl : k = n := by omega
      clear hc0 hcl
      go_wp2
      refine bodyPost_ret (v := .slice (some ⟨w.heap.size + 1, 0, none⟩) k k) (by simp [results, go_sem]) rfl ?_
      exact ⟨_, V, rfl, by omega, hmem.out.vals, fun i hi => hdone.out.eq i hi (hlv.out i hi (lv_all HOK.out HNO.out hi)), hdone.out.val, boxed_below hmem.out.bel⟩

end Go.Proofs.YtmofidaojmiepaaGreatDoor

/-
  THE WALKS: the document's Values.
-/
set_option linter.unusedVariables false
set_option linter.unusedSimpArgs false
namespace Go.Proofs.YtmofidaojmiepaaGreatDoor

open Go.RowKit

attribute [local go_sem ↓] Go.wp_at_zero Go.wp_at_succ

theorem addr_nb {b b' o o' : Nat} (h : b ≠ b') : (⟨b, o, none⟩ : Addr) ≠ ⟨b', o', none⟩ := fun e => h (by cases e; rfl)

theorem addr_no {b b' o o' : Nat} (h : o ≠ o') : (⟨b, o, none⟩ : Addr) ≠ ⟨b', o', none⟩ := fun e => h (by cases e; rfl)

theorem cell_nb {w : World} {b b' o o' : Nat} {x v : Value} (h : b ≠ b') (hc : w.cell? ⟨b', o', none⟩ = some v) : (w.setCell ⟨b, o, none⟩ x).cell? ⟨b', o', none⟩ = some v := by rw [World.cell?_setCell_other (h := addr_nb h)]; exact hc

theorem cell_no {w : World} {b o o' : Nat} {x v : Value} (h : o ≠ o') (hc : w.cell? ⟨b, o', none⟩ = some v) : (w.setCell ⟨b, o, none⟩ x).cell? ⟨b, o', none⟩ = some v := by rw [World.cell?_setCell_other (h := addr_no h)]; exact hc

theorem Mem.setDone {w W0 wr : World} {n : Nat} {V : Nat → Int} {D : Nat → Bool} (h : Mem w W0 wr n V D) (m : Nat) : Mem w W0 (wr.setCell ⟨w.heap.size + 1 + 1, m, none⟩ (.bool true)) n V (upd D m true) :=
  ⟨h.bel.setCell (by simp) _, h.vals.setOther (by simp) _, (h.done.set m _).congr (fun i _ => by unfold upd; split <;> rfl)⟩

theorem Mem.setVal {w W0 wr : World} {n : Nat} {V : Nat → Int} {D : Nat → Bool} (h : Mem w W0 wr n V D) (m : Nat) (v : Int) : Mem w W0 (wr.setCell ⟨w.heap.size + 1, m, none⟩ (.int .i64 v)) n (upd V m v) D :=
  ⟨h.bel.setCell (by simp) _, (h.vals.set m _).congr (fun i _ => by unfold upd; split <;> rfl), h.done.setOther (by simp) _⟩

theorem Mem.drew {w W0 wr : World} {n : Nat} {V : Nat → Int} {D : Nat → Bool} (h : Mem w W0 wr n V D) : Mem w W0 wr.drew n V D := ⟨h.bel.drew, h.vals.drew, h.done.drew⟩

theorem pk_nat {V : Nat → Int} {n x : Nat} (h : x < n) : pk V n (x : Int) = V x := by unfold pk; rw [if_pos ⟨by omega, by omega⟩]; rfl

theorem upd_upd {α : Type} (f : Nat → α) (i : Nat) (x y : α) : upd (upd f i x) i y = upd f i y := by
  funext j; unfold upd; split <;> rfl

/-- The cells with what is filled in. -/
def Eff (C Ce : Nat → Cel) (F : Nat → Int) (n : Nat) : Prop := ∀ i, i < n → Ce i = ⟨(C i).kind, (C i).a, (C i).b, (C i).c, if (C i).kind = 0 then F i else (C i).k⟩

end Go.Proofs.YtmofidaojmiepaaGreatDoor
