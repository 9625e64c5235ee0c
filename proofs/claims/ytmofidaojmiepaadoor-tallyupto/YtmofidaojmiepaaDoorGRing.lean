/-
  PLAIN MATHEMATICS, no program: ways in a graph of n nodes, what lies in a ring, and that among nodes that lie in no ring there is always one all of whose needs are done.
-/
import Derived.WalkKit
import Derived.Lib.RabinKarpLaws
set_option linter.unusedVariables false
set_option linter.unusedSimpArgs false
namespace Go.Proofs.YtmofidaojmiepaaDoor.M

/-- A way of s steps from i to j. -/
def Way (E : Nat → Nat → Prop) : Nat → Nat → Nat → Prop
  | 0, i, j => i = j
  | s + 1, i, j => ∃ k, Way E s i k ∧ E k j

theorem way_trans {E : Nat → Nat → Prop} {s i k : Nat} (h : Way E s i k) : ∀ {t j : Nat}, Way E t k j → Way E (s + t) i j
  | 0, j, g => by
    have e : k = j := g
    subst e
    exact h
  | t + 1, j, g => by
    obtain ⟨m, g1, g2⟩ := g
    exact ⟨m, way_trans h g1, g2⟩

theorem way_nodes {E : Nat → Nat → Prop} {p : Nat → Nat} {s : Nat} (h : ∀ t, t < s → E (p t) (p (t + 1))) : ∀ d a, a + d ≤ s → Way E d (p a) (p (a + d))
  | 0, _, _ => rfl
  | d + 1, a, hs => ⟨p (a + d), way_nodes h d a (by omega), h (a + d) (by omega)⟩

theorem nodes_of_way {E : Nat → Nat → Prop} {i : Nat} : ∀ {s j : Nat}, Way E s i j → ∃ p : Nat → Nat, p 0 = i ∧ p s = j ∧ ∀ t, t < s → E (p t) (p (t + 1))
  | 0, j, h => ⟨fun _ => i, rfl, h, fun t ht => by omega⟩
  | s + 1, j, h => by
    obtain ⟨k, h1, h2⟩ := h
    obtain ⟨p, p0, ps, pe⟩ := nodes_of_way h1
    refine ⟨fun t => if t ≤ s then p t else j, by simp [p0], if_neg (by omega), fun t ht => ?_⟩
    by_cases e : t = s
    · subst e; simp only [Nat.le_refl, if_true, show ¬ t + 1 ≤ t by omega, if_false, ps]; exact h2
    · have h3 : t < s := by omega
      simp [show t ≤ s by omega, show t + 1 ≤ s by omega, pe t h3]

theorem pigeon : ∀ (n : Nat) (f : Nat → Nat), (∀ i, i ≤ n → f i < n) → ∃ a b, a < b ∧ b ≤ n ∧ f a = f b
  | 0, f, h => by have := h 0 (by omega); omega
  | n + 1, f, h => by
    by_cases hv : ∃ a, a ≤ n ∧ f a = f (n + 1)
    · obtain ⟨a, h1, h2⟩ := hv
      exact ⟨a, n + 1, by omega, by omega, h2⟩
    · have hno : ∀ a, a ≤ n → f a ≠ f (n + 1) := fun a ha e => hv ⟨a, ha, e⟩
      have hlast := h (n + 1) (by omega)
      obtain ⟨a, b, hab, hb, hg⟩ := pigeon n (fun i => if f i = n then f (n + 1) else f i) (fun i hi => by
        have h1 := h i (by omega)
        have h2 := hno i hi
        by_cases e : f i = n
        · simp only [e, if_true]; omega
        · simp only [e, if_false]; omega)
      refine ⟨a, b, hab, by omega, ?_⟩
      have ha := hno a (by omega)
      have hb' := hno b (by omega)
      by_cases ea : f a = n <;> by_cases eb : f b = n <;> simp only [ea, eb, if_true, if_false] at hg <;> omega

/-- The edges stay among n nodes. -/
def Within (E : Nat → Nat → Prop) (n : Nat) : Prop := ∀ i j, E i j → j < n

theorem way_short {E : Nat → Nat → Prop} {n : Nat} (hE : Within E n) {i j : Nat} : ∀ (m s : Nat), s ≤ m → 1 ≤ s → Way E s i j → ∃ t, 1 ≤ t ∧ t ≤ n ∧ Way E t i j
  | 0, s, h1, h2, _ => by omega
  | m + 1, s, h1, h2, h => by
    by_cases hs : s ≤ n
    · exact ⟨s, h2, hs, h⟩
    · obtain ⟨p, p0, ps, pe⟩ := nodes_of_way h
      obtain ⟨a, b, hab, hb, hq⟩ := pigeon n (fun t => p (t + 1)) (fun t ht => hE (p t) _ (pe t (by omega)))
      have w1 : Way E (a + 1) i (p (a + 1)) := by
        have := way_nodes pe (a + 1) 0 (by omega)
        rw [p0] at this; simpa using this
      have w2 : Way E (s - (b + 1)) (p (b + 1)) j := by
        have := way_nodes pe (s - (b + 1)) (b + 1) (by omega)
        rw [show b + 1 + (s - (b + 1)) = s by omega, ps] at this; exact this
      have hq' : p (a + 1) = p (b + 1) := hq
      rw [← hq'] at w2
      exact way_short hE m _ (by omega) (by omega) (way_trans w1 w2)

/-- Lies the node in a ring? -/
def Ring (E : Nat → Nat → Prop) (i : Nat) : Prop := ∃ s, 1 ≤ s ∧ Way E s i i

theorem ring_short {E : Nat → Nat → Prop} {n : Nat} (hE : Within E n) (i : Nat) : Ring E i ↔ ∃ t, 1 ≤ t ∧ t ≤ n ∧ Way E t i i :=
  ⟨fun ⟨s, h1, h2⟩ => way_short hE s s (Nat.le_refl _) h1 h2, fun ⟨t, h1, _, h3⟩ => ⟨t, h1, h3⟩⟩

/-- Where nothing lies in a ring: of nodes that are not done there is one that needs none of them. -/
theorem progress {E : Nat → Nat → Prop} {n : Nat} (hno : ∀ i, i < n → ¬ Ring E i) (U : Nat → Prop) (hU : ∀ i, U i → i < n) {i0 : Nat} (h0 : U i0) : ∃ i, U i ∧ ∀ j, E i j → ¬ U j := by
  apply Classical.byContradiction
  intro hcon
  have step : ∀ i, U i → ∃ j, E i j ∧ U j := by
    intro i hi
    apply Classical.byContradiction
    intro h
    exact hcon ⟨i, hi, fun j hj hu => h ⟨j, hj, hu⟩⟩
  have build : ∀ s : Nat, ∃ p : Nat → Nat, p 0 = i0 ∧ (∀ t, t ≤ s → U (p t)) ∧ ∀ t, t < s → E (p t) (p (t + 1)) := by
    intro s
    induction s with
    | zero => exact ⟨fun _ => i0, rfl, fun _ _ => h0, fun t ht => by omega⟩
    | succ s ih =>
      obtain ⟨p, p0, pu, pe⟩ := ih
      obtain ⟨j, hj, hu⟩ := step (p s) (pu s (Nat.le_refl _))
      refine ⟨fun t => if t ≤ s then p t else j, by simp [p0], fun t ht => ?_, fun t ht => ?_⟩
      · by_cases e : t ≤ s
        · simp only [e, if_true]; exact pu t e
        · simp only [e, if_false]; exact hu
      · by_cases e : t = s
        · subst e; simp only [Nat.le_refl, if_true, show ¬ t + 1 ≤ t by omega, if_false]; exact hj
        · simp [show t ≤ s by omega, show t + 1 ≤ s by omega, pe t (by omega)]
  obtain ⟨p, p0, pu, pe⟩ := build n
  obtain ⟨a, b, hab, hb, hq⟩ := pigeon n p (fun t ht => hU _ (pu t ht))
  have w := way_nodes pe (b - a) a (by omega)
  rw [show a + (b - a) = b by omega, ← hq] at w
  exact hno (p a) (hU _ (pu a (by omega))) ⟨b - a, by omega, w⟩

end Go.Proofs.YtmofidaojmiepaaDoor.M

/-
  PLAIN MATHEMATICS, no program: days at work, and the k-th of them behind a day.
-/
set_option linter.unusedVariables false
set_option linter.unusedSimpArgs false
namespace Go.Proofs.YtmofidaojmiepaaDoor.M

/-- Is the day's bit in the week? -/
def atw (week day : Int) : Bool := decide (week / 2 ^ (day % 7).toNat % 2 = 1)

/-- Is it a working day? -/
def wkd (week : Int) (hol : List Int) (day : Int) : Bool := atw week day && !hol.contains day

/-- How many of the n days behind d are so. -/
def cnt (p : Int → Bool) (d : Int) : Nat → Nat
  | 0 => 0
  | n + 1 => cnt p d n + if p (d + ((n + 1 : Nat) : Int)) then 1 else 0

theorem cnt_add (p : Int → Bool) (d : Int) (n : Nat) : ∀ m, cnt p d (n + m) = cnt p d n + cnt p (d + n) m
  | 0 => rfl
  | m + 1 => by
    have e : d + ((n + m + 1 : Nat) : Int) = d + n + ((m + 1 : Nat) : Int) := by omega
    show cnt p d (n + m) + (if p (d + ((n + m + 1 : Nat) : Int)) then 1 else 0) = _
    rw [cnt_add p d n m, e]
    simp only [cnt]; omega

theorem cnt_mono (p : Int → Bool) (d : Int) {n m : Nat} (h : n ≤ m) : cnt p d n ≤ cnt p d m := by
  obtain ⟨k, rfl⟩ : ∃ k, m = n + k := ⟨m - n, by omega⟩
  rw [cnt_add]; omega

theorem cnt_one (p : Int → Bool) (d : Int) : cnt p d 1 = if p (d + 1) then 1 else 0 := by simp [cnt]

theorem cnt_congr {p q : Int → Bool} {d : Int} : ∀ {n : Nat}, (∀ i : Nat, 1 ≤ i → i ≤ n → p (d + i) = q (d + i)) → cnt p d n = cnt q d n
  | 0, _ => rfl
  | n + 1, h => by
    have h1 : cnt p d n = cnt q d n := cnt_congr fun i a b => h i a (by omega)
    have h2 := h (n + 1) (by omega) (by omega)
    simp only [cnt, h1, h2]

/-- The k-th such day behind d is T; T is d, if k is 0. -/
def IsDue (p : Int → Bool) (d : Int) (k : Nat) (T : Int) : Prop := ∃ n : Nat, T = d + n ∧ cnt p d n = k ∧ (n = 0 ∨ p T = true)

theorem due_zero (p : Int → Bool) (d : Int) : IsDue p d 0 d := ⟨0, by omega, rfl, Or.inl rfl⟩

theorem due_lt {p : Int → Bool} {d : Int} {k : Nat} {a b : Nat} (hab : a < b) (h1 : cnt p d a = k) (h2 : cnt p d b = k) (h3 : p (d + b) = true) : False := by
  obtain ⟨m, rfl⟩ : ∃ m, b = m + 1 := ⟨b - 1, by omega⟩
  have h := cnt_mono p d (show a ≤ m by omega)
  simp only [cnt, h3, if_true] at h2
  omega

theorem due_unique {p : Int → Bool} {d : Int} {k : Nat} {T S : Int} (h : IsDue p d k T) (g : IsDue p d k S) : T = S := by
  obtain ⟨a, rfl, h2, h3⟩ := h
  obtain ⟨b, rfl, g2, g3⟩ := g
  by_cases e : a = b
  · rw [e]
  · rcases h3 with h3 | h3 <;> rcases g3 with g3 | g3
    · omega
    · exact (due_lt (show a < b by omega) h2 g2 g3).elim
    · exact (due_lt (show b < a by omega) g2 h2 h3).elim
    · by_cases l : a < b
      · exact (due_lt l h2 g2 g3).elim
      · exact (due_lt (show b < a by omega) g2 h2 h3).elim

theorem due_step {p : Int → Bool} {d : Int} {k : Nat} {T : Int} (h : IsDue p d (k + 1) T) : d < T ∧ IsDue p (d + 1) (if p (d + 1) then k else k + 1) T := by
  obtain ⟨n, rfl, h2, h3⟩ := h
  obtain ⟨m, rfl⟩ : ∃ m, n = 1 + m := by
    cases n with
    | zero => simp [cnt] at h2
    | succ m => exact ⟨m, by omega⟩
  refine ⟨by omega, m, by omega, ?_, ?_⟩
  · rw [cnt_add, cnt_one] at h2
    have e : d + ((1 : Nat) : Int) = d + 1 := by omega
    rw [e] at h2
    cases hp : p (d + 1) <;> simp only [hp] at h2 ⊢ <;> simp at h2 ⊢ <;> omega
  · rcases h3 with h3 | h3
    · omega
    · exact Or.inr h3

theorem due_end {p : Int → Bool} {d : Int} {T : Int} (h : IsDue p d 0 T) : T = d := due_unique h (due_zero p d)

theorem due_first (p : Int → Bool) (d : Int) (k : Nat) : ∀ m : Nat, k ≤ cnt p d m → ∃ n : Nat, n ≤ m ∧ cnt p d n = k ∧ (n = 0 ∨ p (d + n) = true)
  | 0, h => ⟨0, by omega, by simp only [cnt] at h ⊢; omega, Or.inl rfl⟩
  | m + 1, h => by
    by_cases hk : k ≤ cnt p d m
    · obtain ⟨n, h1, h2⟩ := due_first p d k m hk
      exact ⟨n, by omega, h2⟩
    · have h' := h
      simp only [cnt] at h
      by_cases hp : p (d + ((m + 1 : Nat) : Int)) = true
      · exact ⟨m + 1, by omega, by simp only [hp, if_true] at h; simp only [cnt, hp, if_true]; omega, Or.inr hp⟩
      · simp only [hp] at h; simp at h; omega

/-! Weeks. -/

theorem atw_week (week day : Int) : atw week (day + 7) = atw week day := by
  unfold atw
  rw [show (day + 7) % 7 = day % 7 by omega]

theorem atw_congr (week : Int) {a b : Int} (h : a % 7 = b % 7) : atw week a = atw week b := by unfold atw; rw [h]

theorem cnt_shift (week d : Int) : cnt (atw week) (d + 1) 7 = cnt (atw week) d 7 := by
  have h1 := cnt_add (atw week) d 1 7
  have h2 := cnt_add (atw week) d 7 1
  rw [cnt_one] at h1 h2
  have e1 : d + ((1 : Nat) : Int) = d + 1 := by omega
  have e2 : d + ((7 : Nat) : Int) + 1 = d + 1 + 7 := by omega
  rw [e1] at h1
  rw [e2, atw_week] at h2
  have e3 : (1 + 7 : Nat) = 7 + 1 := rfl
  rw [e3] at h1
  omega

theorem cnt_week (week : Int) (d : Int) : cnt (atw week) d 7 = cnt (atw week) (-1) 7 := by
  have up : ∀ (n : Nat) (x : Int), cnt (atw week) (x + n) 7 = cnt (atw week) x 7 := by
    intro n
    induction n with
    | zero => intro x; simp
    | succ n ih => intro x; rw [show x + ((n + 1 : Nat) : Int) = x + n + 1 by omega, cnt_shift, ih]
  by_cases h : -1 ≤ d
  · have := up (d + 1).toNat (-1)
    rw [show -1 + ((d + 1).toNat : Int) = d by omega] at this; exact this
  · have := up (-1 - d).toNat d
    rw [show d + ((-1 - d).toNat : Int) = -1 by omega] at this; exact this.symm

theorem cnt_weeks (week d : Int) : ∀ w : Nat, cnt (atw week) d (w * 7) = w * cnt (atw week) (-1) 7
  | 0 => by simp [cnt]
  | w + 1 => by rw [show (w + 1) * 7 = w * 7 + 7 by omega, cnt_add, cnt_weeks week d w, cnt_week week (d + _), Nat.add_mul]; omega

theorem pow_seven {P : Nat → Prop} (h0 : P 0) (h1 : P 1) (h2 : P 2) (h3 : P 3) (h4 : P 4) (h5 : P 5) (h6 : P 6) : ∀ i, i < 7 → P i
  | 0, _ => h0 | 1, _ => h1 | 2, _ => h2 | 3, _ => h3 | 4, _ => h4 | 5, _ => h5 | 6, _ => h6
  | n + 7, h => by omega

/-- A week has a day at work. -/
theorem week_some {week : Int} (h1 : 1 ≤ week) (h2 : week ≤ 127) : 1 ≤ cnt (atw week) (-1) 7 := by
  have e : cnt (atw week) (-1) 7 = (if week % 2 = 1 then 1 else 0) + (if week / 2 % 2 = 1 then 1 else 0) + (if week / 4 % 2 = 1 then 1 else 0) + (if week / 8 % 2 = 1 then 1 else 0) + (if week / 16 % 2 = 1 then 1 else 0) + (if week / 32 % 2 = 1 then 1 else 0) + (if week / 64 % 2 = 1 then 1 else 0) := by
    simp [cnt, atw]
  rw [e]
  have s7 : ∀ a b c d e f g : Nat, 1 ≤ a ∨ 1 ≤ b ∨ 1 ≤ c ∨ 1 ≤ d ∨ 1 ≤ e ∨ 1 ≤ f ∨ 1 ≤ g → 1 ≤ a + b + c + d + e + f + g := by omega
  have one : ∀ {p : Prop} [Decidable p], p → 1 ≤ (if p then 1 else 0 : Nat) := fun h => by rw [if_pos h]; exact Nat.le_refl _
  apply s7
  have hb : week % 2 = 1 ∨ week / 2 % 2 = 1 ∨ week / 4 % 2 = 1 ∨ week / 8 % 2 = 1 ∨ week / 16 % 2 = 1 ∨ week / 32 % 2 = 1 ∨ week / 64 % 2 = 1 := by omega
  rcases hb with h | h | h | h | h | h | h
  · exact Or.inl (one h)
  · exact Or.inr (Or.inl (one h))
  · exact Or.inr (Or.inr (Or.inl (one h)))
  · exact Or.inr (Or.inr (Or.inr (Or.inl (one h))))
  · exact Or.inr (Or.inr (Or.inr (Or.inr (Or.inl (one h)))))
  · exact Or.inr (Or.inr (Or.inr (Or.inr (Or.inr (Or.inl (one h))))))
  · exact Or.inr (Or.inr (Or.inr (Or.inr (Or.inr (Or.inr (one h))))))

theorem week_le (week : Int) : cnt (atw week) (-1) 7 ≤ 7 := by
  have : ∀ n, cnt (atw week) (-1) n ≤ n := by
    intro n
    induction n with
    | zero => simp [cnt]
    | succ n ih => simp only [cnt]; split <;> omega
  exact this 7

/-- Behind all holidays each week has a working day. -/
theorem wkd_late {week : Int} {hol : List Int} {x : Int} (hh : ∀ h, h ∈ hol → h ≤ x) : ∀ n : Nat, cnt (wkd week hol) x n = cnt (atw week) x n := by
  intro n
  apply cnt_congr
  intro i hi _
  have : hol.contains (x + i) = false := by
    rw [Bool.eq_false_iff]
    intro hc
    have := hh _ (List.contains_iff_mem.1 hc)
    omega
  simp only [wkd, this]; simp

theorem due_exists {week : Int} {hol : List Int} (h1 : 1 ≤ week) (h2 : week ≤ 127) (hh : ∀ h, h ∈ hol → h ≤ 11574) (d : Int) (k : Nat) :
    ∃ T, IsDue (wkd week hol) d k T ∧ d ≤ T ∧ T ≤ (if d ≤ 11574 then 11574 else d) + 7 * k := by
  have hw := week_some h1 h2
  obtain ⟨a, ha⟩ : ∃ a : Nat, (if d ≤ 11574 then 11574 else d) = d + a := by
    by_cases e : d ≤ 11574
    · exact ⟨(11574 - d).toNat, by rw [if_pos e]; omega⟩
    · exact ⟨0, by rw [if_neg e]; omega⟩
  have hx : ∀ h, h ∈ hol → h ≤ d + a := by
    intro h hm
    have := hh h hm
    rw [← ha]; split <;> omega
  have hc : k ≤ cnt (wkd week hol) d (a + k * 7) := by
    rw [cnt_add, wkd_late hx, cnt_weeks]
    have := Nat.mul_le_mul_left k hw
    omega
  obtain ⟨n, n1, n2, n3⟩ := due_first _ d k _ hc
  exact ⟨d + n, ⟨n, rfl, n2, n3⟩, by omega, by rw [ha]; omega⟩

/-! What the code does: days at work first, then on by one for each holiday on the way. -/

/-- The next day at work. -/
def IsNext (week x y : Int) : Prop := ∃ m : Nat, 1 ≤ m ∧ m ≤ 7 ∧ y = x + m ∧ atw week y = true ∧ ∀ i : Nat, 1 ≤ i → i < m → atw week (x + i) = false

theorem cnt_none {p : Int → Bool} {d : Int} : ∀ {n : Nat}, (∀ i : Nat, 1 ≤ i → i ≤ n → p (d + i) = false) → cnt p d n = 0
  | 0, _ => rfl
  | n + 1, h => by
    have h1 : cnt p d n = 0 := cnt_none fun i a b => h i a (by omega)
    have h2 := h (n + 1) (by omega) (by omega)
    simp only [cnt, h1, h2]; rfl

theorem next_cnt {p : Int → Bool} {week x y : Int} (h : IsNext week x y) (hp : ∀ z, x < z → p z = atw week z) : ∃ m : Nat, y = x + m ∧ 1 ≤ m ∧ m ≤ 7 ∧ cnt p x m = 1 ∧ p y = true := by
  obtain ⟨m, m1, m2, rfl, m3, m4⟩ := h
  have py : p (x + m) = true := by rw [hp _ (by omega)]; exact m3
  refine ⟨m, rfl, m1, m2, ?_, py⟩
  obtain ⟨q, rfl⟩ : ∃ q, m = q + 1 := ⟨m - 1, by omega⟩
  have : cnt p x q = 0 := cnt_none fun i a b => by rw [hp _ (by omega)]; exact m4 i a (by omega)
  simp only [cnt, this, py, if_true]

theorem next_exists {week : Int} (h1 : 1 ≤ week) (h2 : week ≤ 127) (x : Int) : ∃ i : Nat, 1 ≤ i ∧ i ≤ 7 ∧ atw week (x + i) = true := by
  have hw := week_some h1 h2
  rw [← cnt_week week x] at hw
  apply Classical.byContradiction
  intro hn
  have : cnt (atw week) x 7 = 0 := cnt_none fun i a b => by
    cases e : atw week (x + i) with
    | false => rfl
    | true => exact (hn ⟨i, a, b, e⟩).elim
  omega

/-- Days at work so far: behind whole weeks, and then one by one. -/
def Walked (week day : Int) (j : Nat) (last : Int) : Prop := ∃ n : Nat, last = day + n ∧ cnt (atw week) day n = j ∧ (n : Int) ≤ 7 * j + 7

theorem walked_weeks (week day : Int) (w : Nat) (h : 1 ≤ cnt (atw week) (-1) 7) : Walked week day (w * cnt (atw week) (-1) 7) (day + w * 7) := by
  refine ⟨w * 7, by omega, cnt_weeks _ _ _, ?_⟩
  have := Nat.mul_le_mul_left w h
  omega

theorem walked_next {week day : Int} {j : Nat} {x y : Int} (h : Walked week day j x) (g : IsNext week x y) : Walked week day (j + 1) y ∧ IsDue (atw week) day (j + 1) y := by
  obtain ⟨n, rfl, h2, h3⟩ := h
  obtain ⟨m, rfl, m1, m2, m3, m4⟩ := next_cnt (p := atw week) g (fun _ _ => rfl)
  have e : cnt (atw week) day (n + m) = j + 1 := by rw [cnt_add, h2, m3]
  exact ⟨⟨n + m, by omega, e, by omega⟩, n + m, by omega, e, Or.inr m4⟩

theorem cnt_less {p q : Int → Bool} {d h : Int} (hq : ∀ x, q x = (p x && !(x == h))) (ph : p h = true) : ∀ {n : Nat}, d < h → h ≤ d + n → cnt q d n + 1 = cnt p d n
  | 0, h1, h2 => by omega
  | n + 1, h1, h2 => by
    by_cases e : h = d + ((n + 1 : Nat) : Int)
    · have h3 : cnt q d n = cnt p d n := cnt_congr fun i a b => by
        rw [hq]
        have : (d + (i : Int) == h) = false := by rw [beq_eq_false_iff_ne]; omega
        simp [this]
      have h4 : q (d + ((n + 1 : Nat) : Int)) = false := by rw [hq, ← e]; simp
      have h5 : p (d + ((n + 1 : Nat) : Int)) = true := by rw [← e]; exact ph
      simp only [cnt, h3, h4, h5, if_true]; simp
    · have h3 := cnt_less hq ph (n := n) h1 (by omega)
      have h4 : q (d + ((n + 1 : Nat) : Int)) = p (d + ((n + 1 : Nat) : Int)) := by
        rw [hq]
        have : (d + ((n + 1 : Nat) : Int) == h) = false := by rw [beq_eq_false_iff_ne]; omega
        simp only [this]; simp
      simp only [cnt, h4]; omega

theorem wkd_snoc (week : Int) (l : List Int) (h x : Int) : wkd week (l ++ [h]) x = (wkd week l x && !(x == h)) := by
  unfold wkd
  have e : (l ++ [h]).contains x = (l.contains x || (x == h)) := by
    rw [Bool.eq_iff_iff]
    simp
  rw [e]
  cases atw week x <;> cases l.contains x <;> cases x == h <;> rfl

/-- One holiday more that is passed by. -/
theorem due_skip {week day : Int} {k : Nat} {l : List Int} {h last : Int} (g : IsDue (wkd week l) day k last) (hn : ¬ (day < h ∧ h ≤ last ∧ atw week h = true)) : IsDue (wkd week (l ++ [h])) day k last := by
  obtain ⟨n, rfl, g2, g3⟩ := g
  have same : ∀ i : Nat, 1 ≤ i → i ≤ n → wkd week (l ++ [h]) (day + i) = wkd week l (day + i) := by
    intro i a b
    rw [wkd_snoc]
    by_cases e : day + (i : Int) = h
    · have : atw week (day + i) = false := by
        rw [Bool.eq_false_iff]
        intro ha
        exact hn ⟨by omega, by omega, by rw [← e]; exact ha⟩
      simp [wkd, this]
    · have : (day + (i : Int) == h) = false := by rw [beq_eq_false_iff_ne]; exact e
      simp [this]
  refine ⟨n, rfl, by rw [cnt_congr same]; exact g2, ?_⟩
  rcases g3 with g3 | g3
  · exact Or.inl g3
  · by_cases n0 : n = 0
    · exact Or.inl n0
    · exact Or.inr (by rw [same n (by omega) (Nat.le_refl _)]; exact g3)

/-- One holiday more on the way: on to the next day at work. -/
theorem due_on {week day : Int} {k : Nat} {l : List Int} {h last next : Int} (g : IsDue (wkd week l) day k last) (h1 : day < h) (h2 : h ≤ last) (h3 : atw week h = true) (hl : ∀ x, x ∈ l → x < h) (hx : IsNext week last next) :
    IsDue (wkd week (l ++ [h])) day k next := by
  obtain ⟨n, rfl, g2, g3⟩ := g
  have nin : l.contains h = false := by
    rw [Bool.eq_false_iff]; intro hc
    have := hl _ (List.contains_iff_mem.1 hc); omega
  have ph : wkd week l h = true := by simp only [wkd, h3, nin]; rfl
  have c := cnt_less (p := wkd week l) (q := wkd week (l ++ [h])) (d := day) (fun x => wkd_snoc week l h x) ph (n := n) h1 (by omega)
  have late : ∀ z, day + (n : Int) < z → wkd week (l ++ [h]) z = atw week z := by
    intro z hz
    have : (l ++ [h]).contains z = false := by
      rw [Bool.eq_false_iff]; intro hc
      have hm := List.contains_iff_mem.1 hc
      rcases List.mem_append.1 hm with hm | hm
      · have := hl _ hm; omega
      · simp at hm; omega
    simp only [wkd, this]; simp
  obtain ⟨m, rfl, m1, m2, m3, m4⟩ := next_cnt hx late
  exact ⟨n + m, by omega, by rw [cnt_add, m3]; omega, Or.inr m4⟩

theorem wkd_nil (week : Int) : wkd week [] = atw week := by funext x; simp [wkd]

end Go.Proofs.YtmofidaojmiepaaDoor.M

/-
  PLAIN MATHEMATICS: Go's division, bits, what is cut.
-/
set_option linter.unusedVariables false
set_option linter.unusedSimpArgs false
namespace Go.Proofs.YtmofidaojmiepaaDoor.M

open Go.RowKit

theorem div_neg {v n : Int} (hn : 1 ≤ n) (h : v.tmod n < 0) : v.tdiv n - 1 = v / n := by
  have e1 := Int.tdiv_eq_ediv (a := v) (b := n)
  have e2 := Int.tmod_eq_emod (a := v) (b := n)
  have p := Int.emod_nonneg v (show n ≠ 0 by omega)
  have s : n.sign = 1 := Int.sign_eq_one_of_pos (by omega)
  by_cases c : 0 ≤ v ∨ n ∣ v
  · rw [if_pos c] at e2; omega
  · rw [if_neg c, s] at e1; omega

theorem div_pos {v n : Int} (hn : 1 ≤ n) (h : 0 ≤ v.tmod n) : v.tdiv n = v / n := by
  have e1 := Int.tdiv_eq_ediv (a := v) (b := n)
  have e2 := Int.tmod_eq_emod (a := v) (b := n)
  have p := Int.emod_lt_of_pos v (show 0 < n by omega)
  by_cases c : 0 ≤ v ∨ n ∣ v
  · rw [if_pos c] at e1; omega
  · rw [if_neg c] at e2; omega

theorem mod_neg {v n : Int} (hn : 1 ≤ n) (h : v.tmod n < 0) : v.tmod n + n = v % n := by
  have e2 := Int.tmod_eq_emod (a := v) (b := n)
  have p := Int.emod_nonneg v (show n ≠ 0 by omega)
  by_cases c : 0 ≤ v ∨ n ∣ v
  · rw [if_pos c] at e2; omega
  · rw [if_neg c] at e2; omega

theorem mod_pos {v n : Int} (hn : 1 ≤ n) (h : 0 ≤ v.tmod n) : v.tmod n = v % n := by
  have e2 := Int.tmod_eq_emod (a := v) (b := n)
  have p := Int.emod_lt_of_pos v (show 0 < n by omega)
  by_cases c : 0 ≤ v ∨ n ∣ v
  · rw [if_pos c] at e2; omega
  · rw [if_neg c] at e2; omega

theorem div_bound {v n : Int} (hn : 1 ≤ n) {B : Int} (h1 : -B ≤ v) (h2 : v ≤ B) (hB : 0 ≤ B) : -B - 1 ≤ v / n ∧ v / n ≤ B := by
  have e := Int.mul_ediv_add_emod v n
  have p := Int.emod_nonneg v (show n ≠ 0 by omega)
  have q := Int.emod_lt_of_pos v (show 0 < n by omega)
  constructor
  · by_cases c : v / n ≥ 0
    · omega
    · have : n * (v / n) ≤ 1 * (v / n) := Int.mul_le_mul_of_nonpos_right hn (by omega)
      have e3 : v / n * n = n * (v / n) := Int.mul_comm _ _
      apply Classical.byContradiction; intro hc
      have : n * (v / n) ≤ n * (-B - 2) := Int.mul_le_mul_of_nonneg_left (by omega) (by omega)
      have e4 : n * (-B - 2) = -(n * B) - n * 2 := by rw [Int.mul_sub, Int.mul_neg]
      have : 1 * B ≤ n * B := Int.mul_le_mul_of_nonneg_right hn hB
      omega
  · by_cases c : v / n ≤ 0
    · omega
    · have : 1 * (v / n) ≤ n * (v / n) := Int.mul_le_mul_of_nonneg_right hn (by omega)
      omega

theorem week_bit {week : Int} (h1 : 0 ≤ week) (h2 : week ≤ 127) {p : Int} (hp : 0 ≤ p) (hp' : p < 7) (n : Nat) (hn : n = p.toNat) : bits BinOp.and IntKind.i64 (week / 2 ^ n) 1 = week / 2 ^ p.toNat % 2 := by
  subst hn
  obtain ⟨q, hq⟩ : ∃ q : Nat, week / 2 ^ p.toNat = (q : Int) := by
    refine ⟨(week / 2 ^ p.toNat).toNat, ?_⟩
    have : 0 ≤ week / 2 ^ p.toNat := Int.ediv_nonneg h1 (by exact Int.le_of_lt (Int.pow_pos (by omega)))
    omega
  have hle : (q : Int) ≤ 127 := by
    rw [← hq]
    have : week / 2 ^ p.toNat ≤ week := Int.ediv_le_self _ h1
    omega
  rw [hq, Go.Proofs.and_one q (by omega)]
  omega

end Go.Proofs.YtmofidaojmiepaaDoor.M
