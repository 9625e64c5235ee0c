/-
  PLAIN MATHEMATICS, no program: days at work, and the k-th of them behind a day.
-/
set_option linter.unusedVariables false
set_option linter.unusedSimpArgs false
namespace Go.Proofs.YtkhpkpaglkinbaaGreatDoor.M

/-- Is the day's bit in the week? -/
def atw (week day : Int) : Bool := decide (week / 2 ^ (day % 7).toNat % 2 = 1)

/-- Is it a working day? -/
def wkd (week : Int) (hol : List Int) (day : Int) : Bool := atw week day && !hol.contains day

/-- How many of the n days behind d are so. -/
def cnt (p : Int → Bool) (d : Int) : Nat → Nat
  | 0 => 0
  | n + 1 => cnt p d n + if p (d + ((n + 1 : Nat) : Int)) then 1 else 0

theorem cnt_add (p : Int → Bool) (d : Int) (n : Nat) : ∀ m, cnt p d (n + m) = cnt p d n + cnt p (d + n) m
  | 0 => rfl
  | m + 1 => by
    have e : d + ((n + m + 1 : Nat) : Int) = d + n + ((m + 1 : Nat) : Int) := by omega
    show cnt p d (n + m) + (if p (d + ((n + m + 1 : Nat) : Int)) then 1 else 0) = _
    rw [cnt_add p d n m, e]
    simp only [cnt]; omega

theorem cnt_mono (p : Int → Bool) (d : Int) {n m : Nat} (h : n ≤ m) : cnt p d n ≤ cnt p d m := by
  obtain ⟨k, rfl⟩ : ∃ k, m = n + k := ⟨m - n, by omega⟩
  rw [cnt_add]; omega

theorem cnt_one (p : Int → Bool) (d : Int) : cnt p d 1 = if p (d + 1) then 1 else 0 := by simp [cnt]

theorem cnt_congr {p q : Int → Bool} {d : Int} : ∀ {n : Nat}, (∀ i : Nat, 1 ≤ i → i ≤ n → p (d + i) = q (d + i)) → cnt p d n = cnt q d n
  | 0, _ => rfl
  | n + 1, h => by
    have h1 : cnt p d n = cnt q d n := cnt_congr fun i a b => h i a (by omega)
    have h2 := h (n + 1) (by omega) (by omega)
    simp only [cnt, h1, h2]

/-- The k-th such day behind d is T; T is d, if k is 0. -/
def IsDue (p : Int → Bool) (d : Int) (k : Nat) (T : Int) : Prop := ∃ n : Nat, T = d + n ∧ cnt p d n = k ∧ (n = 0 ∨ p T = true)

theorem due_zero (p : Int → Bool) (d : Int) : IsDue p d 0 d := ⟨0, by omega, rfl, Or.inl rfl⟩

theorem due_lt {p : Int → Bool} {d : Int} {k : Nat} {a b : Nat} (hab : a < b) (h1 : cnt p d a = k) (h2 : cnt p d b = k) (h3 : p (d + b) = true) : False := by
  obtain ⟨m, rfl⟩ : ∃ m, b = m + 1 := ⟨b - 1, by omega⟩
  have h := cnt_mono p d (show a ≤ m by omega)
  simp only [cnt, h3, if_true] at h2
  omega

theorem due_unique {p : Int → Bool} {d : Int} {k : Nat} {T S : Int} (h : IsDue p d k T) (g : IsDue p d k S) : T = S := by
  obtain ⟨a, rfl, h2, h3⟩ := h
  obtain ⟨b, rfl, g2, g3⟩ := g
  by_cases e : a = b
  · rw [e]
  · rcases h3 with h3 | h3 <;> rcases g3 with g3 | g3
    · omega
    · exact (due_lt (show a < b by omega) h2 g2 g3).elim
    · exact (due_lt (show b < a by omega) g2 h2 h3).elim
    · by_cases l : a < b
      · exact (due_lt l h2 g2 g3).elim
      · exact (due_lt (show b < a by omega) g2 h2 h3).elim

theorem due_step {p : Int → Bool} {d : Int} {k : Nat} {T : Int} (h : IsDue p d (k + 1) T) : d < T ∧ IsDue p (d + 1) (if p (d + 1) then k else k + 1) T := by
  obtain ⟨n, rfl, h2, h3⟩ := h
  obtain ⟨m, rfl⟩ : ∃ m, n = 1 + m := by
    cases n with
    | zero => simp [cnt] at h2
    | succ m => exact ⟨m, by omega⟩
  refine ⟨by omega, m, by omega, ?_, ?_⟩
  · rw [cnt_add, cnt_one] at h2
    have e : d + ((1 : Nat) : Int) = d + 1 := by omega
    rw [e] at h2
    cases hp : p (d + 1) <;> simp only [hp] at h2 ⊢ <;> simp at h2 ⊢ <;> omega
  · rcases h3 with h3 | h3
    · omega
    · exact Or.inr h3

theorem due_end {p : Int → Bool} {d : Int} {T : Int} (h : IsDue p d 0 T) : T = d := due_unique h (due_zero p d)

theorem due_first (p : Int → Bool) (d : Int) (k : Nat) : ∀ m : Nat, k ≤ cnt p d m → ∃ n : Nat, n ≤ m ∧ cnt p d n = k ∧ (n = 0 ∨ p (d + n) = true)
  | 0, h => ⟨0, by omega, by simp only [cnt] at h ⊢; omega, Or.inl rfl⟩
  | m + 1, h => by
    by_cases hk : k ≤ cnt p d m
    · obtain ⟨n, h1, h2⟩ := due_first p d k m hk
      exact ⟨n, by omega, h2⟩
    · have h' := h
      simp only [cnt] at h
      by_cases hp : p (d + ((m + 1 : Nat) : Int)) = true
      · exact ⟨m + 1, by omega, by simp only [hp, if_true] at h; simp only [cnt, hp, if_true]; omega, Or.inr hp⟩
      · simp only [hp] at h; simp at h; omega

/-! Weeks. -/

theorem atw_week (week day : Int) : atw week (day + 7) = atw week day := by
  unfold atw
  rw [show (day + 7) % 7 = day % 7 by omega]

theorem atw_congr (week : Int) {a b : Int} (h : a % 7 = b % 7) : atw week a = atw week b := by unfold atw; rw [h]

theorem cnt_shift (week d : Int) : cnt (atw week) (d + 1) 7 = cnt (atw week) d 7 := by
  have h1 := cnt_add (atw week) d 1 7
  have h2 := cnt_add (atw week) d 7 1
  rw [cnt_one] at h1 h2
  have e1 : d + ((1 : Nat) : Int) = d + 1 := by omega
  have e2 : d + ((7 : Nat) : Int) + 1 = d + 1 + 7 := by omega
  rw [e1] at h1
  rw [e2, atw_week] at h2
  have e3 : (1 + 7 : Nat) = 7 + 1 := rfl
  rw [e3] at h1
  omega

theorem cnt_week (week : Int) (d : Int) : cnt (atw week) d 7 = cnt (atw week) (-1) 7 := by
  have up : ∀ (n : Nat) (x : Int), cnt (atw week) (x + n) 7 = cnt (atw week) x 7 := by
    intro n
    induction n with
    | zero => intro x; simp
    | succ n ih => intro x; rw [show x + ((n + 1 : Nat) : Int) = x + n + 1 by omega, cnt_shift, ih]
  by_cases h : -1 ≤ d
  · have := up (d + 1).toNat (-1)
    rw [show -1 + ((d + 1).toNat : Int) = d by omega] at this; exact this
  · have := up (-1 - d).toNat d
    rw [show d + ((-1 - d).toNat : Int) = -1 by omega] at this; exact this.symm

theorem cnt_weeks (week d : Int) : ∀ w : Nat, cnt (atw week) d (w * 7) = w * cnt (atw week) (-1) 7
  | 0 => by simp [cnt]
  | w + 1 => by rw [show (w + 1) * 7 = w * 7 + 7 by omega, cnt_add, cnt_weeks week d w, cnt_week week (d + _), Nat.add_mul]; omega

theorem pow_seven {P : Nat → Prop} (h0 : P 0) (h1 : P 1) (h2 : P 2) (h3 : P 3) (h4 : P 4) (h5 : P 5) (h6 : P 6) : ∀ i, i < 7 → P i
  | 0, _ => h0 | 1, _ => h1 | 2, _ => h2 | 3, _ => h3 | 4, _ => h4 | 5, _ => h5 | 6, _ => h6
  | n + 7, h => by omega

/-- A week has a day at work. -/
theorem week_some {week : Int} (h1 : 1 ≤ week) (h2 : week ≤ 127) : 1 ≤ cnt (atw week) (-1) 7 := by
  have e : cnt (atw week) (-1) 7 = (if week % 2 = 1 then 1 else 0) + (if week / 2 % 2 = 1 then 1 else 0) + (if week / 4 % 2 = 1 then 1 else 0) + (if week / 8 % 2 = 1 then 1 else 0) + (if week / 16 % 2 = 1 then 1 else 0) + (if week / 32 % 2 = 1 then 1 else 0) + (if week / 64 % 2 = 1 then 1 else 0) := by
    simp [cnt, atw]
  rw [e]
  have s7 : ∀ a b c d e f g : Nat, 1 ≤ a ∨ 1 ≤ b ∨ 1 ≤ c ∨ 1 ≤ d ∨ 1 ≤ e ∨ 1 ≤ f ∨ 1 ≤ g → 1 ≤ a + b + c + d + e + f + g := by omega
  have one : ∀ {p : Prop} [Decidable p], p → 1 ≤ (if p then 1 else 0 : Nat) := fun h => by rw [if_pos h]; exact Nat.le_refl _
  apply s7
  have hb : week % 2 = 1 ∨ week / 2 % 2 = 1 ∨ week / 4 % 2 = 1 ∨ week / 8 % 2 = 1 ∨ week / 16 % 2 = 1 ∨ week / 32 % 2 = 1 ∨ week / 64 % 2 = 1 := by omega
  rcases hb with h | h | h | h | h | h | h
  · exact Or.inl (one h)
  · exact Or.inr (Or.inl (one h))
  · exact Or.inr (Or.inr (Or.inl (one h)))
  · exact Or.inr (Or.inr (Or.inr (Or.inl (one h))))
  · exact Or.inr (Or.inr (Or.inr (Or.inr (Or.inl (one h)))))
  · exact Or.inr (Or.inr (Or.inr (Or.inr (Or.inr (Or.inl (one h))))))
  · exact Or.inr (Or.inr (Or.inr (Or.inr (Or.inr (Or.inr (one h))))))

theorem week_le (week : Int) : cnt (atw week) (-1) 7 ≤ 7 := by
  have : ∀ n, cnt (atw week) (-1) n ≤ n := by
    intro n
    induction n with
    | zero => simp [cnt]
    | succ n ih => simp only [cnt]; split <;> omega
  exact this 7

/-- Behind all holidays each week has a working day. -/
theorem wkd_late {week : Int} {hol : List Int} {x : Int} (hh : ∀ h, h ∈ hol → h ≤ x) : ∀ n : Nat, cnt (wkd week hol) x n = cnt (atw week) x n := by
  intro n
  apply cnt_congr
  intro i hi _
  have : hol.contains (x + i) = false := by
    rw [Bool.eq_false_iff]
    intro hc
    have := hh _ (List.contains_iff_mem.1 hc)
    omega
  simp only [wkd, this]; simp

theorem due_exists {week : Int} {hol : List Int} (h1 : 1 ≤ week) (h2 : week ≤ 127) (hh : ∀ h, h ∈ hol → h ≤ 11574) (d : Int) (k : Nat) :
    ∃ T, IsDue (wkd week hol) d k T ∧ d ≤ T ∧ T ≤ (if d ≤ 11574 then 11574 else d) + 7 * k := by
  have hw := week_some h1 h2
  obtain ⟨a, ha⟩ : ∃ a : Nat, (if d ≤ 11574 then 11574 else d) = d + a := by
    by_cases e : d ≤ 11574
    · exact ⟨(11574 - d).toNat, by rw [if_pos e]; omega⟩
    · exact ⟨0, by rw [if_neg e]; omega⟩
  have hx : ∀ h, h ∈ hol → h ≤ d + a := by
    intro h hm
    have := hh h hm
    rw [← ha]; split <;> omega
  have hc : k ≤ cnt (wkd week hol) d (a + k * 7) := by
    rw [cnt_add, wkd_late hx, cnt_weeks]
    have := Nat.mul_le_mul_left k hw
    omega
  obtain ⟨n, n1, n2, n3⟩ := due_first _ d k _ hc
  exact ⟨d + n, ⟨n, rfl, n2, n3⟩, by omega, by rw [ha]; omega⟩

/-! What the code does: days at work first, then on by one for each holiday on the way. -/

/-- The next day at work. -/
def IsNext (week x y : Int) : Prop := ∃ m : Nat, 1 ≤ m ∧ m ≤ 7 ∧ y = x + m ∧ atw week y = true ∧ ∀ i : Nat, 1 ≤ i → i < m → atw week (x + i) = false

theorem cnt_none {p : Int → Bool} {d : Int} : ∀ {n : Nat}, (∀ i : Nat, 1 ≤ i → i ≤ n → p (d + i) = false) → cnt p d n = 0
  | 0, _ => rfl
  | n + 1, h => by
    have h1 : cnt p d n = 0 := cnt_none fun i a b => h i a (by omega)
    have h2 := h (n + 1) (by omega) (by omega)
    simp only [cnt, h1, h2]; rfl

theorem next_cnt {p : Int → Bool} {week x y : Int} (h : IsNext week x y) (hp : ∀ z, x < z → p z = atw week z) : ∃ m : Nat, y = x + m ∧ 1 ≤ m ∧ m ≤ 7 ∧ cnt p x m = 1 ∧ p y = true := by
  obtain ⟨m, m1, m2, rfl, m3, m4⟩ := h
  have py : p (x + m) = true := by rw [hp _ (by omega)]; exact m3
  refine ⟨m, rfl, m1, m2, ?_, py⟩
  obtain ⟨q, rfl⟩ : ∃ q, m = q + 1 := ⟨m - 1, by omega⟩
  have : cnt p x q = 0 := cnt_none fun i a b => by rw [hp _ (by omega)]; exact m4 i a (by omega)
  simp only [cnt, this, py, if_true]

theorem next_exists {week : Int} (h1 : 1 ≤ week) (h2 : week ≤ 127) (x : Int) : ∃ i : Nat, 1 ≤ i ∧ i ≤ 7 ∧ atw week (x + i) = true := by
  have hw := week_some h1 h2
  rw [← cnt_week week x] at hw
  apply Classical.byContradiction
  intro hn
  have : cnt (atw week) x 7 = 0 := cnt_none fun i a b => by
    cases e : atw week (x + i) with
    | false => rfl
    | true => exact (hn ⟨i, a, b, e⟩).elim
  omega

/-- Days at work so far: behind whole weeks, and then one by one. -/
def Walked (week day : Int) (j : Nat) (last : Int) : Prop := ∃ n : Nat, last = day + n ∧ cnt (atw week) day n = j ∧ (n : Int) ≤ 7 * j + 7

theorem walked_weeks (week day : Int) (w : Nat) (h : 1 ≤ cnt (atw week) (-1) 7) : Walked week day (w * cnt (atw week) (-1) 7) (day + w * 7) := by
  refine ⟨w * 7, by omega, cnt_weeks _ _ _, ?_⟩
  have := Nat.mul_le_mul_left w h
  omega

theorem walked_next {week day : Int} {j : Nat} {x y : Int} (h : Walked week day j x) (g : IsNext week x y) : Walked week day (j + 1) y ∧ IsDue (atw week) day (j + 1) y := by
  obtain ⟨n, rfl, h2, h3⟩ := h
  obtain ⟨m, rfl, m1, m2, m3, m4⟩ := next_cnt (p := atw week) g (fun _ _ => rfl)
  have e : cnt (atw week) day (n + m) = j + 1 := by rw [cnt_add, h2, m3]
  exact ⟨⟨n + m, by omega, e, by omega⟩, n + m, by omega, e, Or.inr m4⟩

theorem cnt_less {p q : Int → Bool} {d h : Int} (hq : ∀ x, q x = (p x && !(x == h))) (ph : p h = true) : ∀ {n : Nat}, d < h → h ≤ d + n → cnt q d n + 1 = cnt p d n
  | 0, h1, h2 => by omega
  | n + 1, h1, h2 => by
    by_cases e : h = d + ((n + 1 : Nat) : Int)
    · have h3 : cnt q d n = cnt p d n := cnt_congr fun i a b => by
        rw [hq]
        have : (d + (i : Int) == h) = false := by rw [beq_eq_false_iff_ne]; omega
        simp [this]
      have h4 : q (d + ((n + 1 : Nat) : Int)) = false := by rw [hq, ← e]; simp
      have h5 : p (d + ((n + 1 : Nat) : Int)) = true := by rw [← e]; exact ph
      simp only [cnt, h3, h4, h5, if_true]; simp
    · have h3 := cnt_less hq ph (n := n) h1 (by omega)
      have h4 : q (d + ((n + 1 : Nat) : Int)) = p (d + ((n + 1 : Nat) : Int)) := by
        rw [hq]
        have : (d + ((n + 1 : Nat) : Int) == h) = false := by rw [beq_eq_false_iff_ne]; omega
        simp only [this]; simp
      simp only [cnt, h4]; omega

theorem wkd_snoc (week : Int) (l : List Int) (h x : Int) : wkd week (l ++ [h]) x = (wkd week l x && !(x == h)) := by
  unfold wkd
  have e : (l ++ [h]).contains x = (l.contains x || (x == h)) := by
    rw [Bool.eq_iff_iff]
    simp
  rw [e]
  cases atw week x <;> cases l.contains x <;> cases x == h <;> rfl

/-- One holiday more that is passed by. -/
theorem due_skip {week day : Int} {k : Nat} {l : List Int} {h last : Int} (g : IsDue (wkd week l) day k last) (hn : ¬ (day < h ∧ h ≤ last ∧ atw week h = true)) : IsDue (wkd week (l ++ [h])) day k last := by
  obtain ⟨n, rfl, g2, g3⟩ := g
  have same : ∀ i : Nat, 1 ≤ i → i ≤ n → wkd week (l ++ [h]) (day + i) = wkd week l (day + i) := by
    intro i a b
    rw [wkd_snoc]
    by_cases e : day + (i : Int) = h
    · have : atw week (day + i) = false := by
        rw [Bool.eq_false_iff]
        intro ha
        exact hn ⟨by omega, by omega, by rw [← e]; exact ha⟩
      simp [wkd, this]
    · have : (day + (i : Int) == h) = false := by rw [beq_eq_false_iff_ne]; exact e
      simp [this]
  refine ⟨n, rfl, by rw [cnt_congr same]; exact g2, ?_⟩
  rcases g3 with g3 | g3
  · exact Or.inl g3
  · by_cases n0 : n = 0
    · exact Or.inl n0
    · exact Or.inr (by rw [same n (by omega) (Nat.le_refl _)]; exact g3)

/-- One holiday more on the way: on to the next day at work. -/
theorem due_on {week day : Int} {k : Nat} {l : List Int} {h last next : Int} (g : IsDue (wkd week l) day k last) (h1 : day < h) (h2 : h ≤ last) (h3 : atw week h = true) (hl : ∀ x, x ∈ l → x < h) (hx : IsNext week last next) :
    IsDue (wkd week (l ++ [h])) day k next := by
  obtain ⟨n, rfl, g2, g3⟩ := g
  have nin : l.contains h = false := by
    rw [Bool.eq_false_iff]; intro hc
    have := hl _ (List.contains_iff_mem.1 hc); omega
  have ph : wkd week l h = true := by simp only [wkd, h3, nin]; rfl
  have c := cnt_less (p := wkd week l) (q := wkd week (l ++ [h])) (d := day) (fun x => wkd_snoc week l h x) ph (n := n) h1 (by omega)
  have late : ∀ z, day + (n : Int) < z → wkd week (l ++ [h]) z = atw week z := by
    intro z hz
    have : (l ++ [h]).contains z = false := by
      rw [Bool.eq_false_iff]; intro hc
      have hm := List.contains_iff_mem.1 hc
      rcases List.mem_append.1 hm with hm | hm
      · have := hl _ hm; omega
      · simp at hm; omega
    simp only [wkd, this]; simp
  obtain ⟨m, rfl, m1, m2, m3, m4⟩ := next_cnt hx late
  exact ⟨n + m, by omega, by rw [cnt_add, m3]; omega, Or.inr m4⟩

theorem wkd_nil (week : Int) : wkd week [] = atw week := by funext x; simp [wkd]

end Go.Proofs.YtkhpkpaglkinbaaGreatDoor.M
