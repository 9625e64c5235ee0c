/-
  PLAIN MATHEMATICS, no program: ways in a graph of n nodes, what lies in a ring, and that among nodes that lie in no ring there is always one all of whose needs are done.
-/
set_option linter.unusedVariables false
set_option linter.unusedSimpArgs false
namespace Go.Proofs.YtkhpkpaglkinbaaGreatDoor.M

/-- A way of s steps from i to j. -/
def Way (E : Nat → Nat → Prop) : Nat → Nat → Nat → Prop
  | 0, i, j => i = j
  | s + 1, i, j => ∃ k, Way E s i k ∧ E k j

theorem way_trans {E : Nat → Nat → Prop} {s i k : Nat} (h : Way E s i k) : ∀ {t j : Nat}, Way E t k j → Way E (s + t) i j
  | 0, j, g => by
    have e : k = j := g
    subst e
    exact h
  | t + 1, j, g => by
    obtain ⟨m, g1, g2⟩ := g
    exact ⟨m, way_trans h g1, g2⟩

theorem way_nodes {E : Nat → Nat → Prop} {p : Nat → Nat} {s : Nat} (h : ∀ t, t < s → E (p t) (p (t + 1))) : ∀ d a, a + d ≤ s → Way E d (p a) (p (a + d))
  | 0, _, _ => rfl
  | d + 1, a, hs => ⟨p (a + d), way_nodes h d a (by omega), h (a + d) (by omega)⟩

theorem nodes_of_way {E : Nat → Nat → Prop} {i : Nat} : ∀ {s j : Nat}, Way E s i j → ∃ p : Nat → Nat, p 0 = i ∧ p s = j ∧ ∀ t, t < s → E (p t) (p (t + 1))
  | 0, j, h => ⟨fun _ => i, rfl, h, fun t ht => by omega⟩
  | s + 1, j, h => by
    obtain ⟨k, h1, h2⟩ := h
    obtain ⟨p, p0, ps, pe⟩ := nodes_of_way h1
    refine ⟨fun t => if t ≤ s then p t else j, by simp [p0], if_neg (by omega), fun t ht => ?_⟩
    by_cases e : t = s
    · subst e; simp only [Nat.le_refl, if_true, show ¬ t + 1 ≤ t by omega, if_false, ps]; exact h2
    · have h3 : t < s := by omega
      simp [show t ≤ s by omega, show t + 1 ≤ s by omega, pe t h3]

theorem pigeon : ∀ (n : Nat) (f : Nat → Nat), (∀ i, i ≤ n → f i < n) → ∃ a b, a < b ∧ b ≤ n ∧ f a = f b
  | 0, f, h => by have := h 0 (by omega); omega
  | n + 1, f, h => by
    by_cases hv : ∃ a, a ≤ n ∧ f a = f (n + 1)
    · obtain ⟨a, h1, h2⟩ := hv
      exact ⟨a, n + 1, by omega, by omega, h2⟩
    · have hno : ∀ a, a ≤ n → f a ≠ f (n + 1) := fun a ha e => hv ⟨a, ha, e⟩
      have hlast := h (n + 1) (by omega)
      obtain ⟨a, b, hab, hb, hg⟩ := pigeon n (fun i => if f i = n then f (n + 1) else f i) (fun i hi => by
        have h1 := h i (by omega)
        have h2 := hno i hi
        by_cases e : f i = n
        · simp only [e, if_true]; omega
        · simp only [e, if_false]; omega)
      refine ⟨a, b, hab, by omega, ?_⟩
      have ha := hno a (by omega)
      have hb' := hno b (by omega)
      by_cases ea : f a = n <;> by_cases eb : f b = n <;> simp only [ea, eb, if_true, if_false] at hg <;> omega

/-- The edges stay among n nodes. -/
def Within (E : Nat → Nat → Prop) (n : Nat) : Prop := ∀ i j, E i j → j < n

theorem way_short {E : Nat → Nat → Prop} {n : Nat} (hE : Within E n) {i : Nat} : ∀ (m s : Nat), s ≤ m → 1 ≤ s → Way E s i i → ∃ t, 1 ≤ t ∧ t ≤ n ∧ Way E t i i
  | 0, s, h1, h2, _ => by omega
  | m + 1, s, h1, h2, h => by
    by_cases hs : s ≤ n
    · exact ⟨s, h2, hs, h⟩
    · obtain ⟨p, p0, ps, pe⟩ := nodes_of_way h
      obtain ⟨a, b, hab, hb, hq⟩ := pigeon n (fun t => p (t + 1)) (fun t ht => hE (p t) _ (pe t (by omega)))
      have w1 : Way E (a + 1) i (p (a + 1)) := by
        have := way_nodes pe (a + 1) 0 (by omega)
        rw [p0] at this; simpa using this
      have w2 : Way E (s - (b + 1)) (p (b + 1)) i := by
        have := way_nodes pe (s - (b + 1)) (b + 1) (by omega)
        rw [show b + 1 + (s - (b + 1)) = s by omega, ps] at this; exact this
      have hq' : p (a + 1) = p (b + 1) := hq
      rw [← hq'] at w2
      exact way_short hE m _ (by omega) (by omega) (way_trans w1 w2)

/-- Lies the node in a ring? -/
def Ring (E : Nat → Nat → Prop) (i : Nat) : Prop := ∃ s, 1 ≤ s ∧ Way E s i i

theorem ring_short {E : Nat → Nat → Prop} {n : Nat} (hE : Within E n) (i : Nat) : Ring E i ↔ ∃ t, 1 ≤ t ∧ t ≤ n ∧ Way E t i i :=
  ⟨fun ⟨s, h1, h2⟩ => way_short hE s s (Nat.le_refl _) h1 h2, fun ⟨t, h1, _, h3⟩ => ⟨t, h1, h3⟩⟩

/-- Where nothing lies in a ring: of nodes that are not done there is one that needs none of them. -/
theorem progress {E : Nat → Nat → Prop} {n : Nat} (hno : ∀ i, i < n → ¬ Ring E i) (U : Nat → Prop) (hU : ∀ i, U i → i < n) {i0 : Nat} (h0 : U i0) : ∃ i, U i ∧ ∀ j, E i j → ¬ U j := by
  apply Classical.byContradiction
  intro hcon
  have step : ∀ i, U i → ∃ j, E i j ∧ U j := by
    intro i hi
    apply Classical.byContradiction
    intro h
    exact hcon ⟨i, hi, fun j hj hu => h ⟨j, hj, hu⟩⟩
  have build : ∀ s : Nat, ∃ p : Nat → Nat, p 0 = i0 ∧ (∀ t, t ≤ s → U (p t)) ∧ ∀ t, t < s → E (p t) (p (t + 1)) := by
    intro s
    induction s with
    | zero => exact ⟨fun _ => i0, rfl, fun _ _ => h0, fun t ht => by omega⟩
    | succ s ih =>
      obtain ⟨p, p0, pu, pe⟩ := ih
      obtain ⟨j, hj, hu⟩ := step (p s) (pu s (Nat.le_refl _))
      refine ⟨fun t => if t ≤ s then p t else j, by simp [p0], fun t ht => ?_, fun t ht => ?_⟩
      · by_cases e : t ≤ s
        · simp only [e, if_true]; exact pu t e
        · simp only [e, if_false]; exact hu
      · by_cases e : t = s
        · subst e; simp only [Nat.le_refl, if_true, show ¬ t + 1 ≤ t by omega, if_false]; exact hj
        · simp [show t ≤ s by omega, show t + 1 ≤ s by omega, pe t (by omega)]
  obtain ⟨p, p0, pu, pe⟩ := build n
  obtain ⟨a, b, hab, hb, hq⟩ := pigeon n p (fun t ht => hU _ (pu t ht))
  have w := way_nodes pe (b - a) a (by omega)
  rw [show a + (b - a) = b by omega, ← hq] at w
  exact hno (p a) (hU _ (pu a (by omega))) ⟨b - a, by omega, w⟩

end Go.Proofs.YtkhpkpaglkinbaaGreatDoor.M
