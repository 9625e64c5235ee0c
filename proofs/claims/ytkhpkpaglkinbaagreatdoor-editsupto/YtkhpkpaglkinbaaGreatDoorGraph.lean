/-
  PLAIN MATHEMATICS: what cells need, levels, values that are what the rows say.
-/
import Derived.Test.YtkhpkpaglkinbaaGreatDoorW8
import Derived.Test.YtkhpkpaglkinbaaGreatDoorRing
set_option linter.unusedVariables false
set_option linter.unusedSimpArgs false
namespace Go.Proofs.YtkhpkpaglkinbaaGreatDoor
open Go.RowKit

/-- Cell i needs cell j. -/
def Ed (C : Nat → Cel) (n : Nat) (i j : Nat) : Prop :=
  i < n ∧ ((0 < M.needs (C i).kind ∧ (C i).a = j) ∨ (1 < M.needs (C i).kind ∧ (C i).b = j) ∨ (2 < M.needs (C i).kind ∧ (C i).c = j))

/-- A cell that may stand in a form of n cells. -/
def CellOk (c : Cel) (n : Nat) : Prop :=
  0 ≤ c.kind ∧ c.kind ≤ 12 ∧ KOk c ∧ (0 < M.needs c.kind → 0 ≤ c.a ∧ c.a < n) ∧ (1 < M.needs c.kind → 0 ≤ c.b ∧ c.b < n) ∧ (2 < M.needs c.kind → 0 ≤ c.c ∧ c.c < n)

def CellsOk (C : Nat → Cel) (n : Nat) : Prop := ∀ i, i < n → CellOk (C i) n

def NoRing (C : Nat → Cel) (n : Nat) : Prop := ∀ i, i < n → ¬ M.Ring (Ed C n) i

theorem ed_within {C : Nat → Cel} {n : Nat} (h : CellsOk C n) : M.Within (Ed C n) n := by
  intro i j ⟨hi, hj⟩
  obtain ⟨_, _, _, ha, hb, hc⟩ := h i hi
  rcases hj with ⟨p, e⟩ | ⟨p, e⟩ | ⟨p, e⟩
  · have := ha p; omega
  · have := hb p; omega
  · have := hc p; omega

/-- The cells that r rounds have worked out for sure. -/
def Lv (C : Nat → Cel) (n : Nat) : Nat → Nat → Prop
  | 0, _ => False
  | r + 1, i => ∀ j, Ed C n i j → Lv C n r j

theorem lv_all {C : Nat → Cel} {n : Nat} (hok : CellsOk C n) (hno : NoRing C n) {i : Nat} (hi : i < n) : Lv C n n i := by
  apply Classical.byContradiction
  intro h
  have step : ∀ r i, i < n → ¬ Lv C n (r + 1) i → ∃ j, Ed C n i j ∧ ¬ Lv C n r j := by
    intro r i _ h
    apply Classical.byContradiction
    intro g
    apply h
    intro j hj
    apply Classical.byContradiction
    intro hl
    exact g ⟨j, hj, hl⟩
  have build : ∀ s, s ≤ n → ∃ p : Nat → Nat, p 0 = i ∧ (∀ t, t ≤ s → p t < n) ∧ (∀ t, t < s → Ed C n (p t) (p (t + 1))) ∧ ¬ Lv C n (n - s) (p s) := by
    intro s
    induction s with
    | zero => exact fun _ => ⟨fun _ => i, rfl, fun _ _ => hi, fun t ht => by omega, h⟩
    | succ s ih =>
      intro hs
      obtain ⟨p, p0, pn, pe, pl⟩ := ih (by omega)
      rw [show n - s = (n - (s + 1)) + 1 by omega] at pl
      obtain ⟨j, j1, j2⟩ := step _ _ (pn s (Nat.le_refl _)) pl
      refine ⟨fun t => if t ≤ s then p t else j, by simp [p0], fun t ht => ?_, fun t ht => ?_, by simp only [show ¬ s + 1 ≤ s by omega, if_false]; exact j2⟩
      · by_cases e : t ≤ s
        · simp only [e, if_true]; exact pn t e
        · simp only [e, if_false]; exact ed_within hok _ _ j1
      · by_cases e : t = s
        · subst e; simp only [Nat.le_refl, if_true, show ¬ t + 1 ≤ t by omega, if_false]; exact j1
        · simp only [show t ≤ s by omega, show t + 1 ≤ s by omega, if_true]; exact pe t (by omega)
  obtain ⟨p, p0, pn, pe, _⟩ := build n (Nat.le_refl _)
  obtain ⟨a, b, hab, hb, hq⟩ := M.pigeon n p (fun t ht => pn t ht)
  have w := M.way_nodes pe (b - a) a (by omega)
  rw [show a + (b - a) = b by omega, ← hq] at w
  exact hno (p a) (pn a (by omega)) ⟨b - a, by omega, w⟩

/-- Each value is what its row says. -/
def LocalAt (C : Nat → Cel) (n : Nat) (week : Int) (hol : List Int) (now : Int) (V : Nat → Int) (i : Nat) : Prop :=
  CRel week hol now (C i) (pk V n (C i).a) (pk V n (C i).b) (pk V n (C i).c) (V i)
def LocalEq (C : Nat → Cel) (n : Nat) (week : Int) (hol : List Int) (now : Int) (V : Nat → Int) : Prop := ∀ i, i < n → LocalAt C n week hol now V i

theorem pk_eq {V V' : Nat → Int} {n : Nat} {a : Int} (h : ∀ j : Nat, a = j → j < n → V j = V' j) : pk V n a = pk V' n a := by
  unfold pk
  split
  · exact h _ (by omega) (by omega)
  · rfl

theorem local_unique {C : Nat → Cel} {n : Nat} {week : Int} {hol : List Int} {now : Int} {V V' : Nat → Int} (hok : CellsOk C n) (hno : NoRing C n) (h : LocalEq C n week hol now V) (g : LocalEq C n week hol now V') : ∀ i, i < n → V i = V' i := by
  intro i0 h0
  apply Classical.byContradiction
  intro hne
  obtain ⟨i, ⟨hi, hd⟩, hs⟩ := M.progress hno (fun i => i < n ∧ V i ≠ V' i) (fun i hi => hi.1) ⟨h0, hne⟩
  apply hd
  have same : ∀ j, Ed C n i j → j < n → V j = V' j := fun j hj hn => Classical.byContradiction fun e => hs j hj ⟨hn, e⟩
  obtain ⟨k0, k1, _⟩ := hok i hi
  exact CRel.unique (h i hi) (g i hi) k0 k1 (fun p => pk_eq fun j e hj => same j ⟨hi, Or.inl ⟨p, e⟩⟩ hj) (fun p => pk_eq fun j e hj => same j ⟨hi, Or.inr (Or.inl ⟨p, e⟩)⟩ hj) (fun p => pk_eq fun j e hj => same j ⟨hi, Or.inr (Or.inr ⟨p, e⟩)⟩ hj)

/-- A state of the work: what is done is what its row says, and so is what it needs. -/
structure Done (C : Nat → Cel) (n : Nat) (week : Int) (hol : List Int) (now : Int) (V : Nat → Int) (D : Nat → Bool) : Prop where
  val : ∀ i, i < n → IsV (V i)
  eq : ∀ i, i < n → D i = true → LocalAt C n week hol now V i
  need : ∀ i j, i < n → D i = true → Ed C n i j → D j = true

theorem done_start (C : Nat → Cel) (n : Nat) (week : Int) (hol : List Int) (now : Int) : Done C n week hol now (fun _ => 0) (fun _ => false) :=
  ⟨fun _ _ => ⟨by omega, by omega⟩, fun _ _ h => (by cases h), fun _ _ _ h => (by cases h)⟩

def upd {α : Type} (f : Nat → α) (i : Nat) (v : α) : Nat → α := fun j => if j = i then v else f j

theorem upd_same {α : Type} (f : Nat → α) (i : Nat) (v : α) : upd f i v i = v := if_pos rfl
theorem upd_other {α : Type} (f : Nat → α) {i j : Nat} (v : α) (h : j ≠ i) : upd f i v j = f j := if_neg h

/-- One cell more is worked out. -/
theorem Done.step {C : Nat → Cel} {n : Nat} {week : Int} {hol : List Int} {now : Int} {V : Nat → Int} {D : Nat → Bool} (h : Done C n week hol now V D) (hok : CellsOk C n) {i : Nat} (hi : i < n) (hD : D i = false) (hn : ∀ j, Ed C n i j → D j = true) {v : Int}
    (hv : CRel week hol now (C i) (pk V n (C i).a) (pk V n (C i).b) (pk V n (C i).c) v) (n0 : 0 ≤ now) (n1 : now ≤ 1000000000) : Done C n week hol now (upd V i v) (upd D i true) := by
  obtain ⟨k0, k1, kk, _⟩ := hok i hi
  have hiv : IsV v := CRel.isV hv k0 k1 kk n0 n1 (pk_v h.val _) (pk_v h.val _) (pk_v h.val _)
  have old : ∀ k, k < n → (k = i ∨ D k = true) → ∀ j, Ed C n k j → j ≠ i := by
    intro k hk hd j hj e
    subst e
    rcases hd with hd | hd
    · subst hd; have := hn _ hj; rw [hD] at this; cases this
    · have := h.need k j hk hd hj; rw [hD] at this; cases this
  refine ⟨fun k hk => ?_, fun k hk hd => ?_, fun k j hk hd hj => ?_⟩
  · by_cases e : k = i
    · subst e; rw [upd_same]; exact hiv
    · rw [upd_other _ _ e]; exact h.val k hk
  · have hd' : k = i ∨ D k = true := by
      by_cases e : k = i
      · exact Or.inl e
      · rw [upd_other _ _ e] at hd; exact Or.inr hd
    have o := old k hk hd'
    have pq : ∀ {a : Int}, (∀ j : Nat, a = j → Ed C n k j) → pk V n a = pk (upd V i v) n a := fun hh => pk_eq fun j e _ => (upd_other V v (o j (hh j e))).symm
    unfold LocalAt
    have base : CRel week hol now (C k) (pk V n (C k).a) (pk V n (C k).b) (pk V n (C k).c) (upd V i v k) := by
      by_cases e : k = i
      · subst e; rw [upd_same]; exact hv
      · rw [upd_other _ _ e]
        rcases hd' with hd' | hd'
        · exact (e hd').elim
        · exact h.eq k hk hd'
    exact CRel.congr base (fun p => pq fun j e => ⟨hk, Or.inl ⟨p, e⟩⟩) (fun p => pq fun j e => ⟨hk, Or.inr (Or.inl ⟨p, e⟩)⟩) (fun p => pq fun j e => ⟨hk, Or.inr (Or.inr ⟨p, e⟩)⟩)
  · by_cases e : j = i
    · subst e; exact upd_same _ _ _
    · rw [upd_other _ _ e]
      by_cases e2 : k = i
      · subst e2; exact hn j hj
      · rw [upd_other _ _ e2] at hd; exact h.need k j hk hd hj

end Go.Proofs.YtkhpkpaglkinbaaGreatDoor
