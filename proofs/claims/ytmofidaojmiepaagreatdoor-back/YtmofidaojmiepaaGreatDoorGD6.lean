/-
  PLAIN MATHEMATICS: the first instant at which something could come about.
-/
import Derived.Test.YtmofidaojmiepaaGreatDoorGD2
set_option linter.unusedVariables false
set_option linter.unusedSimpArgs false
namespace Go.Proofs.YtmofidaojmiepaaGreatDoor

open Go.RowKit

/-- An instant ahead, or none. -/
def Low (T t : Int) : Prop := t = -1 ∨ (T < t ∧ t ≤ 1000000000)

/-- It is ahead of that. -/
def Bef (t u : Int) : Prop := t = -1 ∨ u < t

def soon (t x T : Int) : Int := if T < x ∧ x ≤ 1000000000 ∧ (t < 0 ∨ x < t) then x else t

theorem soon_low {T t : Int} (x : Int) (h : Low T t) : Low T (soon t x T) := by
  unfold soon
  split
  · exact Or.inr ⟨by omega, by omega⟩
  · exact h

theorem soon_bef {T t x u : Int} (h : Low T t) (hb : Bef (soon t x T) u) (T0 : 0 ≤ T) : Bef t u := by
  unfold soon at hb
  split at hb
  · rename_i hc
    rcases hb with hb | hb
    · omega
    · rcases hc.2.2 with e | e
      · rcases h with h | h
        · exact Or.inl h
        · omega
      · exact Or.inr (by omega)
  · exact hb

theorem soon_not {T t x u : Int} (h : Low T t) (hb : Bef (soon t x T) u) (T0 : 0 ≤ T) (hu : u ≤ 1000000000) : ¬ (T < x ∧ x ≤ u) := by
  intro hx
  unfold soon at hb
  split at hb
  · rcases hb with hb | hb
    · omega
    · omega
  · rename_i hc
    rcases hb with hb | hb
    · exact hc ⟨hx.1, by omega, Or.inl (by omega)⟩
    · exact hc ⟨hx.1, by omega, Or.inr (by omega)⟩

/-- Cell i doesn't turn from T to u, if the values stay. -/
def StillAt (C : Nat → Cel) (n : Nat) (V : Nat → Int) (T : Int) (i : Nat) (u : Int) : Prop :=
  ((C i).kind = 10 → (pk V n (C i).a ≤ u ↔ pk V n (C i).a ≤ T)) ∧ ((C i).kind = 11 → ageAt (pk V n (C i).a) (C i).k u = ageAt (pk V n (C i).a) (C i).k T)

theorem age_next {x k T : Int} (hk : 1 ≤ k) : T < x + (ageAt x k T + 1) * k := by
  unfold ageAt
  split
  · rw [Int.zero_add, Int.one_mul]; omega
  · have := Int.lt_ediv_add_one_mul_self (T - x) (show 0 < k by omega)
    omega

theorem age_still {x k T u : Int} (hk : 1 ≤ k) (hu : T < u) (h : u < x + (ageAt x k T + 1) * k) : ageAt x k u = ageAt x k T := by
  unfold ageAt at h ⊢
  by_cases h1 : T < x
  · rw [if_pos h1] at h ⊢
    rw [Int.zero_add, Int.one_mul] at h
    split
    · rfl
    · exact Int.ediv_eq_zero_of_lt (by omega) (by omega)
  · rw [if_neg h1] at h ⊢
    rw [if_neg (by omega)]
    have a1 : (T - x) / k ≤ (u - x) / k := Int.ediv_le_ediv (by omega) (by omega)
    have a2 : (u - x) / k < (T - x) / k + 1 := Int.ediv_lt_of_lt_mul (by omega) (by omega)
    omega

/-- An instant ahead of which the first i cells don't turn. -/
def CQ (f : Frm) (F : Nat → Int) (T : Int) (i : Nat) (t : Int) : Prop :=
  Low T t ∧ ∀ j, j < i → ∀ u, T < u → u ≤ 1000000000 → Bef t u → StillAt (effC f.C F) f.n (f.vals F T) T j u

theorem CQ.start (f : Frm) (F : Nat → Int) (T : Int) : CQ f F T 0 (-1) := ⟨Or.inl rfl, fun j hj => by omega⟩

theorem CQ.step {f : Frm} {F : Nat → Int} {T : Int} {i : Nat} {t x : Int} (h : CQ f F T i t) (T0 : 0 ≤ T) (hx : ∀ u, T < u → u ≤ 1000000000 → ¬ (T < x ∧ x ≤ u) → StillAt (effC f.C F) f.n (f.vals F T) T i u) : CQ f F T (i + 1) (soon t x T) := by
  refine ⟨soon_low x h.1, fun j hj u u1 u2 hb => ?_⟩
  by_cases e : j = i
  · subst e
    exact hx u u1 u2 (soon_not h.1 hb T0 u2)
  · exact h.2 j (by omega) u u1 u2 (soon_bef h.1 hb T0)

theorem CQ.other {f : Frm} {F : Nat → Int} {T : Int} {i : Nat} {t : Int} (h : CQ f F T i t) (k1 : (f.C i).kind ≠ 10) (k2 : (f.C i).kind ≠ 11) : CQ f F T (i + 1) t := by
  refine ⟨h.1, fun j hj u u1 u2 hb => ?_⟩
  by_cases e : j = i
  · subst e
    exact ⟨fun e => (k1 e).elim, fun e => (k2 e).elim⟩
  · exact h.2 j (by omega) u u1 u2 hb

theorem pk_in {V : Nat → Int} {n a : Nat} (h : a < n) : pk V n a = V a := by unfold pk; rw [if_pos (by omega)]; rfl

theorem CQ.past {f : Frm} {F : Nat → Int} {T : Int} {i a : Nat} {t : Int} (h : CQ f F T i t) (T0 : 0 ≤ T) (k1 : (f.C i).kind = 10) (ha : (f.C i).a = a) (hn : a < f.n) : CQ f F T (i + 1) (soon t (f.vals F T a) T) := by
  refine h.step T0 (fun u u1 _ hx => ⟨fun _ => ?_, fun e => ?_⟩)
  · show pk (f.vals F T) f.n (f.C i).a ≤ u ↔ _
    rw [show (effC f.C F i).a = (f.C i).a from rfl, ha, pk_in hn]
    omega
  · have e' : (f.C i).kind = 11 := e
    omega

theorem CQ.age {f : Frm} {F : Nat → Int} {T : Int} {i a : Nat} {t : Int} (h : CQ f F T i t) (T0 : 0 ≤ T) (hl : LocalEq (effC f.C F) f.n f.week f.hol T (f.vals F T)) (hi : i < f.n) (k1 : (f.C i).kind = 11) (ha : (f.C i).a = a) (hn : a < f.n) (hk : 1 ≤ (f.C i).k) :
    CQ f F T (i + 1) (soon t (f.vals F T a + (f.vals F T i + 1) * (f.C i).k) T) := by
  have hk' : (effC f.C F i).k = (f.C i).k := by
    show (if (f.C i).kind = 0 then F i else (f.C i).k) = _
    rw [if_neg (by omega)]
  have ha' : pk (f.vals F T) f.n (effC f.C F i).a = f.vals F T a := by rw [show (effC f.C F i).a = (f.C i).a from rfl, ha, pk_in hn]
  have hv : f.vals F T i = ageAt (f.vals F T a) (f.C i).k T := by
    have := (hl i hi).2.2.2.2.1 k1
    rw [ha', hk'] at this
    exact this
  refine h.step T0 (fun u u1 _ hx => ⟨fun e => ?_, fun e => ?_⟩)
  · have e' : (f.C i).kind = 10 := e
    omega
  · rw [ha', hk']
    rw [hv] at hx
    have := age_next (x := f.vals F T a) (T := T) hk
    exact age_still hk u1 (by omega)

/-- How much the next whole unit may be. -/
theorem age_room {f : Frm} {F : Nat → Int} {T : Int} {i a : Nat} (t0 : 0 ≤ T) (t1 : T ≤ 1000000000) (hl : LocalEq (effC f.C F) f.n f.week f.hol T (f.vals F T)) (hv : ∀ i, i < f.n → IsV (f.vals F T i)) (hi : i < f.n) (k1 : (f.C i).kind = 11) (ha : (f.C i).a = a) (hn : a < f.n) (hk : 1000000 ≤ (f.C i).k) (hk2 : (f.C i).k ≤ 1000000000) :
    0 ≤ f.vals F T i ∧ f.vals F T i ≤ 3000 ∧ 0 ≤ (f.vals F T i + 1) * (f.C i).k ∧ (f.vals F T i + 1) * (f.C i).k ≤ 3001000000000 := by
  have hk' : (effC f.C F i).k = (f.C i).k := by
    show (if (f.C i).kind = 0 then F i else (f.C i).k) = _
    rw [if_neg (by omega)]
  have ha' : pk (f.vals F T) f.n (effC f.C F i).a = f.vals F T a := by rw [show (effC f.C F i).a = (f.C i).a from rfl, ha, pk_in hn]
  have hvi : f.vals F T i = ageAt (f.vals F T a) (f.C i).k T := by
    have := (hl i hi).2.2.2.2.1 k1
    rw [ha', hk'] at this
    exact this
  have hx := hv a hn
  have b : 0 ≤ f.vals F T i ∧ f.vals F T i ≤ 3000 := by
    rw [hvi]
    unfold ageAt
    split
    · omega
    · refine ⟨Int.ediv_nonneg (by omega) (by omega), ?_⟩
      have h1 := hx.1
      have : (T - f.vals F T a) / (f.C i).k < 3001 := Int.ediv_lt_of_lt_mul (by omega) (by omega)
      omega
  refine ⟨b.1, b.2, Int.mul_nonneg (by omega) (by omega), ?_⟩
  have : (f.vals F T i + 1) * (f.C i).k ≤ 3001 * 1000000000 := Int.mul_le_mul (by omega) hk2 (by omega) (by omega)
  omega

/-- No level of rule i comes at u. -/
def NoLevAt (f : Frm) (S : Nat → St) (i : Nat) (u : Int) : Prop := (S i).lit = true → ¬ ((S i).level < (f.R i).steps.length ∧ (S i).acked = false ∧ u = (S i).since + (f.R i).steps.getD (S i).level.toNat 0)

/-- An instant ahead of which nothing turns and no level of the first i rules comes. -/
def RQ (f : Frm) (F : Nat → Int) (T : Int) (S : Nat → St) (i : Nat) (t : Int) : Prop :=
  CQ f F T f.n t ∧ ∀ j, j < i → ∀ u, T < u → u ≤ 1000000000 → Bef t u → NoLevAt f S j u

theorem RQ.start {f : Frm} {F : Nat → Int} {T : Int} (S : Nat → St) {t : Int} (h : CQ f F T f.n t) : RQ f F T S 0 t := ⟨h, fun j hj => by omega⟩

theorem RQ.idle {f : Frm} {F : Nat → Int} {T : Int} {S : Nat → St} {i : Nat} {t : Int} (h : RQ f F T S i t) (hn : ¬ ((S i).lit = true ∧ (S i).acked = false ∧ (S i).level < (f.R i).steps.length)) : RQ f F T S (i + 1) t := by
  refine ⟨h.1, fun j hj u u1 u2 hb => ?_⟩
  by_cases e : j = i
  · subst e
    exact fun hl hc => hn ⟨hl, hc.2.1, hc.1⟩
  · exact h.2 j (by omega) u u1 u2 hb

theorem RQ.level {f : Frm} {F : Nat → Int} {T : Int} {S : Nat → St} {i : Nat} {t : Int} (h : RQ f F T S i t) (T0 : 0 ≤ T) : RQ f F T S (i + 1) (soon t ((S i).since + (f.R i).steps.getD (S i).level.toNat 0) T) := by
  refine ⟨⟨soon_low _ h.1.1, fun j hj u u1 u2 hb => h.1.2 j hj u u1 u2 (soon_bef h.1.1 hb T0)⟩, fun j hj u u1 u2 hb => ?_⟩
  by_cases e : j = i
  · subst e
    intro hl hc
    exact soon_not h.1.1 hb T0 u2 ⟨by omega, by omega⟩
  · exact h.2 j (by omega) u u1 u2 (soon_bef h.1.1 hb T0)

/-- The first instant ahead at which something could come about; -1: there is none. -/
def Cand (f : Frm) (m : Cs) (t : Int) : Prop := Low m.T t ∧ ∀ u, m.T < u → u ≤ 1000000000 → Bef t u → Quiet f m u

theorem RQ.cand {f : Frm} {F : Nat → Int} {T : Int} {S : Nat → St} {t : Int} (h : RQ f F T S f.k t) (op : Bool) (E : List Ev) : Cand f ⟨F, T, op, S, E⟩ t :=
  ⟨h.1.1, fun u u1 u2 hb => ⟨fun j hj => h.1.2 j hj u u1 u2 hb, fun j hj => h.2 j hj u u1 u2 hb⟩⟩

end Go.Proofs.YtmofidaojmiepaaGreatDoor
