/-
  PLAIN MATHEMATICS: the values at every instant; to settle; the clock, instant by instant, and what may be left out.
-/
import Derived.Test.YtmofidaojmiepaaGreatDoorGH3
set_option linter.unusedVariables false
set_option linter.unusedSimpArgs false
namespace Go.Proofs.YtmofidaojmiepaaGreatDoor

open Go.RowKit

theorem crel_exists {week : Int} {hol : List Int} (h1 : 1 ≤ week) (h2 : week ≤ 127) (hh : HolOk hol) (now : Int) (c : Cel) (x y z : Int) (k0 : 0 ≤ c.kind) (k1 : c.kind ≤ 12) : ∃ v, CRel week hol now c x y z v := by
  have cs : (c.kind = 0 ∨ c.kind = 1) ∨ (2 ≤ c.kind ∧ c.kind ≤ 8) ∨ c.kind = 9 ∨ c.kind = 10 ∨ c.kind = 11 ∨ c.kind = 12 := by omega
  rcases cs with e | e | e | e | e | e
  · exact ⟨c.k, fun _ => rfl, fun g => by omega, fun g => by omega, fun g => by omega, fun g => by omega, fun g => by omega⟩
  · exact ⟨_, fun g => by omega, fun _ => rfl, fun g => by omega, fun g => by omega, fun g => by omega, fun g => by omega⟩
  · exact ⟨_, fun g => by omega, fun g => by omega, fun _ => rfl, fun g => by omega, fun g => by omega, fun g => by omega⟩
  · exact ⟨_, fun g => by omega, fun g => by omega, fun g => by omega, fun _ => rfl, fun g => by omega, fun g => by omega⟩
  · exact ⟨_, fun g => by omega, fun g => by omega, fun g => by omega, fun g => by omega, fun _ => rfl, fun g => by omega⟩
  · obtain ⟨T, hT, _⟩ := M.due_exists h1 h2 (fun h hm => (hh.2.1 h hm).2) (x / 86400) c.k.toNat
    exact ⟨_, fun g => by omega, fun g => by omega, fun g => by omega, fun g => by omega, fun g => by omega, fun _ => ⟨T, hT, rfl⟩⟩

/-- There are values, at every instant. -/
theorem values_exist {C : Nat → Cel} {n : Nat} {week : Int} {hol : List Int} (h1 : 1 ≤ week) (h2 : week ≤ 127) (hh : HolOk hol) (hok : CellsOk C n) (hno : NoRing C n) (now : Int) (t0 : 0 ≤ now) (t1 : now ≤ 1000000000) : ∃ V, LocalEq C n week hol now V ∧ ∀ i, i < n → IsV (V i) := by
  suffices key : ∀ m V D, Done C n week hol now V D → ((List.range n).filter (fun i => !D i)).length ≤ m → ∃ V, LocalEq C n week hol now V ∧ ∀ i, i < n → IsV (V i) from key _ _ _ (done_start C n week hol now) (Nat.le_refl _)
  intro m
  induction m with
  | zero =>
    intro V D hd hl
    have hall : ∀ i, i < n → D i = true := fun i hi => by
      have he : (List.range n).filter (fun i => !D i) = [] := List.eq_nil_of_length_eq_zero (by omega)
      rw [List.filter_eq_nil_iff] at he
      have := he i (List.mem_range.2 hi)
      simpa using this
    exact ⟨V, fun i hi => hd.eq i hi (hall i hi), hd.val⟩
  | succ m ih =>
    intro V D hd hl
    by_cases hall : ∀ i, i < n → D i = true
    · exact ⟨V, fun i hi => hd.eq i hi (hall i hi), hd.val⟩
    · have ⟨i0, hi0⟩ : ∃ i, i < n ∧ D i = false := by
        apply Classical.byContradiction
        intro hc
        apply hall
        intro i hi
        cases hD : D i
        · exact (hc ⟨i, hi, hD⟩).elim
        · rfl
      obtain ⟨i, ⟨hi, hDi⟩, hs⟩ := M.progress hno (fun i => i < n ∧ D i = false) (fun i h => h.1) hi0
      obtain ⟨k0, k1, _⟩ := hok i hi
      obtain ⟨v, hv⟩ := crel_exists h1 h2 hh now (C i) (pk V n (C i).a) (pk V n (C i).b) (pk V n (C i).c) k0 k1
      have hd' := hd.step hok hi hDi (fun j hj => by
        have hjn := ed_within hok _ _ hj
        cases hD : D j
        · exact (hs j hj ⟨hjn, hD⟩).elim
        · rfl) hv t0 t1
      refine ih _ _ hd' ?_
      have sub : ((List.range n).filter (fun j => !upd D i true j)).length < ((List.range n).filter (fun j => !D j)).length := by
        have e : (List.range n).filter (fun j => !upd D i true j) = ((List.range n).filter (fun j => !D j)).filter (fun j => j != i) := by
          rw [List.filter_filter]
          congr 1
          funext j
          unfold upd
          by_cases e : j = i
          · subst e; simp
          · simp [e]
        rw [e]
        apply List.length_filter_lt_length_iff_exists.2
        exact ⟨i, List.mem_filter.2 ⟨List.mem_range.2 hi, by simp [hDi]⟩, by simp⟩
      omega

/-- How many whole units have gone by. -/
def ageAt (x k t : Int) : Int := if t < x then 0 else (t - x) / k

/-- Nothing that hangs on the clock turns from T to t, if the values stay. -/
def Still (C : Nat → Cel) (n : Nat) (V : Nat → Int) (T t : Int) : Prop :=
  ∀ i, i < n → ((C i).kind = 10 → (pk V n (C i).a ≤ t ↔ pk V n (C i).a ≤ T)) ∧ ((C i).kind = 11 → ageAt (pk V n (C i).a) (C i).k t = ageAt (pk V n (C i).a) (C i).k T)

/-- Then the values stay. -/
theorem stay {C : Nat → Cel} {n : Nat} {week : Int} {hol : List Int} {T t : Int} {V : Nat → Int} (h : LocalEq C n week hol T V) (hs : Still C n V T t) : LocalEq C n week hol t V := by
  intro i hi
  obtain ⟨h0, h2, h9, h10, h11, h12⟩ := h i hi
  obtain ⟨s10, s11⟩ := hs i hi
  refine ⟨h0, h2, h9, fun e => ?_, fun e => ?_, h12⟩
  · rw [h10 e]
    congr 1
    exact decide_eq_decide.2 (s10 e).symm
  · have := s11 e
    unfold ageAt at this
    rw [h11 e, this]

/-- An event. -/
structure Ev where
  t : Int
  r : Nat
  l : Int

/-- One rule settles. -/
def stepSt (r : Rul) (s : St) (g t : Int) : St :=
  if g = 0 then ⟨false, 0, 0, false⟩ else if s.lit = false then ⟨true, t, 0, false⟩ else if s.level < r.steps.length ∧ s.acked = false ∧ t = s.since + r.steps.getD s.level.toNat 0 then ⟨s.lit, s.since, s.level + 1, s.acked⟩ else s

def stepEv (r : Rul) (s : St) (g t : Int) (i : Nat) : List Ev :=
  if g = 0 then [] else if s.lit = false then [⟨t, i, 0⟩] else if s.level < r.steps.length ∧ s.acked = false ∧ t = s.since + r.steps.getD s.level.toNat 0 then [⟨t, i, s.level + 1⟩] else []

/-- A guard's value. -/
def grd (R : Nat → Rul) (V : Nat → Int) (i : Nat) : Int := V (R i).guard.toNat

/-- A rule's state is one that settling leaves: it is lit just where its guard is true. -/
def Cons (R : Nat → Rul) (k : Nat) (V : Nat → Int) (S : Nat → St) : Prop := ∀ i, i < k → (grd R V i = 0 → S i = ⟨false, 0, 0, false⟩) ∧ (grd R V i ≠ 0 → (S i).lit = true)

/-- No level comes at t. -/
def NoLevel (R : Nat → Rul) (k : Nat) (S : Nat → St) (t : Int) : Prop := ∀ i, i < k → (S i).lit = true → ¬ ((S i).level < (R i).steps.length ∧ (S i).acked = false ∧ t = (S i).since + (R i).steps.getD (S i).level.toNat 0)

theorem grd_eq {R : Nat → Rul} {n k : Nat} {V V' : Nat → Int} (hg : ∀ i, i < k → 0 ≤ (R i).guard ∧ (R i).guard < n) (h : ∀ j, j < n → V j = V' j) : ∀ i, i < k → grd R V i = grd R V' i := fun i hi => by
  obtain ⟨g0, g1⟩ := hg i hi
  exact h _ (by omega)

/-- A form. -/
structure Frm where
  C : Nat → Cel
  n : Nat
  R : Nat → Rul
  k : Nat
  hol : List Int
  week : Int

def Frm.Ok (f : Frm) : Prop := FormOk f.C f.n f.R f.k f.week f.hol

/-- What is filled in are values. -/
def FV (f : Frm) (F : Nat → Int) : Prop := ∀ i, i < f.n → (f.C i).kind = 0 → IsV (F i)

/-- The first of m days by which k such days have gone by. -/
def dueF (p : Int → Bool) (d : Int) (k : Nat) : Nat → Nat
  | 0 => 0
  | m + 1 => if k ≤ M.cnt p d m then dueF p d k m else m + 1

theorem dueF_is (p : Int → Bool) (d : Int) (k : Nat) : ∀ m : Nat, k ≤ M.cnt p d m → M.cnt p d (dueF p d k m) = k ∧ (dueF p d k m = 0 ∨ p (d + dueF p d k m) = true)
  | 0, h => ⟨by simp only [M.cnt] at h; simp only [dueF, M.cnt]; omega, Or.inl rfl⟩
  | m + 1, h => by
    unfold dueF
    by_cases hk : k ≤ M.cnt p d m
    · rw [if_pos hk]
      exact dueF_is p d k m hk
    · rw [if_neg hk]
      simp only [M.cnt] at h
      by_cases hp : p (d + ((m + 1 : Nat) : Int)) = true
      · exact ⟨by simp only [hp, if_true] at h; simp only [M.cnt, hp, if_true]; omega, Or.inr hp⟩
      · simp only [hp] at h; simp at h; omega

/-- A cell's value, as its row says, out of those that it needs. -/
def rowV (week : Int) (hol : List Int) (now : Int) (c : Cel) (x y z : Int) : Int :=
  if c.kind = 0 ∨ c.kind = 1 then c.k else if 2 ≤ c.kind ∧ c.kind ≤ 8 then M.two c.kind x y else if c.kind = 9 then (if x = 0 then z else y) else if c.kind = 10 then M.num (decide (x ≤ now)) else if c.kind = 11 then (if now < x then 0 else (now - x) / c.k)
  else M.cutv ((x / 86400 + (dueF (M.wkd week hol) (x / 86400) c.k.toNat ((11574 - x / 86400).toNat + c.k.toNat * 7) : Nat)) * 86400)

theorem rowV_rel {week : Int} {hol : List Int} (h1 : 1 ≤ week) (h2 : week ≤ 127) (hh : HolOk hol) (now : Int) (c : Cel) (x y z : Int) (k0 : 0 ≤ c.kind) (k1 : c.kind ≤ 12) : CRel week hol now c x y z (rowV week hol now c x y z) := by
  have cs : (c.kind = 0 ∨ c.kind = 1) ∨ (2 ≤ c.kind ∧ c.kind ≤ 8) ∨ c.kind = 9 ∨ c.kind = 10 ∨ c.kind = 11 ∨ c.kind = 12 := by omega
  unfold rowV
  rcases cs with e | e | e | e | e | e
  · rw [if_pos e]
    exact ⟨fun _ => rfl, fun g => by omega, fun g => by omega, fun g => by omega, fun g => by omega, fun g => by omega⟩
  · rw [if_neg (by omega), if_pos e]
    exact ⟨fun g => by omega, fun _ => rfl, fun g => by omega, fun g => by omega, fun g => by omega, fun g => by omega⟩
  · rw [if_neg (by omega), if_neg (by omega), if_pos e]
    exact ⟨fun g => by omega, fun g => by omega, fun _ => rfl, fun g => by omega, fun g => by omega, fun g => by omega⟩
  · rw [if_neg (by omega), if_neg (by omega), if_neg (by omega), if_pos e]
    exact ⟨fun g => by omega, fun g => by omega, fun g => by omega, fun _ => rfl, fun g => by omega, fun g => by omega⟩
  · rw [if_neg (by omega), if_neg (by omega), if_neg (by omega), if_neg (by omega), if_pos e]
    exact ⟨fun g => by omega, fun g => by omega, fun g => by omega, fun g => by omega, fun _ => rfl, fun g => by omega⟩
  · rw [if_neg (by omega), if_neg (by omega), if_neg (by omega), if_neg (by omega), if_neg (by omega)]
    have hc : c.k.toNat ≤ M.cnt (M.wkd week hol) (x / 86400) ((11574 - x / 86400).toNat + c.k.toNat * 7) := by
      have hx : ∀ h, h ∈ hol → h ≤ x / 86400 + ((11574 - x / 86400).toNat : Int) := fun h hm => by
        have := (hh.2.1 h hm).2
        omega
      rw [M.cnt_add, M.wkd_late hx, M.cnt_weeks]
      have := Nat.mul_le_mul_left c.k.toNat (M.week_some h1 h2)
      omega
    obtain ⟨n2, n3⟩ := dueF_is _ _ _ _ hc
    exact ⟨fun g => by omega, fun g => by omega, fun g => by omega, fun g => by omega, fun g => by omega, fun _ => ⟨_, ⟨_, rfl, n2, n3⟩, rfl⟩⟩

/-- The values that r rounds have worked out. -/
def valR (C : Nat → Cel) (n : Nat) (week : Int) (hol : List Int) (now : Int) : Nat → Nat → Int
  | 0 => fun _ => 0
  | r + 1 => fun i => rowV week hol now (C i) (pk (valR C n week hol now r) n (C i).a) (pk (valR C n week hol now r) n (C i).b) (pk (valR C n week hol now r) n (C i).c)

theorem valR_eq {C : Nat → Cel} {n : Nat} {week : Int} {hol : List Int} (h1 : 1 ≤ week) (h2 : week ≤ 127) (hh : HolOk hol) (hok : CellsOk C n) {now : Int} {V : Nat → Int} (h : LocalEq C n week hol now V) : ∀ r i, i < n → Lv C n r i → V i = valR C n week hol now r i := by
  intro r
  induction r with
  | zero => exact fun i _ hl => hl.elim
  | succ r ih =>
    intro i hi hl
    obtain ⟨k0, k1, _⟩ := hok i hi
    exact CRel.unique (h i hi) (rowV_rel h1 h2 hh now (C i) _ _ _ k0 k1) k0 k1 (fun p => pk_eq fun j e hj => ih j hj (hl j ⟨hi, Or.inl ⟨p, e⟩⟩)) (fun p => pk_eq fun j e hj => ih j hj (hl j ⟨hi, Or.inr (Or.inl ⟨p, e⟩)⟩)) (fun p => pk_eq fun j e hj => ih j hj (hl j ⟨hi, Or.inr (Or.inr ⟨p, e⟩)⟩))

/-- The values of a form's cells, as it is filled, at an instant. -/
def Frm.vals (f : Frm) (F : Nat → Int) (T : Int) : Nat → Int := valR (effC f.C F) f.n f.week f.hol T f.n

theorem vals_eq {f : Frm} (hf : f.Ok) {F : Nat → Int} (hF : FV f F) {T : Int} {V : Nat → Int} (h : LocalEq (effC f.C F) f.n f.week f.hol T V) : ∀ i, i < f.n → V i = f.vals F T i := fun i hi => by
  obtain ⟨_, _, _, w1, w2⟩ := hf.sizes
  exact valR_eq w1 w2 hf.hol (effC_ok hf.cells hF) h f.n i hi (lv_all (effC_ok hf.cells hF) (effC_ring hf.ring) hi)

theorem vals_local {f : Frm} (hf : f.Ok) {F : Nat → Int} (hF : FV f F) {T : Int} (t0 : 0 ≤ T) (t1 : T ≤ 1000000000) : LocalEq (effC f.C F) f.n f.week f.hol T (f.vals F T) ∧ ∀ i, i < f.n → IsV (f.vals F T i) := by
  obtain ⟨_, _, _, w1, w2⟩ := hf.sizes
  obtain ⟨V, h1, h2⟩ := values_exist w1 w2 hf.hol (effC_ok hf.cells hF) (effC_ring hf.ring) T t0 t1
  have e := vals_eq hf hF h1
  have q : ∀ a, pk V f.n a = pk (f.vals F T) f.n a := fun a => pk_eq fun j _ hj => e j hj
  refine ⟨fun i hi => ?_, fun i hi => ?_⟩
  · have := h1 i hi
    unfold LocalAt at this ⊢
    rw [← q, ← q, ← q, ← e i hi]
    exact this
  · rw [← e i hi]
    exact h2 i hi

/-- A case: what is filled in, the present instant, whether it is open, the rules' states, the log. -/
structure Cs where
  F : Nat → Int
  T : Int
  op : Bool
  S : Nat → St
  E : List Ev

def setS (f : Frm) (V : Nat → Int) (t : Int) (S : Nat → St) : Nat → St := fun i => if i < f.k then stepSt (f.R i) (S i) (grd f.R V i) t else S i

def setE (f : Frm) (V : Nat → Int) (t : Int) (S : Nat → St) : List Ev := (List.range f.k).flatMap (fun i => stepEv (f.R i) (S i) (grd f.R V i) t i)

/-- A case settles. -/
def Cs.settle (f : Frm) (m : Cs) : Cs := if m.op = true then ⟨m.F, m.T, m.op, setS f (f.vals m.F m.T) m.T m.S, m.E ++ setE f (f.vals m.F m.T) m.T m.S⟩ else m

/-- The clock stands at t. -/
def Cs.at (m : Cs) (t : Int) : Cs := ⟨m.F, t, m.op, m.S, m.E⟩

/-- The clock goes on, instant by instant. -/
def Cs.go (f : Frm) (m : Cs) : Nat → Cs
  | 0 => m
  | j + 1 => Cs.settle f ((Cs.go f m j).at (m.T + (j + 1 : Nat)))

theorem settle_F (f : Frm) (m : Cs) : (m.settle f).F = m.F := by unfold Cs.settle; split <;> rfl

theorem settle_T (f : Frm) (m : Cs) : (m.settle f).T = m.T := by unfold Cs.settle; split <;> rfl

theorem settle_op (f : Frm) (m : Cs) : (m.settle f).op = m.op := by unfold Cs.settle; split <;> rfl

theorem go_F (f : Frm) (m : Cs) (j : Nat) : (m.go f j).F = m.F := by
  induction j with
  | zero => rfl
  | succ j ih => show (Cs.settle f _).F = _; rw [settle_F]; exact ih

theorem go_op (f : Frm) (m : Cs) (j : Nat) : (m.go f j).op = m.op := by
  induction j with
  | zero => rfl
  | succ j ih => show (Cs.settle f _).op = _; rw [settle_op]; exact ih

theorem go_T (f : Frm) (m : Cs) (j : Nat) : (m.go f j).T = m.T + j := by
  cases j with
  | zero => show m.T = m.T + (0 : Nat); omega
  | succ j => show (Cs.settle f _).T = _; rw [settle_T]; rfl

theorem go_add (f : Frm) (m : Cs) (a : Nat) : ∀ b, m.go f (a + b) = (m.go f a).go f b := by
  intro b
  induction b with
  | zero => rfl
  | succ b ih =>
    show Cs.settle f ((m.go f (a + b)).at (m.T + ((a + b) + 1 : Nat))) = Cs.settle f (((m.go f a).go f b).at ((m.go f a).T + (b + 1 : Nat)))
    rw [ih, go_T, show m.T + ((a + b + 1 : Nat) : Int) = m.T + a + (b + 1 : Nat) by omega]

def noSt : St := ⟨false, 0, 0, false⟩

/-- What stands between the calls. -/
structure Cs.Ok (f : Frm) (m : Cs) : Prop where
  t0 : 0 ≤ m.T
  t1 : m.T ≤ 1000000000
  fv : FV f m.F
  st : ∀ i, i < f.k → StOk (m.S i)
  lit : m.op = true → Cons f.R f.k (f.vals m.F m.T) m.S
  shut : m.op = false → ∀ i, i < f.k → m.S i = noSt

/-- The log is no longer than it can be. -/
def Few (b : Nat) (m : Cs) : Prop := (m.E.length : Int) ≤ 6 * (m.T + b)

theorem stepEv_len (r : Rul) (s : St) (g t : Int) (i : Nat) : (stepEv r s g t i).length ≤ 1 := by
  unfold stepEv
  split
  · simp
  split
  · simp
  split <;> simp

theorem flat_len {g : Nat → List Ev} (h : ∀ i, (g i).length ≤ 1) : ∀ k, ((List.range k).flatMap g).length ≤ k := by
  intro k
  induction k with
  | zero => simp
  | succ k ih =>
    rw [List.range_succ, List.flatMap_append, List.length_append]
    have := h k
    have e : (List.flatMap g [k]) = g k := by simp
    rw [e]
    omega

theorem setE_len (f : Frm) (V : Nat → Int) (t : Int) (S : Nat → St) : (setE f V t S).length ≤ f.k := flat_len (fun i => stepEv_len _ _ _ _ _) f.k

theorem settle_len (f : Frm) (m : Cs) : (m.settle f).E.length ≤ m.E.length + f.k := by
  unfold Cs.settle
  split
  · have := setE_len f (f.vals m.F m.T) m.T m.S
    simp
    omega
  · omega

theorem go_few {f : Frm} (hf : f.Ok) {b : Nat} {m : Cs} (h : Few b m) (j : Nat) : Few b (m.go f j) := by
  obtain ⟨_, _, k6, _, _⟩ := hf.sizes
  induction j with
  | zero => exact h
  | succ j ih =>
    unfold Few at ih ⊢
    have h1 := settle_len f ((Cs.go f m j).at (m.T + (j + 1 : Nat)))
    have h2 : ((Cs.go f m j).at (m.T + (j + 1 : Nat))).E = (Cs.go f m j).E := rfl
    rw [h2] at h1
    rw [go_T] at ih ⊢
    have h3 : m.go f (j + 1) = Cs.settle f ((Cs.go f m j).at (m.T + (j + 1 : Nat))) := rfl
    rw [h3]
    omega

theorem stepSt_ok {r : Rul} {n : Nat} (hr : RuleOk r n) {s : St} (h : StOk s) {g t : Int} (t0 : 0 ≤ t) (t1 : t ≤ 1000000000) : StOk (stepSt r s g t) := by
  obtain ⟨h1, h2, h3, h4⟩ := h
  obtain ⟨_, _, r3, _⟩ := hr
  unfold stepSt
  split
  · exact ⟨Int.le_refl _, by show (0 : Int) ≤ _; omega, Int.le_refl _, by show (0 : Int) ≤ _; omega⟩
  split
  · exact ⟨t0, t1, Int.le_refl _, by show (0 : Int) ≤ _; omega⟩
  split
  · rename_i hc
    have := hc.1
    exact ⟨h1, h2, by show 0 ≤ s.level + 1; omega, by show s.level + 1 ≤ 1000; omega⟩
  · exact ⟨h1, h2, h3, h4⟩

theorem set_cons (f : Frm) (V : Nat → Int) (t : Int) (S : Nat → St) : Cons f.R f.k V (setS f V t S) := by
  intro i hi
  unfold setS
  rw [if_pos hi]
  unfold stepSt
  refine ⟨fun h => by rw [if_pos h], fun h => ?_⟩
  rw [if_neg h]
  by_cases hl : (S i).lit = false
  · rw [if_pos hl]
  · rw [if_neg hl]
    have hl' : (S i).lit = true := by simpa using hl
    split
    · exact hl'
    · exact hl'

/-- A case that has just settled is as it should be. -/
theorem settle_ok {f : Frm} (hf : f.Ok) {m : Cs} (t0 : 0 ≤ m.T) (t1 : m.T ≤ 1000000000) (fv : FV f m.F) (st : ∀ i, i < f.k → StOk (m.S i)) (shut : m.op = false → ∀ i, i < f.k → m.S i = noSt) : (m.settle f).Ok f := by
  refine ⟨by rw [settle_T]; exact t0, by rw [settle_T]; exact t1, by rw [settle_F]; exact fv, ?_, ?_, ?_⟩
  · unfold Cs.settle
    split
    · intro i hi
      show StOk (if i < f.k then _ else _)
      rw [if_pos hi]
      exact stepSt_ok (hf.rules i hi) (st i hi) t0 t1
    · exact st
  · intro ho
    rw [settle_op] at ho
    rw [settle_F, settle_T]
    unfold Cs.settle
    rw [if_pos ho]
    exact set_cons f _ _ _
  · intro ho
    rw [settle_op] at ho
    unfold Cs.settle
    rw [if_neg (by simp [ho])]
    exact shut ho

theorem go_ok {f : Frm} (hf : f.Ok) {m : Cs} (h : m.Ok f) : ∀ j : Nat, m.T + j ≤ 1000000000 → (m.go f j).Ok f := by
  intro j
  induction j with
  | zero => exact fun _ => h
  | succ j ih =>
    intro hj
    have i := ih (by omega)
    have t0 := h.t0
    exact settle_ok hf (by show 0 ≤ m.T + _; omega) hj i.fv i.st i.shut

/-- Nothing comes about at t, if it is the first instant at which anything does. -/
def Quiet (f : Frm) (m : Cs) (t : Int) : Prop := Still (effC f.C m.F) f.n (f.vals m.F m.T) m.T t ∧ NoLevel f.R f.k m.S t

theorem quiet_vals {f : Frm} (hf : f.Ok) {m : Cs} (h : m.Ok f) {t : Int} (hq : Quiet f m t) : ∀ i, i < f.n → f.vals m.F m.T i = f.vals m.F t i :=
  vals_eq hf h.fv (stay (vals_local hf h.fv h.t0 h.t1).1 hq.1)

theorem quiet_settle {f : Frm} (hf : f.Ok) {m : Cs} (h : m.Ok f) {t : Int} (hq : Quiet f m t) : Cs.settle f (m.at t) = m.at t := by
  unfold Cs.settle
  by_cases ho : (m.at t).op = true
  · rw [if_pos ho]
    have hg := grd_eq (fun i hi => ⟨(hf.rules i hi).1, (hf.rules i hi).2.1⟩) (quiet_vals hf h hq)
    have hc := h.lit ho
    have key : ∀ i, i < f.k → stepSt (f.R i) (m.S i) (grd f.R (f.vals m.F t) i) t = m.S i ∧ stepEv (f.R i) (m.S i) (grd f.R (f.vals m.F t) i) t i = [] := by
      intro i hi
      obtain ⟨c0, c1⟩ := hc i hi
      rw [← hg i hi]
      unfold stepSt stepEv
      by_cases g0 : grd f.R (f.vals m.F m.T) i = 0
      · rw [if_pos g0, if_pos g0]
        exact ⟨(c0 g0).symm, rfl⟩
      · have hl := c1 g0
        have hlf : ¬ (m.S i).lit = false := by simp [hl]
        have hnl := hq.2 i hi hl
        simp only [if_neg g0, if_neg hlf, if_neg hnl]
        exact ⟨trivial, trivial⟩
    have e1 : setS f (f.vals m.F t) t m.S = m.S := by
      funext i
      unfold setS
      by_cases hi : i < f.k
      · rw [if_pos hi]; exact (key i hi).1
      · rw [if_neg hi]
    have e2 : setE f (f.vals m.F t) t m.S = [] := by
      unfold setE
      rw [List.flatMap_eq_nil_iff]
      intro i hi
      exact (key i (List.mem_range.1 hi)).2
    show Cs.mk m.F t m.op (setS f (f.vals m.F t) t m.S) (m.E ++ setE f (f.vals m.F t) t m.S) = _
    rw [e1, e2, List.append_nil]
    rfl
  · rw [if_neg ho]

/-- The clock may leave out the instants at which nothing comes about. -/
theorem go_quiet {f : Frm} (hf : f.Ok) {m : Cs} (h : m.Ok f) : ∀ j : Nat, (∀ i : Nat, 1 ≤ i → i ≤ j → Quiet f m (m.T + i)) → m.go f j = m.at (m.T + j) := by
  intro j
  induction j with
  | zero =>
    intro _
    show m = m.at (m.T + (0 : Nat))
    rw [show m.T + ((0 : Nat) : Int) = m.T by omega]
    rfl
  | succ j ih =>
    intro hq
    show Cs.settle f ((Cs.go f m j).at (m.T + (j + 1 : Nat))) = _
    rw [ih (fun i a b => hq i a (by omega))]
    exact quiet_settle hf h (hq (j + 1) (by omega) (Nat.le_refl _))

/-- It goes on to the first instant at which something could. -/
theorem go_next {f : Frm} (hf : f.Ok) {m : Cs} (h : m.Ok f) {t : Int} (ht : m.T < t) (hq : ∀ u, m.T < u → u < t → Quiet f m u) : m.go f (t - m.T).toNat = Cs.settle f (m.at t) := by
  obtain ⟨j, hj⟩ : ∃ j : Nat, (t - m.T).toNat = j + 1 := ⟨(t - m.T).toNat - 1, by omega⟩
  rw [hj]
  show Cs.settle f ((Cs.go f m j).at (m.T + (j + 1 : Nat))) = _
  rw [go_quiet hf h j (fun i a b => hq _ (by omega) (by omega)), show m.T + ((j + 1 : Nat) : Int) = t by omega]
  rfl

end Go.Proofs.YtmofidaojmiepaaGreatDoor

/-
  MEMORY: the document's world, exactly; an event.
-/
set_option linter.unusedVariables false
set_option linter.unusedSimpArgs false
namespace Go.Proofs.YtmofidaojmiepaaGreatDoor

open Go.RowKit

attribute [local go_sem ↓] Go.wp_at_zero Go.wp_at_succ

/-- A world's places. -/
structure Pl where
  bw : Nat
  bc : Nat
  aO : Option Addr
  cO : Nat
  bh : Nat
  bF : Nat
  cF : Nat
  bS : Nat

def evs (E : List Ev) : List Value := E.flatMap (fun e => [.int .i64 e.t, .int .i64 e.r, .int .i64 e.l])

theorem evs_snoc (E : List Ev) (e : Ev) : evs (E ++ [e]) = evs E ++ [.int .i64 e.t, .int .i64 e.r, .int .i64 e.l] := by unfold evs; rw [List.flatMap_append]; simp

theorem evs_cons (E : List Ev) (e : Ev) : evs (e :: E) = [.int .i64 e.t, .int .i64 e.r, .int .i64 e.l] ++ evs E := by unfold evs; rw [List.flatMap_cons]

theorem evs_length (E : List Ev) : (evs E).length = E.length * 3 := by
  induction E with
  | nil => rfl
  | cons e E ih => rw [evs_cons, List.length_append, ih]; simp; omega

/-- The base of a world: the form in lists of its own. -/
def Base (f : Frm) (p : Pl) (W : World) : Prop := W.rowIs p.bc 47 (f.n * 5) (cellf f.C) ∧ RAt W p.aO f.k f.R ∧ IntsAt W (.slice (some ⟨p.bh, 0, none⟩) f.hol.length f.hol.length) f.hol

/-- What may turn of a world. -/
def Own (p : Pl) (vE : Value) (j : Nat) : Prop := j = p.bw ∨ j = p.bF ∨ j = p.bS ∨ vE.ownBlock = some j
def Own.dec (p : Pl) (vE : Value) (j : Nat) : Decidable (Own p vE j) := inferInstanceAs (Decidable (j = p.bw ∨ j = p.bF ∨ j = p.bS ∨ vE.ownBlock = some j))

theorem own_lt {w : World} {base : Nat} {e : TypeId} {size : Nat} {v : Value} {n : Nat} {xs : List Value} (h : w.ownsRow base e size v n xs) {g : Nat} (hg : v.ownBlock = some g) : g < w.heap.size := by
  rcases h.2 with ⟨hv, _⟩ | ⟨g', cap, cur, hv, hb, hh, _⟩
  · rw [hv] at hg; cases hg
  · rw [hv] at hg
    have e : g' = g := by simpa [Value.ownBlock] using hg
    subst e
    rcases Nat.lt_or_ge g' w.heap.size with h | h
    · exact h
    · rw [Array.getElem?_eq_none h] at hh; cases hh

section

variable {Q : Nat → Prop} {f : Frm} {p : Pl} {F : Nat → Int} {T : Int} {op : Bool} {S : Nat → St} {vE : Value} {E : List Ev} {w : World}

end

/-- What event does: one event more, at the end; of what was there only the world's own block and the log's have turned. -/
def EvP (bw n : Nat) (vE : Value) (xs news : List Value) (w : World) (e : Ending) (w' : World) : Prop :=
  ∃ g cap, e = .returned (.tuple #[]) ∧ w'.ownsRow 0 99 3 (.slice (some ⟨g, 0, none⟩) (n + 1) cap) (n + 1) (xs ++ news) ∧ (vE.ownBlock = some g ∨ w.heap.size ≤ g) ∧ Chg (fun j => j = bw ∨ vE.ownBlock = some j) w w' ∧
    (∀ t N f, w.rowIs bw t N f → w'.rowIs bw t N (fun j => if j = 8 then .slice (some ⟨g, 0, none⟩) (n + 1) cap else f j))

theorem evp_close {bw n g cap : Nat} {vE : Value} {xs news : List Value} {w w1 : World} {o : Obj} (hb : bw < w.heap.size) (hne : vE.ownBlock ≠ some bw)
    (h1 : w1.ownsRow 0 99 3 (.slice (some ⟨g, 0, none⟩) (n + 1) cap) (n + 1) (xs ++ news)) (hg : ((w.alloc o).drew).grownBy w1 vE.ownBlock) (hat : vE.ownBlock = some g ∨ g = w.heap.size + 1) :
    EvP bw n vE xs news w (.returned (.tuple #[])) (w1.setCell ⟨bw, 8, none⟩ (.slice (some ⟨g, 0, none⟩) (n + 1) cap)) := by
  have hbk : w1.heap[bw]? = w.heap[bw]? := ev_far w o hg hb hne
  have hsz := hg.size
  simp at hsz
  have gne : (Value.slice (some ⟨g, 0, none⟩) (n + 1) cap).ownBlock ≠ some bw := by
    show some g ≠ some bw
    intro e
    have e' : g = bw := by simpa using e
    rcases hat with h | h
    · rw [e'] at h; exact hne h
    · omega
  refine ⟨g, cap, rfl, ownsRow_setCell_other h1 gne _, ?_, ⟨hg.os, hg.tape, hg.output, by simp; omega, fun j hj hx => ?_⟩, fun t N f hf => (hf.of_block hbk).set 8 _⟩
  · rcases hat with h | h
    · exact Or.inl h
    · exact Or.inr (by omega)
  · rw [Below.heap_setCell _ _ _ _ (fun e => hx (Or.inl e))]
    exact ev_far w o hg hj (fun e => hx (Or.inr e))

section

variable {Q : Nat → Prop} {f : Frm} {p : Pl} {F : Nat → Int} {T : Int} {op : Bool} {S : Nat → St} {vE : Value} {E : List Ev} {w : World}

/-- The log's room is where it was, or new. -/
def Grew (w : World) (v v' : Value) : Prop := ∀ j, v'.ownBlock = some j → v.ownBlock = some j ∨ w.heap.size ≤ j

theorem Grew.refl (w : World) (v : Value) : Grew w v v := fun _ h => Or.inl h

theorem Grew.trans {w w1 : World} {a b c : Value} (h : Grew w a b) (g : Grew w1 b c) (hs : w.heap.size ≤ w1.heap.size) : Grew w a c := fun j hj => by
  rcases g j hj with e | e
  · exact h j e
  · exact Or.inr (by omega)

theorem Own.grew {w : World} {p : Pl} {v v' : Value} (g : Grew w v v') : ∀ j, j < w.heap.size → Own p v' j → Own p v j := fun j hj hx => by
  rcases hx with h | h | h | h
  · exact Or.inl h
  · exact Or.inr (Or.inl h)
  · exact Or.inr (Or.inr (Or.inl h))
  · rcases g j h with e | e
    · exact Or.inr (Or.inr (Or.inr e))
    · omega

end

end Go.Proofs.YtmofidaojmiepaaGreatDoor

/-
  MEMORY: the document's world, exactly: values, Value.
-/
set_option linter.unusedVariables false
set_option linter.unusedSimpArgs false
namespace Go.Proofs.YtmofidaojmiepaaGreatDoor

open Go.RowKit

attribute [local go_sem ↓] Go.wp_at_zero Go.wp_at_succ

/-- The values, in a list of their own. -/
def VlPost (f : Frm) (F : Nat → Int) (T : Int) (w : World) (e : Ending) (w' : World) : Prop :=
  ∃ b, e = .returned (.slice (some ⟨b, 0, none⟩) f.n f.n) ∧ w.heap.size ≤ b ∧ w'.rowIs b 3 f.n (fun i => .int .i64 (f.vals F T i)) ∧ Below w.heap.size w w'

theorem vl_of {f : Frm} (hf : f.Ok) {F : Nat → Int} (hF : FV f F) {T : Int} {w w' : World} {e : Ending} (h : ValPost (effC f.C F) f.n f.week f.hol T w e w') : VlPost f F T w e w' := by
  obtain ⟨b, V, h1, h2, h3, h4, _, h6⟩ := h
  exact ⟨b, h1, h2, h3.congr (fun i hi => by show Value.int .i64 (V i) = _; rw [vals_eq hf hF h4 i hi]), h6⟩

section

variable {Q : Nat → Prop} {f : Frm} {p : Pl} {F : Nat → Int} {T : Int} {op : Bool} {S : Nat → St} {vE : Value} {E : List Ev} {w : World}

end

/-- What Value answers: P4. -/
def valV (f : Frm) (F : Nat → Int) (T : Int) (c : Int) : Int := if 0 ≤ c ∧ c < f.n then f.vals F T c.toNat else 0

def valE (f : Frm) (c : Int) : Int := if 0 ≤ c ∧ c < f.n then 0 else 6

def VAns (f : Frm) (F : Nat → Int) (T : Int) (c : Int) (w : World) (e : Ending) (w' : World) : Prop := e = .returned (.tuple #[.int .i64 (valV f F T c), .int .i64 (valE f c)]) ∧ Below w.heap.size w w'

theorem vans_no {f : Frm} {F : Nat → Int} {T c : Int} {w w' : World} (h : ¬ (0 ≤ c ∧ c < f.n)) (hb : Below w.heap.size w w') : VAns f F T c w (.returned (.tuple #[.int .i64 0, .int .i64 6])) w' := ⟨by unfold valV valE; rw [if_neg h, if_neg h], hb⟩

theorem vans_yes {f : Frm} {F : Nat → Int} {T : Int} {i : Nat} {w w' : World} (h : i < f.n) (hb : Below w.heap.size w w') : VAns f F T i w (.returned (.tuple #[.int .i64 (f.vals F T i), .int .i64 0])) w' := ⟨by unfold valV valE; rw [if_pos (by omega), if_pos (by omega)]; rfl, hb⟩

section

variable {Q : Nat → Prop} {f : Frm} {p : Pl} {F : Nat → Int} {T : Int} {op : Bool} {S : Nat → St} {vE : Value} {E : List Ev} {w : World}

end

end Go.Proofs.YtmofidaojmiepaaGreatDoor

/-
  MEMORY: the document's world, exactly: settle.
-/
set_option linter.unusedVariables false
set_option linter.unusedSimpArgs false
namespace Go.Proofs.YtmofidaojmiepaaGreatDoor

open Go.RowKit

attribute [local go_sem ↓] Go.wp_at_zero Go.wp_at_succ

theorem st_dark {r : Rul} {s : St} {g t : Int} {i : Nat} (h : g = 0) : stepSt r s g t = ⟨false, 0, 0, false⟩ ∧ stepEv r s g t i = [] := by unfold stepSt stepEv; rw [if_pos h, if_pos h]; exact ⟨rfl, rfl⟩

theorem st_new {r : Rul} {s : St} {g t : Int} {i : Nat} (h : g ≠ 0) (hl : s.lit = false) : stepSt r s g t = ⟨true, t, 0, false⟩ ∧ stepEv r s g t i = [⟨t, i, 0⟩] := by unfold stepSt stepEv; rw [if_neg h, if_neg h, if_pos hl, if_pos hl]; exact ⟨rfl, rfl⟩

theorem st_lev {r : Rul} {s : St} {g t : Int} {i : Nat} (h : g ≠ 0) (hl : s.lit = true) (hc : s.level < r.steps.length ∧ s.acked = false ∧ t = s.since + r.steps.getD s.level.toNat 0) : stepSt r s g t = ⟨s.lit, s.since, s.level + 1, s.acked⟩ ∧ stepEv r s g t i = [⟨t, i, s.level + 1⟩] := by
  have hl' : ¬ s.lit = false := by simp [hl]
  unfold stepSt stepEv; rw [if_neg h, if_neg h, if_neg hl', if_neg hl', if_pos hc, if_pos hc]; exact ⟨rfl, rfl⟩

theorem st_idle {r : Rul} {s : St} {g t : Int} {i : Nat} (h : g ≠ 0) (hl : s.lit = true) (hc : ¬ (s.level < r.steps.length ∧ s.acked = false ∧ t = s.since + r.steps.getD s.level.toNat 0)) : stepSt r s g t = s ∧ stepEv r s g t i = [] := by
  have hl' : ¬ s.lit = false := by simp [hl]
  unfold stepSt stepEv; rw [if_neg h, if_neg h, if_neg hl', if_neg hl', if_neg hc, if_neg hc]; exact ⟨rfl, rfl⟩

/-- The first i rules have settled. -/
def Par (f : Frm) (V : Nat → Int) (T : Int) (S : Nat → St) (E : List Ev) (i : Nat) (S' : Nat → St) (E' : List Ev) : Prop :=
  (∀ j, S' j = if j < i then stepSt (f.R j) (S j) (grd f.R V j) T else S j) ∧ E' = E ++ (List.range i).flatMap (fun j => stepEv (f.R j) (S j) (grd f.R V j) T j)

theorem Par.start (f : Frm) (V : Nat → Int) (T : Int) (S : Nat → St) (E : List Ev) : Par f V T S E 0 S E := ⟨fun j => (if_neg (by omega)).symm, by simp⟩

theorem Par.here {f : Frm} {V : Nat → Int} {T : Int} {S : Nat → St} {E : List Ev} {i : Nat} {S' : Nat → St} {E' : List Ev} (h : Par f V T S E i S' E') : S' i = S i := by rw [h.1, if_neg (by omega)]

theorem Par.len {f : Frm} {V : Nat → Int} {T : Int} {S : Nat → St} {E : List Ev} {i : Nat} {S' : Nat → St} {E' : List Ev} (h : Par f V T S E i S' E') : E'.length ≤ E.length + i := by
  rw [h.2, List.length_append]
  have := flat_len (g := fun j => stepEv (f.R j) (S j) (grd f.R V j) T j) (fun j => stepEv_len _ _ _ _ _) i
  omega

theorem Par.next {f : Frm} {V : Nat → Int} {T : Int} {S : Nat → St} {E : List Ev} {i : Nat} {S' : Nat → St} {E' : List Ev} (h : Par f V T S E i S' E') {s : St} {l : List Ev} (hs : stepSt (f.R i) (S' i) (grd f.R V i) T = s ∧ stepEv (f.R i) (S' i) (grd f.R V i) T i = l) : Par f V T S E (i + 1) (upd S' i s) (E' ++ l) := by
  have hh := h.here
  rw [hh] at hs
  refine ⟨fun j => ?_, ?_⟩
  · by_cases e : j = i
    · subst e; rw [upd_same, if_pos (by omega)]; exact hs.1.symm
    · rw [upd_other _ _ e, h.1]
      by_cases hj : j < i
      · rw [if_pos hj, if_pos (by omega)]
      · rw [if_neg hj, if_neg (by omega)]
  · rw [h.2, List.range_succ, List.flatMap_append, List.append_assoc, ← hs.2]
    simp

theorem Par.same {f : Frm} {V : Nat → Int} {T : Int} {S : Nat → St} {E : List Ev} {i : Nat} {S' : Nat → St} {E' : List Ev} (h : Par f V T S E i S' E') (hs : stepSt (f.R i) (S' i) (grd f.R V i) T = S' i ∧ stepEv (f.R i) (S' i) (grd f.R V i) T i = []) : Par f V T S E (i + 1) S' E' := by
  have := h.next hs
  rw [List.append_nil] at this
  have e : upd S' i (S' i) = S' := by
    funext j
    by_cases e : j = i
    · subst e; rw [upd_same]
    · rw [upd_other _ _ e]
  rw [e] at this
  exact this

/-- What has turned, and the log's room. -/
def Gone (p : Pl) (vE vE' : Value) (w w' : World) : Prop := Chg (Own p vE) w w' ∧ Grew w vE vE'

theorem Gone.low {p : Pl} {vE vE' : Value} {w w1 w2 : World} (h : Gone p vE vE' w w1) (g : Below w1.heap.size w1 w2) : Gone p vE vE' w w2 := ⟨h.1.low g, h.2⟩

theorem Gone.setS {p : Pl} {vE vE' : Value} {w w1 : World} (h : Gone p vE vE' w w1) (q : Nat) (v : Value) : Gone p vE vE' w (w1.setCell ⟨p.bS, q, none⟩ v) := ⟨h.1.setCell _ _ (Or.inr (Or.inr (Or.inl rfl))), h.2⟩

theorem Gone.drew {p : Pl} {vE vE' : Value} {w w1 : World} (h : Gone p vE vE' w w1) : Gone p vE vE' w w1.drew := ⟨h.1.drew, h.2⟩

theorem Gone.drewN {p : Pl} {vE vE' : Value} {w w1 : World} (h : Gone p vE vE' w w1) (q : Nat) : Gone p vE vE' w (w1.drewN q) := ⟨h.1.drewN q, h.2⟩

theorem Gone.trans {p : Pl} {vE vE' vE2 : Value} {w w1 w2 : World} (h : Gone p vE vE' w w1) (g : Gone p vE' vE2 w1 w2) : Gone p vE vE2 w w2 := ⟨h.1.trans g.1 (Own.grew h.2), h.2.trans g.2 h.1.size⟩

/-- A row that is none of the world's own stands. -/
theorem Gone.row {p : Pl} {vE vE' : Value} {w w1 : World} (h : Gone p vE vE' w w1) {b t l : Nat} {g : Nat → Value} (hr : w.rowIs b t l g) (hb : ¬ Own p vE b) : w1.rowIs b t l g := hr.of_block (h.1.block b hr.lt hb)

end Go.Proofs.YtmofidaojmiepaaGreatDoor
