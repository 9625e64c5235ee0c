/-
  PLAIN MATHEMATICS: what cells need, levels, values that are what the rows say.
-/
import Derived.Test.YtmofidaojmiepaaDoorGW5
import Derived.Test.YtmofidaojmiepaaDoorGRing
import Derived.Deep.OwnRows
set_option linter.unusedVariables false
set_option linter.unusedSimpArgs false
namespace Go.Proofs.YtmofidaojmiepaaDoor

open Go.RowKit

/-- Cell i needs cell j. -/
def Ed (C : Nat → Cel) (n : Nat) (i j : Nat) : Prop :=
  i < n ∧ ((0 < M.needs (C i).kind ∧ (C i).a = j) ∨ (1 < M.needs (C i).kind ∧ (C i).b = j) ∨ (2 < M.needs (C i).kind ∧ (C i).c = j))

/-- A cell that may stand in a form of n cells. -/
def CellOk (c : Cel) (n : Nat) : Prop :=
  0 ≤ c.kind ∧ c.kind ≤ 12 ∧ KOk c ∧ (0 < M.needs c.kind → 0 ≤ c.a ∧ c.a < n) ∧ (1 < M.needs c.kind → 0 ≤ c.b ∧ c.b < n) ∧ (2 < M.needs c.kind → 0 ≤ c.c ∧ c.c < n)

def CellsOk (C : Nat → Cel) (n : Nat) : Prop := ∀ i, i < n → CellOk (C i) n

def NoRing (C : Nat → Cel) (n : Nat) : Prop := ∀ i, i < n → ¬ M.Ring (Ed C n) i

theorem ed_within {C : Nat → Cel} {n : Nat} (h : CellsOk C n) : M.Within (Ed C n) n := by
  intro i j ⟨hi, hj⟩
  obtain ⟨_, _, _, ha, hb, hc⟩ := h i hi
  rcases hj with ⟨p, e⟩ | ⟨p, e⟩ | ⟨p, e⟩
  · have := ha p; omega
  · have := hb p; omega
  · have := hc p; omega

/-- The cells that r rounds have worked out for sure. -/
def Lv (C : Nat → Cel) (n : Nat) : Nat → Nat → Prop
  | 0, _ => False
  | r + 1, i => ∀ j, Ed C n i j → Lv C n r j

theorem lv_all {C : Nat → Cel} {n : Nat} (hok : CellsOk C n) (hno : NoRing C n) {i : Nat} (hi : i < n) : Lv C n n i := by
  apply Classical.byContradiction
  intro h
  have step : ∀ r i, i < n → ¬ Lv C n (r + 1) i → ∃ j, Ed C n i j ∧ ¬ Lv C n r j := by
    intro r i _ h
    apply Classical.byContradiction
    intro g
    apply h
    intro j hj
    apply Classical.byContradiction
    intro hl
    exact g ⟨j, hj, hl⟩
  have build : ∀ s, s ≤ n → ∃ p : Nat → Nat, p 0 = i ∧ (∀ t, t ≤ s → p t < n) ∧ (∀ t, t < s → Ed C n (p t) (p (t + 1))) ∧ ¬ Lv C n (n - s) (p s) := by
    intro s
    induction s with
    | zero => exact fun _ => ⟨fun _ => i, rfl, fun _ _ => hi, fun t ht => by omega, h⟩
    | succ s ih =>
      intro hs
      obtain ⟨p, p0, pn, pe, pl⟩ := ih (by omega)
      rw [show n - s = (n - (s + 1)) + 1 by omega] at pl
      obtain ⟨j, j1, j2⟩ := step _ _ (pn s (Nat.le_refl _)) pl
      refine ⟨fun t => if t ≤ s then p t else j, by simp [p0], fun t ht => ?_, fun t ht => ?_, by simp only [show ¬ s + 1 ≤ s by omega, if_false]; exact j2⟩
      · by_cases e : t ≤ s
        · simp only [e, if_true]; exact pn t e
        · simp only [e, if_false]; exact ed_within hok _ _ j1
      · by_cases e : t = s
        · subst e; simp only [Nat.le_refl, if_true, show ¬ t + 1 ≤ t by omega, if_false]; exact j1
        · simp only [show t ≤ s by omega, show t + 1 ≤ s by omega, if_true]; exact pe t (by omega)
  obtain ⟨p, p0, pn, pe, _⟩ := build n (Nat.le_refl _)
  obtain ⟨a, b, hab, hb, hq⟩ := M.pigeon n p (fun t ht => pn t ht)
  have w := M.way_nodes pe (b - a) a (by omega)
  rw [show a + (b - a) = b by omega, ← hq] at w
  exact hno (p a) (pn a (by omega)) ⟨b - a, by omega, w⟩

/-- Each value is what its row says. -/
def LocalAt (C : Nat → Cel) (n : Nat) (week : Int) (hol : List Int) (now : Int) (V : Nat → Int) (i : Nat) : Prop :=
  CRel week hol now (C i) (pk V n (C i).a) (pk V n (C i).b) (pk V n (C i).c) (V i)

def LocalEq (C : Nat → Cel) (n : Nat) (week : Int) (hol : List Int) (now : Int) (V : Nat → Int) : Prop := ∀ i, i < n → LocalAt C n week hol now V i

theorem pk_eq {V V' : Nat → Int} {n : Nat} {a : Int} (h : ∀ j : Nat, a = j → j < n → V j = V' j) : pk V n a = pk V' n a := by
  unfold pk
  split
  · exact h _ (by omega) (by omega)
  · rfl

theorem local_unique {C : Nat → Cel} {n : Nat} {week : Int} {hol : List Int} {now : Int} {V V' : Nat → Int} (hok : CellsOk C n) (hno : NoRing C n) (h : LocalEq C n week hol now V) (g : LocalEq C n week hol now V') : ∀ i, i < n → V i = V' i := by
  intro i0 h0
  apply Classical.byContradiction
  intro hne
  obtain ⟨i, ⟨hi, hd⟩, hs⟩ := M.progress hno (fun i => i < n ∧ V i ≠ V' i) (fun i hi => hi.1) ⟨h0, hne⟩
  apply hd
  have same : ∀ j, Ed C n i j → j < n → V j = V' j := fun j hj hn => Classical.byContradiction fun e => hs j hj ⟨hn, e⟩
  obtain ⟨k0, k1, _⟩ := hok i hi
  exact CRel.unique (h i hi) (g i hi) k0 k1 (fun p => pk_eq fun j e hj => same j ⟨hi, Or.inl ⟨p, e⟩⟩ hj) (fun p => pk_eq fun j e hj => same j ⟨hi, Or.inr (Or.inl ⟨p, e⟩)⟩ hj) (fun p => pk_eq fun j e hj => same j ⟨hi, Or.inr (Or.inr ⟨p, e⟩)⟩ hj)

/-- A state of the work: what is done is what its row says, and so is what it needs. -/
structure Done (C : Nat → Cel) (n : Nat) (week : Int) (hol : List Int) (now : Int) (V : Nat → Int) (D : Nat → Bool) : Prop where
  val : ∀ i, i < n → IsV (V i)
  eq : ∀ i, i < n → D i = true → LocalAt C n week hol now V i
  need : ∀ i j, i < n → D i = true → Ed C n i j → D j = true

theorem done_start (C : Nat → Cel) (n : Nat) (week : Int) (hol : List Int) (now : Int) : Done C n week hol now (fun _ => 0) (fun _ => false) :=
  ⟨fun _ _ => ⟨by omega, by omega⟩, fun _ _ h => (by cases h), fun _ _ _ h => (by cases h)⟩

def upd {α : Type} (f : Nat → α) (i : Nat) (v : α) : Nat → α := fun j => if j = i then v else f j

theorem upd_same {α : Type} (f : Nat → α) (i : Nat) (v : α) : upd f i v i = v := if_pos rfl

theorem upd_other {α : Type} (f : Nat → α) {i j : Nat} (v : α) (h : j ≠ i) : upd f i v j = f j := if_neg h

/-- One cell more is worked out. -/
theorem Done.step {C : Nat → Cel} {n : Nat} {week : Int} {hol : List Int} {now : Int} {V : Nat → Int} {D : Nat → Bool} (h : Done C n week hol now V D) (hok : CellsOk C n) {i : Nat} (hi : i < n) (hD : D i = false) (hn : ∀ j, Ed C n i j → D j = true) {v : Int}
    (hv : CRel week hol now (C i) (pk V n (C i).a) (pk V n (C i).b) (pk V n (C i).c) v) (n0 : 0 ≤ now) (n1 : now ≤ 1000000000) : Done C n week hol now (upd V i v) (upd D i true) := by
  obtain ⟨k0, k1, kk, _⟩ := hok i hi
  have hiv : IsV v := CRel.isV hv k0 k1 kk n0 n1 (pk_v h.val _) (pk_v h.val _) (pk_v h.val _)
  have old : ∀ k, k < n → (k = i ∨ D k = true) → ∀ j, Ed C n k j → j ≠ i := by
    intro k hk hd j hj e
    subst e
    rcases hd with hd | hd
    · subst hd; have := hn _ hj; rw [hD] at this; cases this
    · have := h.need k j hk hd hj; rw [hD] at this; cases this
  refine ⟨fun k hk => ?_, fun k hk hd => ?_, fun k j hk hd hj => ?_⟩
  · by_cases e : k = i
    · subst e; rw [upd_same]; exact hiv
    · rw [upd_other _ _ e]; exact h.val k hk
  · have hd' : k = i ∨ D k = true := by
      by_cases e : k = i
      · exact Or.inl e
      · rw [upd_other _ _ e] at hd; exact Or.inr hd
    have o := old k hk hd'
    have pq : ∀ {a : Int}, (∀ j : Nat, a = j → Ed C n k j) → pk V n a = pk (upd V i v) n a := fun hh => pk_eq fun j e _ => (upd_other V v (o j (hh j e))).symm
    unfold LocalAt
    have base : CRel week hol now (C k) (pk V n (C k).a) (pk V n (C k).b) (pk V n (C k).c) (upd V i v k) := by
      by_cases e : k = i
      · subst e; rw [upd_same]; exact hv
      · rw [upd_other _ _ e]
        rcases hd' with hd' | hd'
        · exact (e hd').elim
        · exact h.eq k hk hd'
    exact CRel.congr base (fun p => pq fun j e => ⟨hk, Or.inl ⟨p, e⟩⟩) (fun p => pq fun j e => ⟨hk, Or.inr (Or.inl ⟨p, e⟩)⟩) (fun p => pq fun j e => ⟨hk, Or.inr (Or.inr ⟨p, e⟩)⟩)
  · by_cases e : j = i
    · subst e; exact upd_same _ _ _
    · rw [upd_other _ _ e]
      by_cases e2 : k = i
      · subst e2; exact hn j hj
      · rw [upd_other _ _ e2] at hd; exact h.need k j hk hd hj

end Go.Proofs.YtmofidaojmiepaaDoor

/-
  THE WALKS: what a cell needs, in the code; is it ready?
-/
set_option linter.unusedVariables false
set_option linter.unusedSimpArgs false
namespace Go.Proofs.YtmofidaojmiepaaDoor

open Go.RowKit

/-- The table of package kind, as it is laid. -/
def Tab (w : World) : Prop := 0 < w.heap.size ∧ ∀ i : Nat, i < 13 → w.cell? ⟨0, i, none⟩ = some (.int .i64 (M.needs i))

theorem Tab.below {B : Nat} {w w' : World} (h : Tab w) (hb : Below B w w') (hB : w.heap.size ≤ B) : Tab w' :=
  ⟨by have := hb.size; have := h.1; omega, fun i hi => by rw [hb.cell (p := ⟨0, i, none⟩) (by have := h.1; show 0 < B; omega)]; exact h.2 i hi⟩

/-- How many it needs; none, if there is no such kind. -/
def need0 (k : Int) : Int := if 0 ≤ k ∧ k < 13 then M.needs k else 0

theorem need0_bd (k : Int) : 0 ≤ need0 k ∧ need0 k ≤ 3 := by
  unfold need0
  split
  · unfold M.needs; repeat' split
    all_goals omega
  · omega

set_option maxHeartbeats 400000 in
theorem pneeds_any (k : Int) (w : World) (ht : Tab w) : Calls Tryd.prog 97 #[.int .i64 k] w fun e w' => e = .returned (.int .i64 (need0 k)) ∧ w' = w := by
  have HT : Hid _ := ht
  clear ht
  by_cases c : 0 ≤ k ∧ k < 13
  · obtain ⟨c1, c2⟩ := c
    obtain ⟨m, rfl⟩ := Int.eq_ofNat_of_zero_le c1
    have hv : Hid (need0 m = M.needs m) := if_pos ⟨c1, c2⟩
    have hkn : Hid (M.knownB m = true) := by show M.knownB m = true; simp [M.knownB]; omega
    have hx := HT.out.2 m (by omega)
    generalize M.needs m = x at *
    go_enter Tryd.func97, Tryd.ntmps97
    go_wp2_with (go_at_call 94; refine (known_any _ _).mono ?_; rintro e w1 ⟨rfl, rfl⟩; rw [hkn.out])
    go_ret
    exact ⟨ret_int hv.out.symm, rfl⟩
  · have hv : Hid (need0 k = 0) := if_neg c
    have hkn : Hid (M.knownB k = false) := by show M.knownB k = false; simp [M.knownB]; omega
    go_enter Tryd.func97, Tryd.ntmps97
    go_wp2_with (go_at_call 94; refine (known_any _ _).mono ?_; rintro e w1 ⟨rfl, rfl⟩; rw [hkn.out])
    go_ret
    exact ⟨ret_int hv.out.symm, rfl⟩

/-- What stands in A, B or C. -/
def needp (c : Cel) (p : Nat) : Int := if p = 0 then c.a else if p = 1 then c.b else c.c

set_option maxHeartbeats 400000 in
theorem pneed_any (kd a b c k : Int) (p : Nat) (w : World) (hp : p ≤ 3) : Calls Tryd.prog 98 #[.agg #[.int .i64 kd, .int .i64 a, .int .i64 b, .int .i64 c, .int .i64 k], .int .i64 p] w fun e w' => e = .returned (.int .i64 (needp ⟨kd, a, b, c, k⟩ p)) ∧ Below w.heap.size w w' := by
  by_cases p0 : p = 0
  · subst p0
    go_enter Tryd.func98, Tryd.ntmps98
    go_wp2
    go_ret
    exact ⟨rfl, (Below.refl _ _).alloc (Nat.le_refl _) _⟩
  · by_cases p1 : p = 1
    · subst p1
      go_enter Tryd.func98, Tryd.ntmps98
      go_wp2
      go_ret
      exact ⟨rfl, (Below.refl _ _).alloc (Nat.le_refl _) _⟩
    · have t0 : ((p : Int) == 0) = false := beq_eq_false_iff_ne.2 (by omega)
      have t1 : ((p : Int) == 1) = false := beq_eq_false_iff_ne.2 (by omega)
      have hv : Hid (needp ⟨kd, a, b, c, k⟩ p = c) := by show needp ⟨kd, a, b, c, k⟩ p = c; unfold needp; rw [if_neg p0, if_neg p1]
      clear p0 p1
      go_enter Tryd.func98, Tryd.ntmps98
      go_wp2
      go_ret
      exact ⟨ret_int hv.out.symm, (Below.refl _ _).alloc (Nat.le_refl _) _⟩

/-- Are all that it needs done? -/
def readyB (c : Cel) (n : Nat) (D : Nat → Bool) : Prop := ∀ p : Nat, (p : Int) < need0 c.kind → 0 ≤ needp c p ∧ needp c p < n ∧ D (needp c p).toNat = true

theorem ready_ed {C : Nat → Cel} {n i : Nat} (hi : i < n) (hok : CellsOk C n) {D : Nat → Bool} : readyB (C i) n D ↔ ∀ j, Ed C n i j → D j = true := by
  obtain ⟨k0, k1, _, ha, hb, hc⟩ := hok i hi
  have e : need0 (C i).kind = M.needs (C i).kind := if_pos ⟨k0, by omega⟩
  have bd := need0_bd (C i).kind
  unfold readyB
  rw [e] at *
  constructor
  · intro h j ⟨_, hj⟩
    rcases hj with ⟨p, q⟩ | ⟨p, q⟩ | ⟨p, q⟩
    · have := (h 0 (by omega)).2.2
      rw [show needp (C i) 0 = (C i).a from rfl, q] at this; exact this
    · have := (h 1 (by omega)).2.2
      rw [show needp (C i) 1 = (C i).b from rfl, q] at this; exact this
    · have := (h 2 (by omega)).2.2
      rw [show needp (C i) 2 = (C i).c from rfl, q] at this; exact this
  · intro h p hp
    have hp3 : p = 0 ∨ p = 1 ∨ p = 2 := by omega
    rcases hp3 with rfl | rfl | rfl
    · obtain ⟨a0, a1⟩ := ha (by omega)
      exact ⟨a0, a1, h _ ⟨hi, Or.inl ⟨by omega, by show (C i).a = (((C i).a).toNat : Int); omega⟩⟩⟩
    · obtain ⟨a0, a1⟩ := hb (by omega)
      exact ⟨a0, a1, h _ ⟨hi, Or.inr (Or.inl ⟨by omega, by show (C i).b = (((C i).b).toNat : Int); omega⟩)⟩⟩
    · obtain ⟨a0, a1⟩ := hc (by omega)
      exact ⟨a0, a1, h _ ⟨hi, Or.inr (Or.inr ⟨by omega, by show (C i).c = (((C i).c).toNat : Int); omega⟩)⟩⟩

set_option maxHeartbeats 800000 in
theorem ready_any (kd a b c k : Int) (bd n cap : Nat) (D : Nat → Bool) (w : World) (ht : Tab w) (hl : n ≤ 20) (hbd : bd < w.heap.size) (hD : ∀ j, j < n → w.cell? ⟨bd, j, none⟩ = some (.bool (D j))) :
    Calls Tryd.prog 89 #[.agg #[.int .i64 kd, .int .i64 a, .int .i64 b, .int .i64 c, .int .i64 k], .slice (some ⟨bd, 0, none⟩) n cap] w
      fun e w' => ∃ r, e = .returned (.bool r) ∧ (r = true ↔ readyB ⟨kd, a, b, c, k⟩ n D) ∧ Below w.heap.size w w' := by
  have HT : Hid _ := ht
  have HD : Hid _ := hD
  clear ht hD
  obtain ⟨q1, q2⟩ := need0_bd kd
  obtain ⟨q, hq⟩ := Int.eq_ofNat_of_zero_le q1
  have HQ : Hid (need0 kd = (q : Int)) := hq
  rw [hq] at q1 q2
  clear hq
  go_enter Tryd.func89, Tryd.ntmps89
  go_wp2_with fail
  refine (pneeds_any _ _ (Tab.below HT.out ((Below.refl _ _).alloc (Nat.le_refl _) _) (Nat.le_refl _))).mono ?_
  rintro e w1 ⟨rfl, rfl⟩
  rw [HQ.out]
  go_wp2
  go_loopw [6] (fun t wr => ∃ p : Nat, p ≤ q ∧ t = .int .i64 p ∧ Hid (∀ p' : Nat, p' < p → 0 ≤ needp ⟨kd, a, b, c, k⟩ p' ∧ needp ⟨kd, a, b, c, k⟩ p' < n ∧ D (needp ⟨kd, a, b, c, k⟩ p').toNat = true) ∧ Below (w.heap.size + 1) (w.alloc (.cells #[.int .i64 kd, .int .i64 a, .int .i64 b, .int .i64 c, .int .i64 k] 82)) wr) (fun t _ => q - (intOf t).toNat)
  case atStart => exact ⟨0, by omega, rfl, fun p' hp => by omega, Below.refl _ _⟩
  case round =>
    obtain ⟨p, p1, rfl, hp, hb⟩ := hrel
    by_cases hlt : p < q
    · have c0 := boxed hb 0
      have c1 := boxed hb 1
      have c2 := boxed hb 2
      have c3 := boxed hb 3
      have c4 := boxed hb 4
      simp at c0 c1 c2 c3 c4
      have hsz := hb.size
      simp at hsz
      have HB : Hid _ := hb
      clear hb
      go_wp2_with fail
      refine (pneed_any kd a b c k p _ (by omega)).mono ?_
      rintro e w1 ⟨rfl, hb1⟩
      have HB1 : Hid (Below (w.heap.size + 1) (w.alloc (.cells #[.int .i64 kd, .int .i64 a, .int .i64 b, .int .i64 c, .int .i64 k] 82)) w1) := HB.out.trans (hb1.mono (by omega))
      have HW : Hid (Below w.heap.size w w1) := boxed_below HB1.out
      clear hb1 c0 c1 c2 c3 c4
      have nx : Hid (0 ≤ needp ⟨kd, a, b, c, k⟩ p ∧ needp ⟨kd, a, b, c, k⟩ p < n → D (needp ⟨kd, a, b, c, k⟩ p).toNat = true → ∀ p' : Nat, p' < p + 1 → 0 ≤ needp ⟨kd, a, b, c, k⟩ p' ∧ needp ⟨kd, a, b, c, k⟩ p' < n ∧ D (needp ⟨kd, a, b, c, k⟩ p').toNat = true) := fun h1 h2 p' hp' => by
        by_cases e : p' = p
        · subst e; exact ⟨h1.1, h1.2, h2⟩
        · exact hp.out p' (by omega)
      have no : Hid (¬ (0 ≤ needp ⟨kd, a, b, c, k⟩ p ∧ needp ⟨kd, a, b, c, k⟩ p < n ∧ D (needp ⟨kd, a, b, c, k⟩ p).toNat = true) → (false = true ↔ readyB ⟨kd, a, b, c, k⟩ n D)) := fun h => ⟨fun e => (by cases e), fun g => (h (g p (by rw [HQ.out]; omega))).elim⟩
      generalize needp ⟨kd, a, b, c, k⟩ p = x at *
      by_cases x0 : 0 ≤ x
      · obtain ⟨y, rfl⟩ := Int.eq_ofNat_of_zero_le x0
        by_cases x1 : y < n
        · have hcell : w1.cell? ⟨bd, y, none⟩ = some (.bool (D y)) := by rw [HW.out.cell (p := ⟨bd, y, none⟩) hbd]; exact HD.out y x1
          cases hd : D y
          · rw [hd] at hcell
            have NO : Hid _ := no.out (fun h => by rw [Int.toNat_natCast, hd] at h; cases h.2.2)
            clear hd
            go_wp2
            go_ret
            exact ⟨_, rfl, NO.out, HW.out⟩
          · rw [hd] at hcell
            have NX : Hid _ := nx.out ⟨by omega, by omega⟩ (by rw [Int.toNat_natCast]; exact hd)
            clear hd
            go_wp2
            go_roundw
            case rel => exact ⟨p + 1, by omega, by go_num, NX, HB1⟩
            case measure => simp [intOf]; omega
        · have NO : Hid _ := no.out (fun h => by omega)
          go_wp2
          go_ret
          exact ⟨_, rfl, NO.out, HW.out⟩
      · have NO : Hid _ := no.out (fun h => by omega)
        go_wp2
        go_ret
        exact ⟨_, rfl, NO.out, HW.out⟩
    · have HB : Hid _ := hb
      clear hb
      go_wp2
      go_ret
      exact ⟨_, rfl, ⟨fun _ p' hp' => hp.out p' (by rw [HQ.out] at hp'; omega), fun _ => rfl⟩, boxed_below HB.out⟩

end Go.Proofs.YtmofidaojmiepaaDoor
