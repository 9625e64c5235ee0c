/-
  THE WALKS: the document's Check, whole.
-/
import Derived.Test.YtmofidaojmiepaaGreatDoorGW14
set_option linter.unusedVariables false
set_option linter.unusedSimpArgs false
namespace Go.Proofs.YtmofidaojmiepaaGreatDoor

open Go.RowKit

abbrev formV (aC aR aH : Option Addr) (nC cC nR cR nH cH : Nat) (week : Int) : Value := .agg #[.slice aC nC cC, .slice aR nR cR, .int .i64 week, .slice aH nH cH]

end Go.Proofs.YtmofidaojmiepaaGreatDoor

/-
  THE WALKS: the code's check: rows of numbers, cells.
-/
set_option linter.unusedVariables false
set_option linter.unusedSimpArgs false
namespace Go.Proofs.YtmofidaojmiepaaGreatDoor

open Go.RowKit

/-- What the finders answer: the first, and whether there is one. -/
def PlPost (P : Nat → Prop) (n : Nat) (w : World) (e : Ending) (w' : World) : Prop :=
  ∃ r, First P n r ∧ ((r < n ∧ e = .returned (.tuple #[.int .i64 r, .bool true])) ∨ (r = n ∧ e = .returned (.tuple #[.int .i64 0, .bool false]))) ∧ Below w.heap.size w w'

theorem pl_yes {P : Nat → Prop} {n : Nat} {w w' : World} {r : Nat} (h : r < n) (h1 : ∀ j, j < r → ¬ P j) (h2 : P r) (hb : Below w.heap.size w w') : PlPost P n w (.returned (.tuple #[.int .i64 r, .bool true])) w' :=
  ⟨r, ⟨by omega, h1, fun _ => h2⟩, Or.inl ⟨h, rfl⟩, hb⟩

theorem pl_no {P : Nat → Prop} {n : Nat} {w w' : World} (h1 : ∀ j, j < n → ¬ P j) (hb : Below w.heap.size w w') : PlPost P n w (.returned (.tuple #[.int .i64 0, .bool false])) w' :=
  ⟨n, ⟨by omega, h1, fun h => by omega⟩, Or.inr ⟨rfl, rfl⟩, hb⟩

def lowAt (l : List Int) (lo : Int) (k : Nat) : Int := if k = 0 then lo else l.getD (k - 1) 0 + 1

theorem bad_low {l : List Int} {lo hi : Int} {k : Nat} (hk : k < l.length) (h : ∀ j, j < k → ¬ BadAt l lo hi j) : BadAt l lo hi k ↔ (l.getD k 0 < lowAt l lo k ∨ hi < l.getD k 0) := by
  unfold BadAt lowAt
  by_cases k0 : k = 0
  · subst k0; simp
  · rw [if_neg k0]
    have hp := h (k - 1) (by omega)
    unfold BadAt at hp
    constructor <;> (intro g; omega)

theorem low_bd {l : List Int} {lo hi : Int} {k : Nat} (hk : k ≤ l.length) (h : ∀ j, j < k → ¬ BadAt l lo hi j) (h0 : 0 ≤ lo) (h1 : lo ≤ hi) : 0 ≤ lowAt l lo k ∧ lowAt l lo k ≤ hi + 1 := by
  unfold lowAt
  split
  · omega
  · have hp := h (k - 1) (by omega)
    unfold BadAt at hp
    omega

set_option maxHeartbeats 800000 in
theorem inRow_any (l : List Int) (a : Option Addr) (cap : Nat) (lo hi : Int) (w : World) (hl : l.length ≤ 1000) (h0 : 0 ≤ lo) (h1 : lo ≤ hi) (h2 : hi ≤ 1000000000) (hc : IntsAt w (.slice a l.length cap) l) :
    Calls Tryz.prog 51 #[.slice a l.length cap, .int .i64 lo, .int .i64 hi] w fun e w' => PlPost (BadAt l lo hi) l.length w e w' := by
  have HC := (show Hid _ from IntsAt.cases hc)
  clear hc
  go_enter Tryz.func51, Tryz.ntmps51
  go_wp2
  go_loop [1, 12] (fun s t => ∃ k : Nat, k ≤ l.length ∧ t = .int .i64 k ∧ s = .int .i64 (lowAt l lo k) ∧ Hid (∀ j, j < k → ¬ BadAt l lo hi j)) (fun _ t => l.length - (intOf t).toNat)
  case atStart => exact ⟨0, by omega, rfl, rfl, fun j hj => by omega⟩
  case round =>
    obtain ⟨k, k1, rfl, rfl, hk⟩ := hrel
    by_cases hlt : k < l.length
    · rcases HC.out with h0 | ⟨b, off, rfl, hb, hcell⟩
      · omega
      have hx := hcell k hlt
      have HB := hid (bad_low hlt hk.out)
      have HLN : Hid (lowAt l lo (k + 1) = l.getD k 0 + 1) := by show lowAt l lo (k + 1) = _; unfold lowAt; rw [if_neg (by omega)]; rfl
      have bd := low_bd k1 hk.out h0 h1
      clear hcell
      generalize l.getD k 0 = x at *
      generalize lowAt l lo k = y at *
      by_cases c1 : x < y
      · have R := hid (HB.out.2 (Or.inl c1))
        go_wp2
        go_ret2
        exact pl_yes hlt hk.out R.out (Below.refl _ _)
      · by_cases c2 : hi < x
        · have R := hid (HB.out.2 (Or.inr c2))
          go_wp2
          go_ret2
          exact pl_yes hlt hk.out R.out (Below.refl _ _)
        · have R : Hid (∀ j, j < k + 1 → ¬ BadAt l lo hi j) := fun j hj g => by
            by_cases e : j = k
            · subst e; have := HB.out.1 g; omega
            · exact hk.out j (by omega) g
          go_wp2
          go_round
          case rel => exact ⟨k + 1, by omega, by go_num, by rw [HLN.out], R⟩
          case measure => simp [intOf]; omega
    · obtain rfl : k = l.length := by omega
      go_wp2
      go_ret2
      exact pl_no hk.out (Below.refl _ _)

set_option maxHeartbeats 800000 in
theorem needsExist_any (kd a b c k : Int) (n : Nat) (w : World) (ht : Tab w) (hn : n ≤ 20) :
    Calls Tryz.prog 54 #[.agg #[.int .i64 kd, .int .i64 a, .int .i64 b, .int .i64 c, .int .i64 k], .int .i64 n] w fun e w' => BoolPost (∀ p : Nat, (p : Int) < need0 kd → 0 ≤ needp ⟨0, a, b, c, 0⟩ p ∧ needp ⟨0, a, b, c, 0⟩ p < n) w e w' := by
  have HT := hid ht
  clear ht
  obtain ⟨q1, q2⟩ := need0_bd kd
  obtain ⟨q, hq⟩ := Int.eq_ofNat_of_zero_le q1
  have HQ : Hid (need0 kd = (q : Int)) := hq
  rw [hq] at q1 q2
  clear hq
  rw [HQ.out]
  go_enter Tryz.func54, Tryz.ntmps54
  go_wp2_with fail
  refine (pneeds_any _ _ (Tab.below HT.out ((Below.refl _ _).alloc (Nat.le_refl _) _) (Nat.le_refl _))).mono ?_
  rintro e w1 ⟨rfl, rfl⟩
  rw [HQ.out]
  go_wp2
  go_loopw [6] (fun t wr => ∃ p : Nat, p ≤ q ∧ t = .int .i64 p ∧ Hid (∀ p' : Nat, p' < p → 0 ≤ needp ⟨0, a, b, c, 0⟩ p' ∧ needp ⟨0, a, b, c, 0⟩ p' < n) ∧ Hid (Below (w.heap.size + 1) (w.alloc (.cells #[.int .i64 kd, .int .i64 a, .int .i64 b, .int .i64 c, .int .i64 k] 47)) wr)) (fun t _ => q - (intOf t).toNat)
  case atStart => exact ⟨0, by omega, rfl, fun p' hp => by omega, Below.refl _ _⟩
  case round =>
    obtain ⟨p, p1, rfl, hp, hb⟩ := hrel
    by_cases hlt : p < q
    · have c0 := boxed hb.out 0
      have c1 := boxed hb.out 1
      have c2 := boxed hb.out 2
      have c3 := boxed hb.out 3
      have c4 := boxed hb.out 4
      simp at c0 c1 c2 c3 c4
      have hsz := hb.out.size
      simp at hsz
      go_wp2_with fail
      refine (pneed_any kd a b c k p _ (by omega)).mono ?_
      rintro e w1 ⟨rfl, hb1⟩
      have HB1 : Hid (Below (w.heap.size + 1) (w.alloc (.cells #[.int .i64 kd, .int .i64 a, .int .i64 b, .int .i64 c, .int .i64 k] 47)) w1) := hb.out.trans (hb1.mono (by omega))
      clear hb1 c0 c1 c2 c3 c4
      rw [needp_eq]
      have NX : Hid (0 ≤ needp ⟨0, a, b, c, 0⟩ p ∧ needp ⟨0, a, b, c, 0⟩ p < n → ∀ p' : Nat, p' < p + 1 → 0 ≤ needp ⟨0, a, b, c, 0⟩ p' ∧ needp ⟨0, a, b, c, 0⟩ p' < n) := fun h p' hp' => by
        by_cases e : p' = p
        · subst e; exact h
        · exact hp.out p' (by omega)
      have NO : Hid (¬ (0 ≤ needp ⟨0, a, b, c, 0⟩ p ∧ needp ⟨0, a, b, c, 0⟩ p < n) → ¬ ∀ p : Nat, (p : Int) < q → 0 ≤ needp ⟨0, a, b, c, 0⟩ p ∧ needp ⟨0, a, b, c, 0⟩ p < n) := fun h g => h (g p (by omega))
      generalize needp ⟨0, a, b, c, 0⟩ p = x at *
      by_cases x0 : x < 0
      · have R := hid (NO.out (fun h => by omega))
        go_wp2
        go_ret
        exact bp_no R.out (boxed_below HB1.out)
      · by_cases x1 : (n : Int) ≤ x
        · have R := hid (NO.out (fun h => by omega))
          go_wp2
          go_ret
          exact bp_no R.out (boxed_below HB1.out)
        · have R := hid (NX.out ⟨by omega, by omega⟩)
          go_wp2
          go_roundw
          case rel => exact ⟨p + 1, by omega, by go_num, R, HB1⟩
          case measure => simp [intOf]; omega
    · go_wp2
      go_ret
      exact bp_yes (fun p' hp' => hp.out p' (by omega)) (boxed_below hb.out)

theorem cellOk_code {c : Cel} {n : Nat} : CellOk c n ↔ (M.knownB c.kind = true ∧ M.allowsB c.kind c.k = true ∧ ∀ p : Nat, (p : Int) < need0 c.kind → 0 ≤ needp ⟨0, c.a, c.b, c.c, 0⟩ p ∧ needp ⟨0, c.a, c.b, c.c, 0⟩ p < n) := by
  have hk : M.knownB c.kind = true ↔ 0 ≤ c.kind ∧ c.kind ≤ 12 := by unfold M.knownB; simp; omega
  have ha : M.allowsB c.kind c.k = true ↔ KOk c := allows_iff
  rw [hk, ha, cellOk_iff]
  have hn : 0 ≤ M.needs c.kind ↔ 0 ≤ c.kind ∧ c.kind ≤ 12 := by
    unfold M.needs; repeat' split
    all_goals omega
  constructor
  · intro ⟨h1, h2, h3⟩
    have e : need0 c.kind = M.needs c.kind := if_pos ⟨(hn.1 h1).1, by have := (hn.1 h1).2; omega⟩
    exact ⟨hn.1 h1, h3, fun p hp => h2 p (by rw [← e]; exact hp)⟩
  · intro ⟨h1, h2, h3⟩
    have e : need0 c.kind = M.needs c.kind := if_pos ⟨h1.1, by have := h1.2; omega⟩
    exact ⟨hn.2 h1, fun p hp => h3 p (by rw [e]; exact hp), h2⟩

set_option maxHeartbeats 1000000 in
theorem wrongCell_any (bC oC n cC : Nat) (C : Nat → Cel) (w : World) (ht : Tab w) (hn : n ≤ 20) (hbc : bC < w.heap.size) (hcs : ∀ m, m < n → CelIs w bC (oC + m * 5) (C m)) :
    Calls Tryz.prog 37 #[.slice (some ⟨bC, oC, none⟩) n cC] w fun e w' => PlPost (fun i => ¬ CellOk (C i) n) n w e w' := by
  have HT := hid ht
  have HCS := hid hcs
  clear ht hcs
  go_enter Tryz.func37, Tryz.ntmps37
  go_wp2
  go_loopw [8] (fun t wr => ∃ m : Nat, m ≤ n ∧ t = .int .i64 m ∧ Hid (∀ j, j < m → ¬ ¬ CellOk (C j) n) ∧ Hid (Below w.heap.size w wr)) (fun t _ => n - (intOf t).toNat)
  case atStart => exact ⟨0, by omega, rfl, fun j hj => by omega, Below.refl _ _⟩
  case round =>
    obtain ⟨m, m1, rfl, hm, hb⟩ := hrel
    by_cases hmt : m < n
    · obtain ⟨g0, g1, g2, g3, g4⟩ := CelIs.below (HCS.out m hmt) hb.out hbc
      have HI := hid (cellOk_code (c := C m) (n := n))
      rcases hC : C m with ⟨kd, ca, cb, cc, ck⟩
      have HCm := hid hC
      rw [hC] at g0 g1 g2 g3 g4 HI
      simp only at g0 g1 g2 g3 g4 HI
      clear hC
      have hba : Hid (∀ o, Below w.heap.size w (wr.alloc o)) := fun o => hb.out.alloc hb.out.size o
      have NO : Hid (¬ CellOk ⟨kd, ca, cb, cc, ck⟩ n → ¬ CellOk (C m) n) := by rw [HCm.out]; exact id
      have YE : Hid (CellOk ⟨kd, ca, cb, cc, ck⟩ n → ∀ j, j < m + 1 → ¬ ¬ CellOk (C j) n) := fun h j hj => by
        by_cases e : j = m
        · subst e; rw [HCm.out]; exact fun g => g h
        · exact hm.out j (by omega)
      cases hkn : M.knownB kd
      · have R := hid (NO.out (fun h => by have := (HI.out.1 h).1; rw [hkn] at this; cases this))
        have HKN := hid hkn
        clear hkn
        go_wp2_with fail
        refine (known_any _ _).mono ?_
        rintro e w1 ⟨rfl, rfl⟩
        rw [HKN.out]
        go_wp2
        go_ret2
        exact pl_yes hmt hm.out R.out (hba.out _)
      have HKN := hid hkn
      clear hkn
      cases hal : M.allowsB kd ck
      · have R := hid (NO.out (fun h => by have := (HI.out.1 h).2.1; rw [hal] at this; cases this))
        have HAL := hid hal
        clear hal
        go_wp2_with fail
        refine (known_any _ _).mono ?_
        rintro e w1 ⟨rfl, rfl⟩
        rw [HKN.out]
        go_wp2_with fail
        refine (pallows_any _ _ _).mono ?_
        rintro e w1 ⟨rfl, rfl⟩
        rw [HAL.out]
        go_wp2
        go_ret2
        exact pl_yes hmt hm.out R.out (hba.out _)
      have HAL := hid hal
      clear hal
      go_wp2_with fail
      refine (known_any _ _).mono ?_
      rintro e w1 ⟨rfl, rfl⟩
      rw [HKN.out]
      go_wp2_with fail
      refine (pallows_any _ _ _).mono ?_
      rintro e w1 ⟨rfl, rfl⟩
      rw [HAL.out]
      go_wp2_with fail
      refine (needsExist_any kd ca cb cc ck n _ (Tab.below HT.out (hba.out _) (Nat.le_refl _)) hn).mono ?_
      rintro e w1 ⟨q, rfl, hq, hb1⟩
      have HB1 : Hid (Below w.heap.size w w1) := (hba.out _).trans (hb1.mono (by have := hb.out.size; simp; omega))
      have HQ := hid hq
      clear hq hb1
      cases q
      · have R := hid (NO.out (fun h => by have := HQ.out.2 (HI.out.1 h).2.2; cases this))
        go_wp2
        go_ret2
        exact pl_yes hmt hm.out R.out HB1.out
      · have R := hid (YE.out (HI.out.2 ⟨HKN.out, HAL.out, HQ.out.1 rfl⟩))
        go_wp2
        go_roundw
        case rel => exact ⟨m + 1, by omega, by go_num, R, HB1⟩
        case measure => simp [intOf]; omega
    · obtain rfl : m = n := by omega
      go_wp2
      go_ret2
      exact pl_no hm.out hb.out

end Go.Proofs.YtmofidaojmiepaaGreatDoor
