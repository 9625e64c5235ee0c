/-
  THE CODE: when a cell turns.
-/
import Derived.Test.YtbkdmibggjjnmaaGreatDoorD10
import Derived.Test.YtbkdmibggjjnmaaGreatDoorK1
import Derived.Test.YtbkdmibggjjnmaaGreatDoorW19
set_option linter.unusedVariables false
set_option linter.unusedSimpArgs false
namespace Go.Proofs.YtbkdmibggjjnmaaGreatDoor
open Go.RowKit
attribute [local go_sem ↓] Go.wp_at_zero Go.wp_at_succ

theorem next_unit {x k T : Int} (hk : 1 ≤ k) (h : ¬ T < x) : T + k - (T - x) % k = x + (ageAt x k T + 1) * k := by
  unfold ageAt
  rw [if_neg h, Int.add_mul, Int.one_mul]
  have := Int.mul_ediv_add_emod (T - x) k
  rw [Int.mul_comm] at this
  omega

theorem nextUnit_any (x k T : Int) (w : World) (h1 : IsV x) (h2 : 1 ≤ k) (h3 : k ≤ 1000000000) (h4 : 0 ≤ T) (h5 : T ≤ 1000000000) :
    Calls Tryz.prog 108 #[.int .i64 x, .int .i64 k, .int .i64 T] w fun e w' => e = .returned (.tuple #[.int .i64 (x + (ageAt x k T + 1) * k), .bool true]) ∧ w' = w := by
  obtain ⟨x1, x2⟩ := h1
  by_cases h : T < x
  · rw [show x + (ageAt x k T + 1) * k = x + k by unfold ageAt; rw [if_pos h]; omega]
    go_enter Tryz.func108, Tryz.ntmps108
    go_wp2
    go_ret2
    simp
  · rw [← next_unit h2 h]
    have m1 := Int.emod_nonneg (T - x) (show k ≠ 0 by omega)
    have m2 := Int.emod_lt_of_pos (T - x) (show 0 < k by omega)
    have m3 : (T - x).tmod k = (T - x) % k := Int.tmod_eq_emod_of_nonneg (by omega)
    go_enter Tryz.func108, Tryz.ntmps108
    go_wp2
    go_ret2
    exact ⟨rfl, rfl⟩

/-- When the clock changes a cell, if what it needs stays. -/
def tuV (c : Cel) (x T : Int) : Int := if c.kind = 10 then x else if c.kind = 11 then x + (ageAt x c.k T + 1) * c.k else 0
def tuB (c : Cel) (x T : Int) : Bool := if c.kind = 10 then decide (T < x) else decide (c.kind = 11)
def TuP (c : Cel) (x T : Int) (w : World) (e : Ending) (w' : World) : Prop := e = .returned (.tuple #[.int .i64 (tuV c x T), .bool (tuB c x T)]) ∧ Below w.heap.size w w'

set_option maxRecDepth 100000 in
set_option maxHeartbeats 1000000 in
theorem turnOf_any (c : Cel) {w : World} {bv n : Nat} {V : Nat → Int} (T : Int) (hv : w.rowIs bv 3 n (fun i => .int .i64 (V i))) (hn : n ≤ 20) (hV : ∀ i, i < n → IsV (V i)) (hk : c.kind = 11 → 1000000 ≤ c.k ∧ c.k ≤ 1000000000) (h4 : 0 ≤ T) (h5 : T ≤ 1000000000) :
    Calls Tryz.prog 99 #[.agg #[.int .i64 c.kind, .int .i64 c.a, .int .i64 c.b, .int .i64 c.c, .int .i64 c.k], .slice (some ⟨bv, 0, none⟩) n n, .int .i64 T] w fun e w' => TuP c (pk V n c.a) T w e w' := by
  have BW : Hid (Below w.heap.size w (w.alloc (.cells #[.int .i64 c.kind, .int .i64 c.a, .int .i64 c.b, .int .i64 c.c, .int .i64 c.k] 77))) := (Below.refl _ _).alloc (Nat.le_refl _) _
  have PK := hid (pick_any (some ⟨bv, 0, none⟩) n n V c.a (w.alloc (.cells #[.int .i64 c.kind, .int .i64 c.a, .int .i64 c.b, .int .i64 c.c, .int .i64 c.k] 77)) hn ⟨some ⟨bv, 0, none⟩, n, rfl, fun j hj => ⟨bv, 0, rfl, by have := hv.lt; simp; omega, by rw [Nat.zero_add]; exact (hv.alloc _).cell (by omega)⟩⟩)
  have hx : IsV (pk V n c.a) := by
    unfold pk
    split
    · exact hV _ (by omega)
    · exact ⟨by omega, by omega⟩
  clear hv hV
  generalize pk V n c.a = x at *
  by_cases k10 : c.kind = 10
  · have R : Hid (TuP c x T w (.returned (.tuple #[.int .i64 x, .bool (decide (T < x))])) (w.alloc (.cells #[.int .i64 10, .int .i64 c.a, .int .i64 c.b, .int .i64 c.c, .int .i64 c.k] 77))) := ⟨by unfold tuV tuB; rw [if_pos k10, if_pos k10], by have := BW.out; rw [k10] at this; exact this⟩
    rw [k10] at PK ⊢
    clear k10 hk BW
    go_enter Tryz.func99, Tryz.ntmps99
    go_wp2_with (go_at_call 90; refine PK.out.mono ?_; rintro e w' ⟨rfl, rfl⟩)
    go_ret2
    exact R.out
  by_cases k11 : c.kind = 11
  · obtain ⟨kk1, kk2⟩ := hk k11
    have R : Hid (TuP c x T w (.returned (.tuple #[.int .i64 (x + (ageAt x c.k T + 1) * c.k), .bool true])) (w.alloc (.cells #[.int .i64 11, .int .i64 c.a, .int .i64 c.b, .int .i64 c.c, .int .i64 c.k] 77))) := ⟨by unfold tuV tuB; rw [if_neg k10, if_pos k11, if_neg k10, decide_eq_true k11], by have := BW.out; rw [k11] at this; exact this⟩
    have NU := hid (fun W => nextUnit_any x c.k T W hx (by omega) kk2 h4 h5)
    rw [k11] at PK ⊢
    clear k10 k11 hk BW
    go_enter Tryz.func99, Tryz.ntmps99
    go_wp2_with first | (go_at_call 90; refine PK.out.mono ?_; rintro e w' ⟨rfl, rfl⟩) | (go_at_call 108; refine (NU.out _).mono ?_; rintro e w' ⟨rfl, rfl⟩)
    go_ret2
    exact R.out
  · have R : Hid (TuP c x T w (.returned (.tuple #[.int .i64 0, .bool false])) (w.alloc (.cells #[.int .i64 c.kind, .int .i64 c.a, .int .i64 c.b, .int .i64 c.c, .int .i64 c.k] 77))) := ⟨by unfold tuV tuB; rw [if_neg k10, if_neg k11, if_neg k10, decide_eq_false k11], BW.out⟩
    have d10 : (c.kind == 10) = false := beq_eq_false_iff_ne.2 k10
    have d11 : (c.kind == 11) = false := beq_eq_false_iff_ne.2 k11
    clear k10 k11 hk BW
    go_enter Tryz.func99, Tryz.ntmps99
    go_wp2_with (go_at_call 90; refine PK.out.mono ?_; rintro e w' ⟨rfl, rfl⟩)
    go_ret2
    exact R.out

def cOf (x : Int) : Int := if 1000000000 < x then -1 else x

theorem cOf_soon {first x T : Int} (h1 : T < first) (h2 : first ≤ 1000000001) (h3 : 0 ≤ T) (h4 : T < x) : soon (cOf first) x T = cOf (if x < first then x else first) := by
  unfold soon cOf
  by_cases a : x < first
  · rw [if_pos a]
    by_cases b : 1000000000 < first
    · rw [if_pos b, if_pos ⟨h4, by omega, Or.inl (by omega)⟩, if_neg (by omega)]
    · rw [if_neg b, if_pos ⟨h4, by omega, Or.inr a⟩, if_neg (by omega)]
  · rw [if_neg a]
    by_cases b : 1000000000 < first
    · rw [if_pos b, if_neg (by omega)]
    · rw [if_neg b, if_neg (by omega)]
theorem soon_late {t x T : Int} (h : ¬ T < x) : soon t x T = t := if_neg (fun g => h g.1)

/-- One cell more has been looked at. -/
theorem CQ.turn {f : Frm} (hf : f.Ok) {F : Nat → Int} (hF : FV f F) {T : Int} {i : Nat} {first : Int} (h : CQ f F T i (cOf first)) (h1 : T < first) (h2 : first ≤ 1000000001) (t0 : 0 ≤ T) (t1 : T ≤ 1000000000) (hi : i < f.n) :
    CQ f F T (i + 1) (cOf (if tuB (effC f.C F i) (pk (f.vals F T) f.n (f.C i).a) T = true ∧ tuV (effC f.C F i) (pk (f.vals F T) f.n (f.C i).a) T < first then tuV (effC f.C F i) (pk (f.vals F T) f.n (f.C i).a) T else first)) ∧ (tuB (effC f.C F i) (pk (f.vals F T) f.n (f.C i).a) T = true → T < tuV (effC f.C F i) (pk (f.vals F T) f.n (f.C i).a) T) := by
  obtain ⟨vl, vv⟩ := vals_local hf hF t0 t1
  obtain ⟨c1, c2, ⟨_, c4, _⟩, c6, _, _⟩ := hf.cells i hi
  by_cases k10 : (f.C i).kind = 10
  · obtain ⟨a1, a2⟩ := c6 (by rw [k10]; decide)
    obtain ⟨ax, hax⟩ := Int.eq_ofNat_of_zero_le a1
    have han : ax < f.n := by omega
    rw [hax, pk_in han]
    have e1 : tuV (effC f.C F i) (f.vals F T ax) T = f.vals F T ax := if_pos k10
    have e2 : tuB (effC f.C F i) (f.vals F T ax) T = decide (T < f.vals F T ax) := if_pos k10
    rw [e1, e2]
    have := h.past t0 k10 hax han
    by_cases hx : T < f.vals F T ax
    · rw [cOf_soon h1 h2 t0 hx] at this
      simp only [hx, decide_true, true_and]
      exact ⟨this, fun _ => trivial⟩
    · rw [soon_late hx] at this
      rw [decide_eq_false hx, if_neg (by simp)]
      exact ⟨this, fun h => by cases h⟩
  · by_cases k11 : (f.C i).kind = 11
    · obtain ⟨a1, a2⟩ := c6 (by rw [k11]; decide)
      obtain ⟨ax, hax⟩ := Int.eq_ofNat_of_zero_le a1
      have han : ax < f.n := by omega
      obtain ⟨kk1, kk2⟩ := c4 k11
      rw [hax, pk_in han]
      have hk' : (effC f.C F i).k = (f.C i).k := by
        show (if (f.C i).kind = 0 then F i else (f.C i).k) = _
        rw [if_neg (by omega)]
      have ha' : pk (f.vals F T) f.n (effC f.C F i).a = f.vals F T ax := by rw [show (effC f.C F i).a = (f.C i).a from rfl, hax, pk_in han]
      have hvi : f.vals F T i = ageAt (f.vals F T ax) (f.C i).k T := by
        have := (vl i hi).2.2.2.2.1 k11
        rw [ha', hk'] at this
        exact this
      have e1 : tuV (effC f.C F i) (f.vals F T ax) T = f.vals F T ax + (f.vals F T i + 1) * (f.C i).k := by
        show (if (f.C i).kind = 10 then _ else if (f.C i).kind = 11 then _ + (ageAt _ (effC f.C F i).k T + 1) * (effC f.C F i).k else _) = _
        rw [if_neg k10, if_pos k11, hk', ← hvi]
      have e2 : tuB (effC f.C F i) (f.vals F T ax) T = true := by
        show (if (f.C i).kind = 10 then _ else decide ((f.C i).kind = 11)) = true
        rw [if_neg k10, decide_eq_true k11]
      rw [e1, e2]
      have hx : T < f.vals F T ax + (f.vals F T i + 1) * (f.C i).k := by rw [hvi]; exact age_next (by omega)
      have := h.age t0 vl hi k11 hax han (by omega)
      rw [cOf_soon h1 h2 t0 hx] at this
      simp only [true_and]
      exact ⟨this, fun _ => hx⟩
    · have e2 : ∀ x, tuB (effC f.C F i) x T = false := fun x => by
        show (if (f.C i).kind = 10 then _ else decide ((f.C i).kind = 11)) = false
        rw [if_neg k10, decide_eq_false k11]
      rw [e2, if_neg (by simp)]
      exact ⟨h.other k10 k11, fun h => by cases h⟩

/-- At t a cell of the first i turns, if the values stay till then; or there is no such instant. -/
def CX (f : Frm) (F : Nat → Int) (T : Int) (i : Nat) (t : Int) : Prop := t = -1 ∨ ∃ j, j < i ∧ ¬ StillAt (effC f.C F) f.n (f.vals F T) T j t

theorem age_turn {x k T : Int} (hk : 1 ≤ k) : ageAt x k (x + (ageAt x k T + 1) * k) = ageAt x k T + 1 := by
  have h0 : 0 ≤ ageAt x k T := by
    unfold ageAt
    split
    · omega
    · exact Int.ediv_nonneg (by omega) (by omega)
  generalize ageAt x k T = q at *
  have h1 : 0 ≤ (q + 1) * k := Int.mul_nonneg (by omega) (by omega)
  unfold ageAt
  rw [if_neg (by omega), show x + (q + 1) * k - x = (q + 1) * k by omega, Int.mul_ediv_cancel _ (by omega)]

theorem tu_sharp {C : Nat → Cel} {n : Nat} {V : Nat → Int} {T : Int} {i : Nat} (hk : (C i).kind = 11 → 1 ≤ (C i).k) (hb : tuB (C i) (pk V n (C i).a) T = true) (hlt : T < tuV (C i) (pk V n (C i).a) T) : ¬ StillAt C n V T i (tuV (C i) (pk V n (C i).a) T) := by
  intro h
  unfold tuB at hb
  by_cases k10 : (C i).kind = 10
  · have h1 := h.1 k10
    unfold tuV at h1 hlt
    rw [if_pos k10] at h1 hlt
    omega
  · rw [if_neg k10] at hb
    have k11 : (C i).kind = 11 := of_decide_eq_true hb
    have h1 := h.2 k11
    unfold tuV at h1
    rw [if_neg k10, if_pos k11, age_turn (hk k11)] at h1
    omega

theorem CX.turn {f : Frm} (hf : f.Ok) {F : Nat → Int} (hF : FV f F) {T : Int} {i : Nat} {first : Int} (h : CX f F T i (cOf first)) (hi : i < f.n) (hl : tuB (effC f.C F i) (pk (f.vals F T) f.n (f.C i).a) T = true → T < tuV (effC f.C F i) (pk (f.vals F T) f.n (f.C i).a) T) :
    CX f F T (i + 1) (cOf (if tuB (effC f.C F i) (pk (f.vals F T) f.n (f.C i).a) T = true ∧ tuV (effC f.C F i) (pk (f.vals F T) f.n (f.C i).a) T < first then tuV (effC f.C F i) (pk (f.vals F T) f.n (f.C i).a) T else first)) := by
  split
  · rename_i hc
    have e : cOf (tuV (effC f.C F i) (pk (f.vals F T) f.n (f.C i).a) T) = -1 ∨ cOf (tuV (effC f.C F i) (pk (f.vals F T) f.n (f.C i).a) T) = tuV (effC f.C F i) (pk (f.vals F T) f.n (f.C i).a) T := by
      unfold cOf
      split
      · exact Or.inl rfl
      · exact Or.inr rfl
    rcases e with e | e
    · rw [e]; exact Or.inl rfl
    · rw [e]
      exact Or.inr ⟨i, by omega, tu_sharp (C := effC f.C F) (fun k => by have := ((effC_ok hf.cells hF) i hi).2.2.1.2.1 k; omega) hc.1 (hl hc.1)⟩
  · rcases h with h | ⟨j, j1, j2⟩
    · exact Or.inl h
    · exact Or.inr ⟨j, by omega, j2⟩

/-- What Turn answers. -/
def TrP (f : Frm) (F : Nat → Int) (T : Int) (w : World) (e : Ending) (w' : World) : Prop :=
  ∃ c t ok, e = .returned (.tuple #[.int .i64 t, .bool ok]) ∧ CQ f F T f.n c ∧ CX f F T f.n c ∧ ((c = -1 ∧ t = 0 ∧ ok = false) ∨ (c = t ∧ T < t ∧ t ≤ 1000000000 ∧ ok = true)) ∧ Below w.heap.size w w'

set_option maxRecDepth 100000 in
set_option maxHeartbeats 1000000 in
theorem turn_any {f : Frm} (hf : f.Ok) {F : Nat → Int} (hF : FV f F) {T : Int} (t0 : 0 ≤ T) (t1 : T ≤ 1000000000) {w : World} {bc cC cR cH bv : Nat} {aR aH : Option Addr} (hc : ∀ i, i < f.n → CelIs w bc (0 + i * 5) (effC f.C F i)) (hbc : bc < w.heap.size) (hv : w.rowIs bv 3 f.n (fun i => .int .i64 (f.vals F T i))) :
    Calls Tryz.prog 86 #[.agg #[.slice (some ⟨bc, 0, none⟩) f.n cC, .slice aR f.k cR, .int .i64 f.week, .slice aH f.hol.length cH], .slice (some ⟨bv, 0, none⟩) f.n f.n, .int .i64 T] w fun e w' => TrP f F T w e w' := by
  obtain ⟨n1, hn, hk, wk1, wk2⟩ := hf.sizes
  obtain ⟨vl, vv⟩ := vals_local hf hF t0 t1
  have HC := hid hc
  have HV := hid hv
  have VV := hid vv
  have HF := hid hf
  have HFF := hid hF
  clear hc hv vl vv hf hF
  have HBX := hid (Below.refl (w.heap.size + 1) (w.alloc (.cells #[.slice (some ⟨bc, 0, none⟩) f.n cC, .slice aR f.k cR, .int .i64 f.week, .slice aH f.hol.length cH] 26)))
  go_enter Tryz.func86, Tryz.ntmps86
  go_wp2
  go_loopw [8, 16] (fun tt ti wr => ∃ (i : Nat) (first : Int), i ≤ f.n ∧ ti = .int .i64 i ∧ tt = .int .i64 first ∧ T < first ∧ first ≤ 1000000001 ∧ Hid (CQ f F T i (cOf first)) ∧ Hid (CX f F T i (cOf first)) ∧ Hid (Below (w.heap.size + 1) (w.alloc (.cells #[.slice (some ⟨bc, 0, none⟩) f.n cC, .slice aR f.k cR, .int .i64 f.week, .slice aH f.hol.length cH] 26)) wr)) (fun _ ti _ => f.n - (intOf ti).toNat)
  case atStart => exact ⟨0, 1000000001, by omega, rfl, rfl, by omega, by omega, CQ.start f F T, Or.inl rfl, HBX⟩
  case round =>
    clear HBX
    obtain ⟨i, first, i1, rfl, rfl, f1, f2, hq, hx, hb⟩ := hrel
    have hbw := hid (boxed_below hb.out)
    by_cases hit : i < f.n
    · have lt' : (i : Int) < (f.n : Int) := by omega
      obtain ⟨g0, g1, g2, g3, g4⟩ := (HC.out i hit).below hbw.out hbc
      rw [Nat.zero_add] at g0 g1 g2 g3 g4
      have zc : bc < wr.heap.size := by have := hbw.out.size; omega
      obtain ⟨q1, q2⟩ := hq.out.turn HF.out HFF.out f1 f2 t0 t1 hit
      have Q1 := hid q1
      have Q2 := hid q2
      have Q3 := hid (hx.out.turn HF.out HFF.out hit q2)
      clear q1 q2 hx
      have KK : Hid ((effC f.C F i).kind = 11 → 1000000 ≤ (effC f.C F i).k ∧ (effC f.C F i).k ≤ 1000000000) := ((effC_ok HF.out.cells HFF.out) i hit).2.2.1.2.1
      have EA : Hid ((effC f.C F i).a = (f.C i).a) := rfl
      have hb2 : Hid (∀ o, Below (w.heap.size + 1) (w.alloc (.cells #[.slice (some ⟨bc, 0, none⟩) f.n cC, .slice aR f.k cR, .int .i64 f.week, .slice aH f.hol.length cH] 26)) (wr.alloc o)) := fun o => hb.out.alloc (by have := hb.out.size; simp at this; omega) _
      generalize effC f.C F i = ce at *
      go_wp2_with fail
      refine (turnOf_any ce T (HV.out.of_block ((boxed_below (hb2.out _)).block _ HV.out.lt)) (by omega) VV.out KK.out t0 t1).mono ?_
      rintro e w2 ⟨rfl, y⟩
      rw [EA.out]
      have hb3 := hid ((hb2.out _).trans (y.mono (by have := hb.out.size; simp at this; simp; omega)))
      clear y hb2 hb hbw g0 g1 g2 g3 g4 hq KK EA
      generalize tuV ce (pk (f.vals F T) f.n (f.C i).a) T = x at *
      generalize tuB ce (pk (f.vals F T) f.n (f.C i).a) T = bx at *
      cases bx
      · rw [if_neg (by simp)] at Q1 Q3
        go_wp2
        go_roundw
        case rel => exact ⟨i + 1, first, by omega, by go_num, rfl, f1, f2, Q1, Q3, hb3⟩
        case measure => simp [intOf]; omega
      · have q2 := Q2.out rfl
        by_cases hx : x < first
        · rw [if_pos ⟨rfl, hx⟩] at Q1 Q3
          go_wp2
          go_roundw
          case rel => exact ⟨i + 1, x, by omega, by go_num, rfl, q2, by omega, Q1, Q3, hb3⟩
          case measure => simp [intOf]; omega
        · rw [if_neg (by simp [hx])] at Q1 Q3
          go_wp2
          go_roundw
          case rel => exact ⟨i + 1, first, by omega, by go_num, rfl, f1, f2, Q1, Q3, hb3⟩
          case measure => simp [intOf]; omega
    · obtain rfl : i = f.n := by omega
      by_cases h9 : 1000000000 < first
      · have R : Hid (TrP f F T w (.returned (.tuple #[.int .i64 0, .bool false])) wr) := ⟨-1, 0, false, rfl, by have := hq.out; unfold cOf at this; rw [if_pos h9] at this; exact this, Or.inl rfl, Or.inl ⟨rfl, rfl, rfl⟩, hbw.out⟩
        go_wp2
        go_ret2
        exact R.out
      · have R : Hid (TrP f F T w (.returned (.tuple #[.int .i64 first, .bool true])) wr) := ⟨first, first, true, rfl, by have := hq.out; unfold cOf at this; rw [if_neg h9] at this; exact this, by have := hx.out; unfold cOf at this; rw [if_neg h9] at this; exact this, Or.inr ⟨rfl, f1, by omega, rfl⟩, hbw.out⟩
        go_wp2
        go_ret2
        exact R.out

end Go.Proofs.YtbkdmibggjjnmaaGreatDoor

/-
  THE CODE: a case's memory, exactly; its values.
-/
set_option linter.unusedVariables false
set_option linter.unusedSimpArgs false
namespace Go.Proofs.YtbkdmibggjjnmaaGreatDoor
open Go.RowKit
attribute [local go_sem ↓] Go.wp_at_zero Go.wp_at_succ

/-- A case's places. -/
structure KPl where
  bp : Nat
  bc : Nat
  cC : Nat
  aR : Option Addr
  cR : Nat
  aH : Option Addr
  cH : Nat
  bS : Nat
  cS : Nat

def kf (f : Frm) (p : KPl) (T : Int) (op : Bool) (vE : Value) (j : Nat) : Value :=
  if j = 0 then .slice (some ⟨p.bc, 0, none⟩) f.n p.cC else if j = 1 then .slice p.aR f.k p.cR else if j = 2 then .int .i64 f.week else if j = 3 then .slice p.aH f.hol.length p.cH else if j = 4 then .int .i64 T else if j = 5 then .bool (!op) else if j = 6 then .slice (some ⟨p.bS, 0, none⟩) f.k p.cS else vE

theorem kf_set4 {f : Frm} {p : KPl} {T T' : Int} {op : Bool} {vE : Value} (j : Nat) : (if j = 4 then .int .i64 T' else kf f p T op vE j) = kf f p T' op vE j := by
  unfold kf
  by_cases h : j = 4
  · subst h; rfl
  · simp only [h, if_false]
theorem kf_set5 {f : Frm} {p : KPl} {T : Int} {op : Bool} {vE : Value} (j : Nat) : (if j = 5 then .bool true else kf f p T op vE j) = kf f p T false vE j := by
  unfold kf
  by_cases h : j = 5
  · subst h; rfl
  · simp only [h, if_false]
theorem kf_set7 {f : Frm} {p : KPl} {T : Int} {op : Bool} {vE v' : Value} (j : Nat) (hj : j < 8) : (if j = 7 then v' else kf f p T op vE j) = kf f p T op v' j := by
  unfold kf
  by_cases h : j = 7
  · subst h; rfl
  · have hc : j = 0 ∨ j = 1 ∨ j = 2 ∨ j = 3 ∨ j = 4 ∨ j = 5 ∨ j = 6 := by omega
    rcases hc with rfl | rfl | rfl | rfl | rfl | rfl | rfl <;> rfl

/-- A row whose first n cells are these. -/
def FRow (w : World) (b t n : Nat) (g : Nat → Value) : Prop := ∃ g' N, w.rowIs b t N g' ∧ n ≤ N ∧ ∀ j, j < n → g' j = g j

section
variable {w : World} {b t n : Nat} {g : Nat → Value}
theorem FRow.of (h : w.rowIs b t n g) : FRow w b t n g := ⟨g, n, h, Nat.le_refl _, fun _ _ => rfl⟩
theorem FRow.lt (h : FRow w b t n g) : b < w.heap.size := by obtain ⟨_, _, h1, _⟩ := h; exact h1.lt
theorem FRow.cell (h : FRow w b t n g) {i : Nat} (hi : i < n) : w.cell? ⟨b, i, none⟩ = some (g i) := by
  obtain ⟨g', N, h1, h2, h3⟩ := h
  rw [h1.cell (by omega), h3 i hi]
theorem FRow.frozen (h : FRow w b t n g) (j : Nat) : w.frozen? ⟨b, j, none⟩ = false := by obtain ⟨_, _, h1, _⟩ := h; exact h1.frozen j
theorem FRow.of_block (h : FRow w b t n g) {w' : World} (hb : w'.heap[b]? = w.heap[b]?) : FRow w' b t n g := by
  obtain ⟨g', N, h1, h2⟩ := h
  exact ⟨g', N, h1.of_block hb, h2⟩
theorem FRow.set (h : FRow w b t n g) (i : Nat) (v : Value) : FRow (w.setCell ⟨b, i, none⟩ v) b t n (fun j => if j = i then v else g j) := by
  obtain ⟨g', N, h1, h2, h3⟩ := h
  refine ⟨_, N, h1.set i v, h2, fun j hj => ?_⟩
  show (if j = i then v else g' j) = if j = i then v else g j
  rw [h3 j hj]
theorem FRow.setOther (h : FRow w b t n g) {p : Addr} (hp : b ≠ p.block) (v : Value) : FRow (w.setCell p v) b t n g := by
  obtain ⟨g', N, h1, h2⟩ := h
  exact ⟨g', N, h1.setOther hp v, h2⟩
theorem FRow.congr (h : FRow w b t n g) {g2 : Nat → Value} (hg : ∀ j, j < n → g j = g2 j) : FRow w b t n g2 := by
  obtain ⟨g', N, h1, h2, h3⟩ := h
  exact ⟨g', N, h1, h2, fun j hj => (h3 j hj).trans (hg j hj)⟩
end

/-- What a case stands on: the table of kinds, the rules and the holidays in lists of its own. -/
def KBase (f : Frm) (p : KPl) (W : World) : Prop := Tab W ∧ RAt W p.aR f.k f.R ∧ IntsAt W (.slice p.aH f.hol.length p.cH) f.hol

/-- A case's memory. -/
structure KSt (Q : Nat → Prop) (f : Frm) (p : KPl) (F : Nat → Int) (T : Int) (op : Bool) (S : Nat → St) (vE : Value) (E : List Ev) (w : World) : Prop where
  base : Held Q w (KBase f p)
  qlt : ∀ j, Q j → j < w.heap.size
  dis : ∀ j, Q j → j ≠ p.bp ∧ j ≠ p.bc ∧ j ≠ p.bS ∧ vE.ownBlock ≠ some j
  row : w.rowIs p.bp 86 8 (kf f p T op vE)
  cel : ∃ g N, w.rowIs p.bc 77 N g ∧ f.n * 5 ≤ N ∧ ∀ j, j < f.n * 5 → g j = cellf (effC f.C F) j
  sta : FRow w p.bS 94 (f.k * 4) (stf S)
  ev : w.ownsRow 0 103 3 vE E.length (evs E)

/-- What may turn of a case. -/
def KOwn (p : KPl) (vE : Value) (j : Nat) : Prop := j = p.bp ∨ j = p.bc ∨ j = p.bS ∨ vE.ownBlock = some j
def KOwn.dec (p : KPl) (vE : Value) (j : Nat) : Decidable (KOwn p vE j) := inferInstanceAs (Decidable (j = p.bp ∨ j = p.bc ∨ j = p.bS ∨ vE.ownBlock = some j))

section
variable {Q : Nat → Prop} {f : Frm} {p : KPl} {F : Nat → Int} {T : Int} {op : Bool} {S : Nat → St} {vE : Value} {E : List Ev} {w : World}

theorem KSt.own_lt (h : KSt Q f p F T op S vE E w) : ∀ j, KOwn p vE j → j < w.heap.size := by
  intro j hj
  obtain ⟨g, N, f1, _⟩ := h.cel
  rcases hj with rfl | rfl | rfl | hj
  · exact h.row.lt
  · exact f1.lt
  · exact h.sta.lt
  · exact Go.Proofs.YtbkdmibggjjnmaaGreatDoor.own_lt h.ev hj

theorem KSt.move (h : KSt Q f p F T op S vE E w) {w' : World} (hs : w.heap.size ≤ w'.heap.size) (hb : ∀ j, Q j ∨ KOwn p vE j → w'.heap[j]? = w.heap[j]?) : KSt Q f p F T op S vE E w' := by
  obtain ⟨g, N, f1, f2, f3⟩ := h.cel
  exact ⟨h.base.move ⟨hs, fun j q _ => hb j (Or.inl q)⟩, fun j q => by have := h.qlt j q; omega, h.dis, h.row.of_block (hb _ (Or.inr (Or.inl rfl))), ⟨g, N, f1.of_block (hb _ (Or.inr (Or.inr (Or.inl rfl)))), f2, f3⟩, h.sta.of_block (hb _ (Or.inr (Or.inr (Or.inr (Or.inl rfl))))), own_of_block h.ev (fun b e _ => hb b (Or.inr (Or.inr (Or.inr (Or.inr e)))))⟩

theorem KSt.drop (h : KSt Q f p F T op S vE E w) {w' : World} (hb : Below w.heap.size w w') : KSt Q f p F T op S vE E w' := h.move hb.size (fun j hj => by
  rcases hj with hj | hj
  · exact hb.block j (h.qlt j hj)
  · exact hb.block j (h.own_lt j hj))

theorem KSt.nbp (h : KSt Q f p F T op S vE E w) : p.bc ≠ p.bp ∧ p.bS ≠ p.bp ∧ p.bc ≠ p.bS ∧ vE.ownBlock ≠ some p.bp ∧ vE.ownBlock ≠ some p.bc ∧ vE.ownBlock ≠ some p.bS := by
  obtain ⟨g, N, f1, f2, f3⟩ := h.cel
  obtain ⟨g', N', s1, _⟩ := h.sta
  exact ⟨row_ne f1 h.row (by decide), row_ne s1 h.row (by decide), row_ne f1 s1 (by decide), own_ne_row h.ev h.row (by decide), own_ne_row h.ev f1 (by decide), own_ne_row h.ev s1 (by decide)⟩

theorem KSt.congrS (h : KSt Q f p F T op S vE E w) {S' : Nat → St} (hs : ∀ i, i < f.k → S i = S' i) : KSt Q f p F T op S' vE E w :=
  ⟨h.base, h.qlt, h.dis, h.row, h.cel, h.sta.congr (stf_congr hs), h.ev⟩

theorem KSt.celIs (h : KSt Q f p F T op S vE E w) {i : Nat} (hi : i < f.n) : CelIs w p.bc (0 + i * 5) (effC f.C F i) := by
  obtain ⟨g, N, f1, f2, f3⟩ := h.cel
  rw [Nat.zero_add]
  refine ⟨?_, ?_, ?_, ?_, ?_⟩
  · rw [f1.cell (by omega), f3 _ (by omega), cellf0]
  · rw [f1.cell (by omega), f3 _ (by omega), cellf1]
  · rw [f1.cell (by omega), f3 _ (by omega), cellf2]
  · rw [f1.cell (by omega), f3 _ (by omega), cellf3]
  · rw [f1.cell (by omega), f3 _ (by omega), cellf4]

theorem KSt.celLt (h : KSt Q f p F T op S vE E w) : p.bc < w.heap.size := by
  obtain ⟨g, N, f1, _⟩ := h.cel
  exact f1.lt

/-- A store into the states. -/
theorem KSt.setS (h : KSt Q f p F T op S vE E w) (i : Nat) (v : Value) {S' : Nat → St} (hs : ∀ j, (if j = i then v else stf S j) = stf S' j) : KSt Q f p F T op S' vE E (w.setCell ⟨p.bS, i, none⟩ v) := by
  obtain ⟨g, N, f1, f2, f3⟩ := h.cel
  obtain ⟨n1, n2, n3, n4, n5, n6⟩ := h.nbp
  exact ⟨h.base.move ⟨by simp, fun j q _ => Below.heap_setCell _ _ _ _ (h.dis j q).2.2.1⟩, fun j q => by simpa using h.qlt j q, h.dis, h.row.setOther (Ne.symm n2) _, ⟨g, N, f1.setOther n3 _, f2, f3⟩, (h.sta.set i v).congr (fun j _ => hs j), ownsRow_setCell_other h.ev n6 _⟩

theorem KSt.set4 (h : KSt Q f p F T op S vE E w) (i : Nat) (a : Bool) (b c : Int) (d : Bool) :
    KSt Q f p F T op (upd S i ⟨a, b, c, d⟩) vE E ((((w.setCell ⟨p.bS, i * 4, none⟩ (.bool a)).setCell ⟨p.bS, i * 4 + 1, none⟩ (.int .i64 b)).setCell ⟨p.bS, i * 4 + 2, none⟩ (.int .i64 c)).setCell ⟨p.bS, i * 4 + 3, none⟩ (.bool d)) := by
  obtain ⟨g, N, f1, f2, f3⟩ := h.cel
  obtain ⟨n1, n2, n3, n4, n5, n6⟩ := h.nbp
  have n2' := Ne.symm n2
  refine ⟨h.base.move ⟨by simp, fun j q _ => ?_⟩, fun j q => by simpa using h.qlt j q, h.dis, (((h.row.setOther n2' _).setOther n2' _).setOther n2' _).setOther n2' _, ⟨g, N, (((f1.setOther n3 _).setOther n3 _).setOther n3 _).setOther n3 _, f2, f3⟩, ((((h.sta.set _ _).set _ _).set _ _).set _ _).congr (fun j _ => stf_set j), ?_⟩
  · have n := (h.dis j q).2.2.1
    rw [Below.heap_setCell _ _ _ _ n, Below.heap_setCell _ _ _ _ n, Below.heap_setCell _ _ _ _ n, Below.heap_setCell _ _ _ _ n]
  · exact ownsRow_setCell_other (ownsRow_setCell_other (ownsRow_setCell_other (ownsRow_setCell_other h.ev n6 _) n6 _) n6 _) n6 _

/-- A store into the case's own block. -/
theorem KSt.setP (h : KSt Q f p F T op S vE E w) (i : Nat) (v : Value) {T' : Int} {op' : Bool} (hs : ∀ j, (if j = i then v else kf f p T op vE j) = kf f p T' op' vE j) : KSt Q f p F T' op' S vE E (w.setCell ⟨p.bp, i, none⟩ v) := by
  obtain ⟨g, N, f1, f2, f3⟩ := h.cel
  obtain ⟨n1, n2, n3, n4, n5, n6⟩ := h.nbp
  exact ⟨h.base.move ⟨by simp, fun j q _ => Below.heap_setCell _ _ _ _ (h.dis j q).1⟩, fun j q => by simpa using h.qlt j q, h.dis, (h.row.set i v).congr (fun j _ => hs j), ⟨g, N, f1.setOther n1 _, f2, f3⟩, h.sta.setOther n2 _, ownsRow_setCell_other h.ev n4 _⟩

theorem KSt.drew (h : KSt Q f p F T op S vE E w) : KSt Q f p F T op S vE E w.drew := h.move (Nat.le_refl _) (fun _ _ => rfl)
theorem KSt.drewN (h : KSt Q f p F T op S vE E w) (q : Nat) : KSt Q f p F T op S vE E (w.drewN q) := h.drop (below_drewN (Below.refl _ _) q)

set_option maxRecDepth 100000 in
set_option maxHeartbeats 1000000 in
theorem kvalues_any (hS : KSt Q f p F T op S vE E w) (hf : f.Ok) (hF : FV f F) (t0 : 0 ≤ T) (t1 : T ≤ 1000000000) :
    Calls Tryz.prog 45 #[.pointer (some ⟨p.bp, 0, none⟩)] w fun e w' => VlPost f F T w e w' := by
  obtain ⟨n1, hn, hk, wk1, wk2⟩ := hf.sizes
  have r0 := hS.row.cell (i := 0) (by omega)
  have r1 := hS.row.cell (i := 1) (by omega)
  have r2 := hS.row.cell (i := 2) (by omega)
  have r3 := hS.row.cell (i := 3) (by omega)
  have r4 := hS.row.cell (i := 4) (by omega)
  simp [kf] at r0 r1 r2 r3 r4
  have zb := hS.row.lt
  obtain ⟨b1, b2, b3⟩ := hS.base.now
  have CALL : ∀ W, Below w.heap.size w W → Calls Tryz.prog 77 #[.agg #[.slice (some ⟨p.bc, 0, none⟩) f.n p.cC, .slice p.aR f.k p.cR, .int .i64 f.week, .slice p.aH f.hol.length p.cH], .int .i64 T] W fun e w' => VlPost f F T W e w' := fun W hW =>
    (pvalues_any p.aR p.aH p.bc 0 f.n p.cC f.k p.cR f.hol.length p.cH (effC f.C F) f.week T f.hol W hn n1 (b1.below hW (Nat.le_refl _)) wk1 wk2 hf.hol rfl (SlAt.below b3 hW (Nat.le_refl _)) (by have := hS.celLt; have := hW.size; omega) (fun m hm => (hS.celIs hm).below hW hS.celLt) (effC_ok hf.cells hF) (effC_ring hf.ring) t0 t1).mono (fun e w' h => vl_of hf hF h)
  have HC := hid CALL
  clear CALL hS hf hF b1 b2 b3
  go_enter Tryz.func45, Tryz.ntmps45
  go_wp2
  go_region_held3 (fun w' => w'.cell? ⟨p.bp, 0, none⟩ = some (.slice (some ⟨p.bc, 0, none⟩) f.n p.cC) ∧ w'.cell? ⟨p.bp, 1, none⟩ = some (.slice p.aR f.k p.cR) ∧ w'.cell? ⟨p.bp, 2, none⟩ = some (.int .i64 f.week) ∧ w'.cell? ⟨p.bp, 3, none⟩ = some (.slice p.aH f.hol.length p.cH) ∧ w'.cell? ⟨p.bp, 4, none⟩ = some (.int .i64 T))
    ((refine ⟨?_, ?_, ?_, ?_, ?_⟩ <;> first | assumption | (rw [hb2.cell (show p.bp < w.heap.size from zb)]; assumption)))
    ((go_at_call 77; refine (HC.out _ (by exact (Below.refl _ _).drew)).mono ?_; rintro e w2 ⟨b, rfl, q1, q2, hb2⟩))
  go_wp2
  go_ret
  exact ⟨b, rfl, q1, q2, ⟨hb2.os, hb2.tape, hb2.output, hb2.size, hb2.block⟩⟩

end

end Go.Proofs.YtbkdmibggjjnmaaGreatDoor
