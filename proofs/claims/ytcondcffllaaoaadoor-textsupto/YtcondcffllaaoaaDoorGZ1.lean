/-
  THE WALKS: the code's writer of texts: what a cell names.
-/
import Derived.Test.YtcondcffllaaoaaDoorGY8
import Derived.Test.YtcondcffllaaoaaDoorGH3
import Derived.Test.YtcondcffllaaoaaDoorGY10
import Derived.Test.YtcondcffllaaoaaDoorGX1
set_option linter.unusedVariables false
set_option linter.unusedSimpArgs false
namespace Go.Proofs.YtcondcffllaaoaaDoor
open Go.RowKit
attribute [local go_sem ↓] Go.wp_at_zero Go.wp_at_succ

def ndL (c : Cel) (i : Nat) : List Int := (List.range i).map (needp c)
theorem ndL_more (c : Cel) (i : Nat) : ndL c (i + 1) = ndL c i ++ [needp c i] := by unfold ndL; rw [List.range_succ]; simp
theorem ndL_len (c : Cel) (i : Nat) : (ndL c i).length = i := by simp [ndL]
/-- The numbers behind a cell's kind. -/
def nmL (c : Cel) : List Int := ndL c (need0 c.kind).toNat ++ (if hasKB c.kind = true then [c.k] else [])

def LsQ (l : List Int) (w : World) (e : Ending) (w' : World) : Prop := ∃ v, e = .returned v ∧ w'.ownsRow w.heap.size 3 1 v l.length (ints l) ∧ Below w.heap.size w w'

set_option maxRecDepth 100000 in
set_option maxHeartbeats 2000000 in
theorem wnamed_any (kd a b c k : Int) (w : World) (ht : Tab w) :
    Calls Tryd.prog 36 #[.agg #[.int .i64 kd, .int .i64 a, .int .i64 b, .int .i64 c, .int .i64 k]] w fun e w' => LsQ (nmL ⟨kd, a, b, c, k⟩) w e w' := by
  obtain ⟨i3, y3, y4⟩ := Option.map_eq_some_iff.1 info3
  simp only [Prod.mk.injEq] at y4
  have I3 := hid y3
  have Z3 := hid y4
  clear y3 y4
  have B0 := hid (Below.refl (w.heap.size + 1) (w.alloc (.cells #[.int .i64 kd, .int .i64 a, .int .i64 b, .int .i64 c, .int .i64 k] 46)))
  have f0 : (w.alloc (.cells #[.int .i64 kd, .int .i64 a, .int .i64 b, .int .i64 c, .int .i64 k] 46)).cell? ⟨w.heap.size, 0, none⟩ = some (.int .i64 kd) := boxed B0.out 0
  have ND := hid (pneeds_any kd (w.alloc (.cells #[.int .i64 kd, .int .i64 a, .int .i64 b, .int .i64 c, .int .i64 k] 46)) (ht.below (boxed_below B0.out) (Nat.le_refl _)))
  obtain ⟨cn, hcn⟩ := Int.eq_ofNat_of_zero_le (need0_bd kd).1
  have c3 : cn ≤ 3 := by have := (need0_bd kd).2; omega
  rw [hcn] at ND
  have CN : Hid (nmL ⟨kd, a, b, c, k⟩ = ndL ⟨kd, a, b, c, k⟩ cn ++ (if hasKB kd = true then [k] else [])) := by
    show nmL _ = _
    unfold nmL
    rw [show (need0 (Cel.kind ⟨kd, a, b, c, k⟩)).toNat = cn by show (need0 kd).toNat = cn; omega]
  clear hcn ht
  go_enter Tryd.func36, Tryd.ntmps36
  go_wp2_with fail
  refine ND.out.mono ?_
  rintro e w' ⟨rfl, hw⟩
  rw [hw]
  clear hw w' ND f0
  go_wp2_with fail
  go_loopw [3, 5] (fun to ti wr => ∃ (i : Nat) (v : Value), i ≤ cn ∧ ti = .int .i64 i ∧ v = to ∧ Hid (wr.ownsRow (w.heap.size + 1) 3 1 v (ndL ⟨kd, a, b, c, k⟩ i).length (ints (ndL ⟨kd, a, b, c, k⟩ i))) ∧ Hid (Below (w.heap.size + 1) (w.alloc (.cells #[.int .i64 kd, .int .i64 a, .int .i64 b, .int .i64 c, .int .i64 k] 46)) wr)) (fun _ ti _ => cn - (intOf ti).toNat)
  case atStart => exact ⟨0, .slice none 0 0, by omega, rfl, rfl, ⟨rfl, Or.inl ⟨rfl, rfl⟩⟩, B0⟩
  case round =>
    clear B0
    obtain ⟨i, v, i1, rfl, rfl, hown, hb⟩ := hrel
    have f0 := boxed hb.out 0
    have f1 := boxed hb.out 1
    have f2 := boxed hb.out 2
    have f3 := boxed hb.out 3
    have f4 := boxed hb.out 4
    simp at f0 f1 f2 f3 f4
    have zw := hb.out.size
    simp at zw
    by_cases hit : i < cn
    · have lt' : (i : Int) < (cn : Int) := by omega
      have NE := hid (pneed_any kd a b c k i wr (by omega))
      have LN : (ndL ⟨kd, a, b, c, k⟩ i).length ≤ 3 := by rw [ndL_len]; omega
      have MR := hid (ndL_more ⟨kd, a, b, c, k⟩ i)
      generalize needp ⟨kd, a, b, c, k⟩ i = x at *
      go_wp2_with fail
      refine NE.out.mono ?_
      rintro e w2 ⟨rfl, hb2⟩
      have hown2 := hid (own_of_block hown.out (w' := w2) (fun g _ hlt => hb2.block g hlt))
      have hb3 := hid (hb.out.trans (hb2.mono (by omega)))
      have zw2 := hb2.size
      clear hb2 NE hown hb f0 f1 f2 f3 f4
      go_wp2_with (at_builtin; refine wpList_append_lies _ rfl (.tmp 18) (.tmp 20) 24 rfl (w.heap.size + 1) 3 i3 _ 1 8 Tryd.underlying24 I3.out Z3.out.1 Z3.out.2.1 Z3.out.2.2 rfl (by omega) v (ndL ⟨kd, a, b, c, k⟩ i).length (ints (ndL ⟨kd, a, b, c, k⟩ i)) (by rfl) (own_alloc0 hown2.out _) ⟨w2.heap.size, 0, none⟩ 1 1 [.int .i64 x] (by rfl) (by rfl) (news1k _ _ _) (by simp [Value.oneCell']) (by omega) (by unfold maxLen; omega) (by omega) (by simp; omega) (w2.heap.size + 1) (by simp) ?_; intro g cap w6 hown3 hgrow hat hlt; refine stopH ?_)
      have N1 : Hid (w6.ownsRow (w.heap.size + 1) 3 1 (.slice (some ⟨g, 0, none⟩) ((ndL ⟨kd, a, b, c, k⟩ i).length + 1) cap) (ndL ⟨kd, a, b, c, k⟩ (i + 1)).length (ints (ndL ⟨kd, a, b, c, k⟩ (i + 1)))) := by
        rw [MR.out, List.length_append, show ints (ndL ⟨kd, a, b, c, k⟩ i ++ [x]) = ints (ndL ⟨kd, a, b, c, k⟩ i) ++ [.int .i64 x] by simp [ints]]
        exact hown3
      have N2 := hid (hb3.out.trans (grow_below0 hgrow (by omega) (fun g hg' => own_base hown2.out hg')))
      clear hown3 hgrow hat hlt hown2 hb3 MR
      refine hid ?_
      go_wp2
      go_roundw
      case rel => exact ⟨i + 1, _, by omega, by go_num, rfl, N1, N2⟩
      case measure => simp [intOf]; omega
    · obtain rfl : i = cn := by omega
      have HK := hid (hask_any kd wr)
      have LN : (ndL ⟨kd, a, b, c, k⟩ i).length ≤ 3 := by rw [ndL_len]; omega
      have hbw := hid (boxed_below hb.out)
      cases hk : hasKB kd
      · rw [hk] at HK
        have R : Hid (LsQ (nmL ⟨kd, a, b, c, k⟩) w (.returned v) wr) := by
          refine ⟨v, rfl, ?_, hbw.out⟩
          rw [CN.out, hk]
          simp only [Bool.false_eq_true, if_false, List.append_nil]
          refine ⟨hown.out.1, ?_⟩
          rcases hown.out.2 with h2 | ⟨g, cap, cur, a1, a2, a3⟩
          · exact Or.inl h2
          · exact Or.inr ⟨g, cap, cur, a1, by omega, a3⟩
        clear hown hb hk hbw CN
        go_wp2_with fail
        refine HK.out.mono ?_
        rintro e w' ⟨rfl, hw⟩
        rw [hw]
        clear hw w' HK
        go_wp2
        go_ret
        exact R.out
      · rw [hk] at HK
        have CN2 : Hid (nmL ⟨kd, a, b, c, k⟩ = ndL ⟨kd, a, b, c, k⟩ i ++ [k]) := by show nmL _ = _; rw [CN.out, hk]; simp
        clear hk CN
        go_wp2_with fail
        refine HK.out.mono ?_
        rintro e w' ⟨rfl, hw⟩
        rw [hw]
        clear hw w' HK
        go_wp2_with (at_builtin; refine wpList_append_lies _ rfl (.tmp 25) (.tmp 28) 24 rfl (w.heap.size + 1) 3 i3 _ 1 8 Tryd.underlying24 I3.out Z3.out.1 Z3.out.2.1 Z3.out.2.2 rfl (by omega) v (ndL ⟨kd, a, b, c, k⟩ i).length (ints (ndL ⟨kd, a, b, c, k⟩ i)) (by rfl) (own_alloc0 hown.out _) ⟨wr.heap.size, 0, none⟩ 1 1 [.int .i64 k] (by rfl) (by rfl) (news1k _ _ _) (by simp [Value.oneCell']) (by omega) (by unfold maxLen; omega) (by omega) (by simp; omega) (wr.heap.size + 1) (by simp) ?_; intro g cap w6 hown3 hgrow hat hlt; refine stopH ?_)
        have R : Hid (LsQ (nmL ⟨kd, a, b, c, k⟩) w (.returned (.slice (some ⟨g, 0, none⟩) ((ndL ⟨kd, a, b, c, k⟩ i).length + 1) cap)) w6) := by
          have N2 := hb.out.trans (grow_below0 hgrow (by omega) (fun g hg' => own_base hown.out hg'))
          refine ⟨_, rfl, ?_, boxed_below N2⟩
          have h3 : w6.ownsRow (w.heap.size + 1) 3 1 (.slice (some ⟨g, 0, none⟩) ((ndL ⟨kd, a, b, c, k⟩ i).length + 1) cap) (nmL ⟨kd, a, b, c, k⟩).length (ints (nmL ⟨kd, a, b, c, k⟩)) := by
            rw [CN2.out, List.length_append, show ints (ndL ⟨kd, a, b, c, k⟩ i ++ [k]) = ints (ndL ⟨kd, a, b, c, k⟩ i) ++ [.int .i64 k] by simp [ints]]
            exact hown3
          refine ⟨h3.1, ?_⟩
          rcases h3.2 with h2 | ⟨g, cap, cur, a1, a2, a3⟩
          · exact Or.inl h2
          · exact Or.inr ⟨g, cap, cur, a1, by omega, a3⟩
        clear hown3 hgrow hat hlt hown hb hbw CN2
        refine hid ?_
        go_wp2
        go_ret
        exact R.out

end Go.Proofs.YtcondcffllaaoaaDoor

/-
  PLAIN MATHEMATICS: the values at every instant; to settle; the clock, instant by instant, and what may be left out.
-/
set_option linter.unusedVariables false
set_option linter.unusedSimpArgs false
namespace Go.Proofs.YtcondcffllaaoaaDoor

open Go.RowKit

theorem crel_exists {week : Int} {hol : List Int} (h1 : 1 ≤ week) (h2 : week ≤ 127) (hh : HolOk hol) (now : Int) (c : Cel) (x y z : Int) (k0 : 0 ≤ c.kind) (k1 : c.kind ≤ 12) : ∃ v, CRel week hol now c x y z v := by
  have cs : (c.kind = 0 ∨ c.kind = 1) ∨ (2 ≤ c.kind ∧ c.kind ≤ 8) ∨ c.kind = 9 ∨ c.kind = 10 ∨ c.kind = 11 ∨ c.kind = 12 := by omega
  rcases cs with e | e | e | e | e | e
  · exact ⟨c.k, fun _ => rfl, fun g => by omega, fun g => by omega, fun g => by omega, fun g => by omega, fun g => by omega⟩
  · exact ⟨_, fun g => by omega, fun _ => rfl, fun g => by omega, fun g => by omega, fun g => by omega, fun g => by omega⟩
  · exact ⟨_, fun g => by omega, fun g => by omega, fun _ => rfl, fun g => by omega, fun g => by omega, fun g => by omega⟩
  · exact ⟨_, fun g => by omega, fun g => by omega, fun g => by omega, fun _ => rfl, fun g => by omega, fun g => by omega⟩
  · exact ⟨_, fun g => by omega, fun g => by omega, fun g => by omega, fun g => by omega, fun _ => rfl, fun g => by omega⟩
  · obtain ⟨T, hT, _⟩ := M.due_exists h1 h2 (fun h hm => (hh.2.1 h hm).2) (x / 86400) c.k.toNat
    exact ⟨_, fun g => by omega, fun g => by omega, fun g => by omega, fun g => by omega, fun g => by omega, fun _ => ⟨T, hT, rfl⟩⟩

/-- There are values, at every instant. -/
theorem values_exist {C : Nat → Cel} {n : Nat} {week : Int} {hol : List Int} (h1 : 1 ≤ week) (h2 : week ≤ 127) (hh : HolOk hol) (hok : CellsOk C n) (hno : NoRing C n) (now : Int) (t0 : 0 ≤ now) (t1 : now ≤ 1000000000) : ∃ V, LocalEq C n week hol now V ∧ ∀ i, i < n → IsV (V i) := by
  suffices key : ∀ m V D, Done C n week hol now V D → ((List.range n).filter (fun i => !D i)).length ≤ m → ∃ V, LocalEq C n week hol now V ∧ ∀ i, i < n → IsV (V i) from key _ _ _ (done_start C n week hol now) (Nat.le_refl _)
  intro m
  induction m with
  | zero =>
    intro V D hd hl
    have hall : ∀ i, i < n → D i = true := fun i hi => by
      have he : (List.range n).filter (fun i => !D i) = [] := List.eq_nil_of_length_eq_zero (by omega)
      rw [List.filter_eq_nil_iff] at he
      have := he i (List.mem_range.2 hi)
      simpa using this
    exact ⟨V, fun i hi => hd.eq i hi (hall i hi), hd.val⟩
  | succ m ih =>
    intro V D hd hl
    by_cases hall : ∀ i, i < n → D i = true
    · exact ⟨V, fun i hi => hd.eq i hi (hall i hi), hd.val⟩
    · have ⟨i0, hi0⟩ : ∃ i, i < n ∧ D i = false := by
        apply Classical.byContradiction
        intro hc
        apply hall
        intro i hi
        cases hD : D i
        · exact (hc ⟨i, hi, hD⟩).elim
        · rfl
      obtain ⟨i, ⟨hi, hDi⟩, hs⟩ := M.progress hno (fun i => i < n ∧ D i = false) (fun i h => h.1) hi0
      obtain ⟨k0, k1, _⟩ := hok i hi
      obtain ⟨v, hv⟩ := crel_exists h1 h2 hh now (C i) (pk V n (C i).a) (pk V n (C i).b) (pk V n (C i).c) k0 k1
      have hd' := hd.step hok hi hDi (fun j hj => by
        have hjn := ed_within hok _ _ hj
        cases hD : D j
        · exact (hs j hj ⟨hjn, hD⟩).elim
        · rfl) hv t0 t1
      refine ih _ _ hd' ?_
      have sub : ((List.range n).filter (fun j => !upd D i true j)).length < ((List.range n).filter (fun j => !D j)).length := by
        have e : (List.range n).filter (fun j => !upd D i true j) = ((List.range n).filter (fun j => !D j)).filter (fun j => j != i) := by
          rw [List.filter_filter]
          congr 1
          funext j
          unfold upd
          by_cases e : j = i
          · subst e; simp
          · simp [e]
        rw [e]
        apply List.length_filter_lt_length_iff_exists.2
        exact ⟨i, List.mem_filter.2 ⟨List.mem_range.2 hi, by simp [hDi]⟩, by simp⟩
      omega

/-- How many whole units have gone by. -/
def ageAt (x k t : Int) : Int := if t < x then 0 else (t - x) / k

/-- Nothing that hangs on the clock turns from T to t, if the values stay. -/
def Still (C : Nat → Cel) (n : Nat) (V : Nat → Int) (T t : Int) : Prop :=
  ∀ i, i < n → ((C i).kind = 10 → (pk V n (C i).a ≤ t ↔ pk V n (C i).a ≤ T)) ∧ ((C i).kind = 11 → ageAt (pk V n (C i).a) (C i).k t = ageAt (pk V n (C i).a) (C i).k T)

/-- Then the values stay. -/
theorem stay {C : Nat → Cel} {n : Nat} {week : Int} {hol : List Int} {T t : Int} {V : Nat → Int} (h : LocalEq C n week hol T V) (hs : Still C n V T t) : LocalEq C n week hol t V := by
  intro i hi
  obtain ⟨h0, h2, h9, h10, h11, h12⟩ := h i hi
  obtain ⟨s10, s11⟩ := hs i hi
  refine ⟨h0, h2, h9, fun e => ?_, fun e => ?_, h12⟩
  · rw [h10 e]
    congr 1
    exact decide_eq_decide.2 (s10 e).symm
  · have := s11 e
    unfold ageAt at this
    rw [h11 e, this]

/-- An event. -/
structure Ev where
  t : Int
  r : Nat
  l : Int

/-- One rule settles. -/
def stepSt (r : Rul) (s : St) (g t : Int) : St :=
  if g = 0 then ⟨false, 0, 0, false⟩ else if s.lit = false then ⟨true, t, 0, false⟩ else if s.level < r.steps.length ∧ s.acked = false ∧ t = s.since + r.steps.getD s.level.toNat 0 then ⟨s.lit, s.since, s.level + 1, s.acked⟩ else s

def stepEv (r : Rul) (s : St) (g t : Int) (i : Nat) : List Ev :=
  if g = 0 then [] else if s.lit = false then [⟨t, i, 0⟩] else if s.level < r.steps.length ∧ s.acked = false ∧ t = s.since + r.steps.getD s.level.toNat 0 then [⟨t, i, s.level + 1⟩] else []

/-- A guard's value. -/
def grd (R : Nat → Rul) (V : Nat → Int) (i : Nat) : Int := V (R i).guard.toNat

/-- A rule's state is one that settling leaves: it is lit just where its guard is true. -/
def Cons (R : Nat → Rul) (k : Nat) (V : Nat → Int) (S : Nat → St) : Prop := ∀ i, i < k → (grd R V i = 0 → S i = ⟨false, 0, 0, false⟩) ∧ (grd R V i ≠ 0 → (S i).lit = true)

/-- No level comes at t. -/
def NoLevel (R : Nat → Rul) (k : Nat) (S : Nat → St) (t : Int) : Prop := ∀ i, i < k → (S i).lit = true → ¬ ((S i).level < (R i).steps.length ∧ (S i).acked = false ∧ t = (S i).since + (R i).steps.getD (S i).level.toNat 0)

theorem grd_eq {R : Nat → Rul} {n k : Nat} {V V' : Nat → Int} (hg : ∀ i, i < k → 0 ≤ (R i).guard ∧ (R i).guard < n) (h : ∀ j, j < n → V j = V' j) : ∀ i, i < k → grd R V i = grd R V' i := fun i hi => by
  obtain ⟨g0, g1⟩ := hg i hi
  exact h _ (by omega)

/-- A form. -/
structure Frm where
  C : Nat → Cel
  n : Nat
  R : Nat → Rul
  k : Nat
  hol : List Int
  week : Int

def Frm.Ok (f : Frm) : Prop := FormOk f.C f.n f.R f.k f.week f.hol

/-- What is filled in are values. -/
def FV (f : Frm) (F : Nat → Int) : Prop := ∀ i, i < f.n → (f.C i).kind = 0 → IsV (F i)

/-- The first of m days by which k such days have gone by. -/
def dueF (p : Int → Bool) (d : Int) (k : Nat) : Nat → Nat
  | 0 => 0
  | m + 1 => if k ≤ M.cnt p d m then dueF p d k m else m + 1

theorem dueF_is (p : Int → Bool) (d : Int) (k : Nat) : ∀ m : Nat, k ≤ M.cnt p d m → M.cnt p d (dueF p d k m) = k ∧ (dueF p d k m = 0 ∨ p (d + dueF p d k m) = true)
  | 0, h => ⟨by simp only [M.cnt] at h; simp only [dueF, M.cnt]; omega, Or.inl rfl⟩
  | m + 1, h => by
    unfold dueF
    by_cases hk : k ≤ M.cnt p d m
    · rw [if_pos hk]
      exact dueF_is p d k m hk
    · rw [if_neg hk]
      simp only [M.cnt] at h
      by_cases hp : p (d + ((m + 1 : Nat) : Int)) = true
      · exact ⟨by simp only [hp, if_true] at h; simp only [M.cnt, hp, if_true]; omega, Or.inr hp⟩
      · simp only [hp] at h; simp at h; omega

/-- A cell's value, as its row says, out of those that it needs. -/
def rowV (week : Int) (hol : List Int) (now : Int) (c : Cel) (x y z : Int) : Int :=
  if c.kind = 0 ∨ c.kind = 1 then c.k else if 2 ≤ c.kind ∧ c.kind ≤ 8 then M.two c.kind x y else if c.kind = 9 then (if x = 0 then z else y) else if c.kind = 10 then M.num (decide (x ≤ now)) else if c.kind = 11 then (if now < x then 0 else (now - x) / c.k)
  else M.cutv ((x / 86400 + (dueF (M.wkd week hol) (x / 86400) c.k.toNat ((11574 - x / 86400).toNat + c.k.toNat * 7) : Nat)) * 86400)

theorem rowV_rel {week : Int} {hol : List Int} (h1 : 1 ≤ week) (h2 : week ≤ 127) (hh : HolOk hol) (now : Int) (c : Cel) (x y z : Int) (k0 : 0 ≤ c.kind) (k1 : c.kind ≤ 12) : CRel week hol now c x y z (rowV week hol now c x y z) := by
  have cs : (c.kind = 0 ∨ c.kind = 1) ∨ (2 ≤ c.kind ∧ c.kind ≤ 8) ∨ c.kind = 9 ∨ c.kind = 10 ∨ c.kind = 11 ∨ c.kind = 12 := by omega
  unfold rowV
  rcases cs with e | e | e | e | e | e
  · rw [if_pos e]
    exact ⟨fun _ => rfl, fun g => by omega, fun g => by omega, fun g => by omega, fun g => by omega, fun g => by omega⟩
  · rw [if_neg (by omega), if_pos e]
    exact ⟨fun g => by omega, fun _ => rfl, fun g => by omega, fun g => by omega, fun g => by omega, fun g => by omega⟩
  · rw [if_neg (by omega), if_neg (by omega), if_pos e]
    exact ⟨fun g => by omega, fun g => by omega, fun _ => rfl, fun g => by omega, fun g => by omega, fun g => by omega⟩
  · rw [if_neg (by omega), if_neg (by omega), if_neg (by omega), if_pos e]
    exact ⟨fun g => by omega, fun g => by omega, fun g => by omega, fun _ => rfl, fun g => by omega, fun g => by omega⟩
  · rw [if_neg (by omega), if_neg (by omega), if_neg (by omega), if_neg (by omega), if_pos e]
    exact ⟨fun g => by omega, fun g => by omega, fun g => by omega, fun g => by omega, fun _ => rfl, fun g => by omega⟩
  · rw [if_neg (by omega), if_neg (by omega), if_neg (by omega), if_neg (by omega), if_neg (by omega)]
    have hc : c.k.toNat ≤ M.cnt (M.wkd week hol) (x / 86400) ((11574 - x / 86400).toNat + c.k.toNat * 7) := by
      have hx : ∀ h, h ∈ hol → h ≤ x / 86400 + ((11574 - x / 86400).toNat : Int) := fun h hm => by
        have := (hh.2.1 h hm).2
        omega
      rw [M.cnt_add, M.wkd_late hx, M.cnt_weeks]
      have := Nat.mul_le_mul_left c.k.toNat (M.week_some h1 h2)
      omega
    obtain ⟨n2, n3⟩ := dueF_is _ _ _ _ hc
    exact ⟨fun g => by omega, fun g => by omega, fun g => by omega, fun g => by omega, fun g => by omega, fun _ => ⟨_, ⟨_, rfl, n2, n3⟩, rfl⟩⟩

/-- The values that r rounds have worked out. -/
def valR (C : Nat → Cel) (n : Nat) (week : Int) (hol : List Int) (now : Int) : Nat → Nat → Int
  | 0 => fun _ => 0
  | r + 1 => fun i => rowV week hol now (C i) (pk (valR C n week hol now r) n (C i).a) (pk (valR C n week hol now r) n (C i).b) (pk (valR C n week hol now r) n (C i).c)

theorem valR_eq {C : Nat → Cel} {n : Nat} {week : Int} {hol : List Int} (h1 : 1 ≤ week) (h2 : week ≤ 127) (hh : HolOk hol) (hok : CellsOk C n) {now : Int} {V : Nat → Int} (h : LocalEq C n week hol now V) : ∀ r i, i < n → Lv C n r i → V i = valR C n week hol now r i := by
  intro r
  induction r with
  | zero => exact fun i _ hl => hl.elim
  | succ r ih =>
    intro i hi hl
    obtain ⟨k0, k1, _⟩ := hok i hi
    exact CRel.unique (h i hi) (rowV_rel h1 h2 hh now (C i) _ _ _ k0 k1) k0 k1 (fun p => pk_eq fun j e hj => ih j hj (hl j ⟨hi, Or.inl ⟨p, e⟩⟩)) (fun p => pk_eq fun j e hj => ih j hj (hl j ⟨hi, Or.inr (Or.inl ⟨p, e⟩)⟩)) (fun p => pk_eq fun j e hj => ih j hj (hl j ⟨hi, Or.inr (Or.inr ⟨p, e⟩)⟩))

/-- The values of a form's cells, as it is filled, at an instant. -/
def Frm.vals (f : Frm) (F : Nat → Int) (T : Int) : Nat → Int := valR (effC f.C F) f.n f.week f.hol T f.n

theorem vals_eq {f : Frm} (hf : f.Ok) {F : Nat → Int} (hF : FV f F) {T : Int} {V : Nat → Int} (h : LocalEq (effC f.C F) f.n f.week f.hol T V) : ∀ i, i < f.n → V i = f.vals F T i := fun i hi => by
  obtain ⟨_, _, _, w1, w2⟩ := hf.sizes
  exact valR_eq w1 w2 hf.hol (effC_ok hf.cells hF) h f.n i hi (lv_all (effC_ok hf.cells hF) (effC_ring hf.ring) hi)

theorem vals_local {f : Frm} (hf : f.Ok) {F : Nat → Int} (hF : FV f F) {T : Int} (t0 : 0 ≤ T) (t1 : T ≤ 1000000000) : LocalEq (effC f.C F) f.n f.week f.hol T (f.vals F T) ∧ ∀ i, i < f.n → IsV (f.vals F T i) := by
  obtain ⟨_, _, _, w1, w2⟩ := hf.sizes
  obtain ⟨V, h1, h2⟩ := values_exist w1 w2 hf.hol (effC_ok hf.cells hF) (effC_ring hf.ring) T t0 t1
  have e := vals_eq hf hF h1
  have q : ∀ a, pk V f.n a = pk (f.vals F T) f.n a := fun a => pk_eq fun j _ hj => e j hj
  refine ⟨fun i hi => ?_, fun i hi => ?_⟩
  · have := h1 i hi
    unfold LocalAt at this ⊢
    rw [← q, ← q, ← q, ← e i hi]
    exact this
  · rw [← e i hi]
    exact h2 i hi

/-- A case: what is filled in, the present instant, whether it is open, the rules' states, the log. -/
structure Cs where
  F : Nat → Int
  T : Int
  op : Bool
  S : Nat → St
  E : List Ev

def setS (f : Frm) (V : Nat → Int) (t : Int) (S : Nat → St) : Nat → St := fun i => if i < f.k then stepSt (f.R i) (S i) (grd f.R V i) t else S i

def setE (f : Frm) (V : Nat → Int) (t : Int) (S : Nat → St) : List Ev := (List.range f.k).flatMap (fun i => stepEv (f.R i) (S i) (grd f.R V i) t i)

/-- A case settles. -/
def Cs.settle (f : Frm) (m : Cs) : Cs := if m.op = true then ⟨m.F, m.T, m.op, setS f (f.vals m.F m.T) m.T m.S, m.E ++ setE f (f.vals m.F m.T) m.T m.S⟩ else m

/-- The clock stands at t. -/
def Cs.at (m : Cs) (t : Int) : Cs := ⟨m.F, t, m.op, m.S, m.E⟩

/-- The clock goes on, instant by instant. -/
def Cs.go (f : Frm) (m : Cs) : Nat → Cs
  | 0 => m
  | j + 1 => Cs.settle f ((Cs.go f m j).at (m.T + (j + 1 : Nat)))

theorem settle_F (f : Frm) (m : Cs) : (m.settle f).F = m.F := by unfold Cs.settle; split <;> rfl

theorem settle_T (f : Frm) (m : Cs) : (m.settle f).T = m.T := by unfold Cs.settle; split <;> rfl

theorem settle_op (f : Frm) (m : Cs) : (m.settle f).op = m.op := by unfold Cs.settle; split <;> rfl

theorem go_F (f : Frm) (m : Cs) (j : Nat) : (m.go f j).F = m.F := by
  induction j with
  | zero => rfl
  | succ j ih => show (Cs.settle f _).F = _; rw [settle_F]; exact ih

theorem go_op (f : Frm) (m : Cs) (j : Nat) : (m.go f j).op = m.op := by
  induction j with
  | zero => rfl
  | succ j ih => show (Cs.settle f _).op = _; rw [settle_op]; exact ih

theorem go_T (f : Frm) (m : Cs) (j : Nat) : (m.go f j).T = m.T + j := by
  cases j with
  | zero => show m.T = m.T + (0 : Nat); omega
  | succ j => show (Cs.settle f _).T = _; rw [settle_T]; rfl

theorem go_add (f : Frm) (m : Cs) (a : Nat) : ∀ b, m.go f (a + b) = (m.go f a).go f b := by
  intro b
  induction b with
  | zero => rfl
  | succ b ih =>
    show Cs.settle f ((m.go f (a + b)).at (m.T + ((a + b) + 1 : Nat))) = Cs.settle f (((m.go f a).go f b).at ((m.go f a).T + (b + 1 : Nat)))
    rw [ih, go_T, show m.T + ((a + b + 1 : Nat) : Int) = m.T + a + (b + 1 : Nat) by omega]

def noSt : St := ⟨false, 0, 0, false⟩

/-- What stands between the calls. -/
structure Cs.Ok (f : Frm) (m : Cs) : Prop where
  t0 : 0 ≤ m.T
  t1 : m.T ≤ 1000000000
  fv : FV f m.F
  st : ∀ i, i < f.k → StOk (m.S i)
  lit : m.op = true → Cons f.R f.k (f.vals m.F m.T) m.S
  shut : m.op = false → ∀ i, i < f.k → m.S i = noSt

/-- The log is no longer than it can be. -/
def Few (b : Nat) (m : Cs) : Prop := (m.E.length : Int) ≤ 6 * (m.T + b)

theorem stepEv_len (r : Rul) (s : St) (g t : Int) (i : Nat) : (stepEv r s g t i).length ≤ 1 := by
  unfold stepEv
  split
  · simp
  split
  · simp
  split <;> simp

theorem flat_len {g : Nat → List Ev} (h : ∀ i, (g i).length ≤ 1) : ∀ k, ((List.range k).flatMap g).length ≤ k := by
  intro k
  induction k with
  | zero => simp
  | succ k ih =>
    rw [List.range_succ, List.flatMap_append, List.length_append]
    have := h k
    have e : (List.flatMap g [k]) = g k := by simp
    rw [e]
    omega

theorem setE_len (f : Frm) (V : Nat → Int) (t : Int) (S : Nat → St) : (setE f V t S).length ≤ f.k := flat_len (fun i => stepEv_len _ _ _ _ _) f.k

theorem settle_len (f : Frm) (m : Cs) : (m.settle f).E.length ≤ m.E.length + f.k := by
  unfold Cs.settle
  split
  · have := setE_len f (f.vals m.F m.T) m.T m.S
    simp
    omega
  · omega

theorem go_few {f : Frm} (hf : f.Ok) {b : Nat} {m : Cs} (h : Few b m) (j : Nat) : Few b (m.go f j) := by
  obtain ⟨_, _, k6, _, _⟩ := hf.sizes
  induction j with
  | zero => exact h
  | succ j ih =>
    unfold Few at ih ⊢
    have h1 := settle_len f ((Cs.go f m j).at (m.T + (j + 1 : Nat)))
    have h2 : ((Cs.go f m j).at (m.T + (j + 1 : Nat))).E = (Cs.go f m j).E := rfl
    rw [h2] at h1
    rw [go_T] at ih ⊢
    have h3 : m.go f (j + 1) = Cs.settle f ((Cs.go f m j).at (m.T + (j + 1 : Nat))) := rfl
    rw [h3]
    omega

theorem stepSt_ok {r : Rul} {n : Nat} (hr : RuleOk r n) {s : St} (h : StOk s) {g t : Int} (t0 : 0 ≤ t) (t1 : t ≤ 1000000000) : StOk (stepSt r s g t) := by
  obtain ⟨h1, h2, h3, h4⟩ := h
  obtain ⟨_, _, r3, _⟩ := hr
  unfold stepSt
  split
  · exact ⟨Int.le_refl _, by show (0 : Int) ≤ _; omega, Int.le_refl _, by show (0 : Int) ≤ _; omega⟩
  split
  · exact ⟨t0, t1, Int.le_refl _, by show (0 : Int) ≤ _; omega⟩
  split
  · rename_i hc
    have := hc.1
    exact ⟨h1, h2, by show 0 ≤ s.level + 1; omega, by show s.level + 1 ≤ 1000; omega⟩
  · exact ⟨h1, h2, h3, h4⟩

theorem set_cons (f : Frm) (V : Nat → Int) (t : Int) (S : Nat → St) : Cons f.R f.k V (setS f V t S) := by
  intro i hi
  unfold setS
  rw [if_pos hi]
  unfold stepSt
  refine ⟨fun h => by rw [if_pos h], fun h => ?_⟩
  rw [if_neg h]
  by_cases hl : (S i).lit = false
  · rw [if_pos hl]
  · rw [if_neg hl]
    have hl' : (S i).lit = true := by simpa using hl
    split
    · exact hl'
    · exact hl'

/-- A case that has just settled is as it should be. -/
theorem settle_ok {f : Frm} (hf : f.Ok) {m : Cs} (t0 : 0 ≤ m.T) (t1 : m.T ≤ 1000000000) (fv : FV f m.F) (st : ∀ i, i < f.k → StOk (m.S i)) (shut : m.op = false → ∀ i, i < f.k → m.S i = noSt) : (m.settle f).Ok f := by
  refine ⟨by rw [settle_T]; exact t0, by rw [settle_T]; exact t1, by rw [settle_F]; exact fv, ?_, ?_, ?_⟩
  · unfold Cs.settle
    split
    · intro i hi
      show StOk (if i < f.k then _ else _)
      rw [if_pos hi]
      exact stepSt_ok (hf.rules i hi) (st i hi) t0 t1
    · exact st
  · intro ho
    rw [settle_op] at ho
    rw [settle_F, settle_T]
    unfold Cs.settle
    rw [if_pos ho]
    exact set_cons f _ _ _
  · intro ho
    rw [settle_op] at ho
    unfold Cs.settle
    rw [if_neg (by simp [ho])]
    exact shut ho

theorem go_ok {f : Frm} (hf : f.Ok) {m : Cs} (h : m.Ok f) : ∀ j : Nat, m.T + j ≤ 1000000000 → (m.go f j).Ok f := by
  intro j
  induction j with
  | zero => exact fun _ => h
  | succ j ih =>
    intro hj
    have i := ih (by omega)
    have t0 := h.t0
    exact settle_ok hf (by show 0 ≤ m.T + _; omega) hj i.fv i.st i.shut

/-- Nothing comes about at t, if it is the first instant at which anything does. -/
def Quiet (f : Frm) (m : Cs) (t : Int) : Prop := Still (effC f.C m.F) f.n (f.vals m.F m.T) m.T t ∧ NoLevel f.R f.k m.S t

theorem quiet_vals {f : Frm} (hf : f.Ok) {m : Cs} (h : m.Ok f) {t : Int} (hq : Quiet f m t) : ∀ i, i < f.n → f.vals m.F m.T i = f.vals m.F t i :=
  vals_eq hf h.fv (stay (vals_local hf h.fv h.t0 h.t1).1 hq.1)

theorem quiet_settle {f : Frm} (hf : f.Ok) {m : Cs} (h : m.Ok f) {t : Int} (hq : Quiet f m t) : Cs.settle f (m.at t) = m.at t := by
  unfold Cs.settle
  by_cases ho : (m.at t).op = true
  · rw [if_pos ho]
    have hg := grd_eq (fun i hi => ⟨(hf.rules i hi).1, (hf.rules i hi).2.1⟩) (quiet_vals hf h hq)
    have hc := h.lit ho
    have key : ∀ i, i < f.k → stepSt (f.R i) (m.S i) (grd f.R (f.vals m.F t) i) t = m.S i ∧ stepEv (f.R i) (m.S i) (grd f.R (f.vals m.F t) i) t i = [] := by
      intro i hi
      obtain ⟨c0, c1⟩ := hc i hi
      rw [← hg i hi]
      unfold stepSt stepEv
      by_cases g0 : grd f.R (f.vals m.F m.T) i = 0
      · rw [if_pos g0, if_pos g0]
        exact ⟨(c0 g0).symm, rfl⟩
      · have hl := c1 g0
        have hlf : ¬ (m.S i).lit = false := by simp [hl]
        have hnl := hq.2 i hi hl
        simp only [if_neg g0, if_neg hlf, if_neg hnl]
        exact ⟨trivial, trivial⟩
    have e1 : setS f (f.vals m.F t) t m.S = m.S := by
      funext i
      unfold setS
      by_cases hi : i < f.k
      · rw [if_pos hi]; exact (key i hi).1
      · rw [if_neg hi]
    have e2 : setE f (f.vals m.F t) t m.S = [] := by
      unfold setE
      rw [List.flatMap_eq_nil_iff]
      intro i hi
      exact (key i (List.mem_range.1 hi)).2
    show Cs.mk m.F t m.op (setS f (f.vals m.F t) t m.S) (m.E ++ setE f (f.vals m.F t) t m.S) = _
    rw [e1, e2, List.append_nil]
    rfl
  · rw [if_neg ho]

/-- The clock may leave out the instants at which nothing comes about. -/
theorem go_quiet {f : Frm} (hf : f.Ok) {m : Cs} (h : m.Ok f) : ∀ j : Nat, (∀ i : Nat, 1 ≤ i → i ≤ j → Quiet f m (m.T + i)) → m.go f j = m.at (m.T + j) := by
  intro j
  induction j with
  | zero =>
    intro _
    show m = m.at (m.T + (0 : Nat))
    rw [show m.T + ((0 : Nat) : Int) = m.T by omega]
    rfl
  | succ j ih =>
    intro hq
    show Cs.settle f ((Cs.go f m j).at (m.T + (j + 1 : Nat))) = _
    rw [ih (fun i a b => hq i a (by omega))]
    exact quiet_settle hf h (hq (j + 1) (by omega) (Nat.le_refl _))

/-- It goes on to the first instant at which something could. -/
theorem go_next {f : Frm} (hf : f.Ok) {m : Cs} (h : m.Ok f) {t : Int} (ht : m.T < t) (hq : ∀ u, m.T < u → u < t → Quiet f m u) : m.go f (t - m.T).toNat = Cs.settle f (m.at t) := by
  obtain ⟨j, hj⟩ : ∃ j : Nat, (t - m.T).toNat = j + 1 := ⟨(t - m.T).toNat - 1, by omega⟩
  rw [hj]
  show Cs.settle f ((Cs.go f m j).at (m.T + (j + 1 : Nat))) = _
  rw [go_quiet hf h j (fun i a b => hq _ (by omega) (by omega)), show m.T + ((j + 1 : Nat) : Int) = t by omega]
  rfl

end Go.Proofs.YtcondcffllaaoaaDoor

/-
  TEXTS, as mathematics: a form's text.
-/
set_option linter.unusedVariables false
set_option linter.unusedSimpArgs false
namespace Go.Proofs.YtcondcffllaaoaaDoor
open Go.RowKit
open Go.Lib (itoa decDigits nDigits)

def celL (c : Cel) : List Int := c.kind :: nmL c
def rulL (r : Rul) : List Int := r.guard :: r.steps
def Frm.doc (f : Frm) : Doc := ⟨f.week :: f.hol, (List.range f.n).map (fun i => celL (f.C i)), (List.range f.k).map (fun i => rulL (f.R i))⟩

/-- A cell that has noughts where its row names nothing. -/
def Bare (c : Cel) : Prop := ∃ (kd : Nat) (ln : List Int) (K : Int), c = ⟨kd, ln.getD 0 0, ln.getD 1 0, ln.getD 2 0, K⟩ ∧ kd ≤ 12 ∧ (ln.length : Int) = needsN kd ∧ (hasKB kd = false → K = 0)

theorem bare_nmL {kd : Nat} {ln : List Int} {K : Int} (h12 : kd ≤ 12) (hl : (ln.length : Int) = needsN kd) : nmL ⟨kd, ln.getD 0 0, ln.getD 1 0, ln.getD 2 0, K⟩ = ln ++ kL kd K := by
  have e0 : (need0 (kd : Int)).toNat = ln.length := by rw [need_want h12, ← hl]; simp
  have b3 : ln.length ≤ 3 := by have := (need0_bd (kd : Int)).2; omega
  unfold nmL kL
  show ndL _ (need0 (kd : Int)).toNat ++ _ = _
  rw [e0]
  congr 1
  unfold ndL
  refine List.ext_getElem (by simp) (fun i h1 h2 => ?_)
  rw [List.getElem_map, List.getElem_range]
  unfold needp
  have : i = 0 ∨ i = 1 ∨ i = 2 := by omega
  rcases this with rfl | rfl | rfl
  · simp [List.getD, h2]
  · simp [List.getD, h2]
  · simp [List.getD, h2]

theorem wantK_len {kd : Nat} {ln : List Int} {K : Int} (hl : (ln.length : Int) = needsN kd) : ((ln ++ kL kd K).length : Int) = wantK kd := by
  unfold wantK kL
  rw [← hl]
  split
  · simp
  · simp

theorem bare_line {kd : Nat} {ln : List Int} {K : Int} (h12 : kd ≤ 12) (hl : (ln.length : Int) = needsN kd) (hn : ∀ x ∈ ln ++ kL kd K, N10 x) : celL ⟨kd, ln.getD 0 0, ln.getD 1 0, ln.getD 2 0, K⟩ = (kd : Int) :: (ln ++ kL kd K) ∧ CellL (celL ⟨kd, ln.getD 0 0, ln.getD 1 0, ln.getD 2 0, K⟩) := by
  have e : celL ⟨kd, ln.getD 0 0, ln.getD 1 0, ln.getD 2 0, K⟩ = (kd : Int) :: (ln ++ kL kd K) := by unfold celL; rw [bare_nmL h12 hl]
  refine ⟨e, ?_⟩
  rw [e]
  exact ⟨kd, _, rfl, by omega, by omega, wantK_len hl, hn⟩

def Frm.addC (f : Frm) (c : Cel) : Frm := { f with n := f.n + 1, C := upd f.C f.n c }
def Frm.addR (f : Frm) (r : Rul) : Frm := { f with k := f.k + 1, R := upd f.R f.k r }

theorem csT_snoc (cs : List (List Int)) (l : List Int) : csT (cs ++ [l]) = csT cs ++ lineT 99 l := by unfold csT; simp
theorem rsT_snoc (cs : List (List Int)) (l : List Int) : rsT (cs ++ [l]) = rsT cs ++ lineT 114 l := by unfold rsT; simp

theorem map_upd {α β : Type} (f : α → β) (C : Nat → α) (n : Nat) (c : α) : (List.range (n + 1)).map (fun i => f (upd C n c i)) = (List.range n).map (fun i => f (C i)) ++ [f c] := by
  rw [List.range_succ, List.map_append, List.map_cons, List.map_nil, upd_same]
  congr 1
  refine List.map_congr_left (fun j hj => ?_)
  rw [upd_other _ _ (by have := List.mem_range.1 hj; omega)]

theorem Frm.doc_addC (f : Frm) (c : Cel) (h : f.k = 0) : (f.addC c).doc.text = f.doc.text ++ lineT 99 (celL c) := by
  show lineT 119 _ ++ (csT ((List.range (f.n + 1)).map (fun i => celL (upd f.C f.n c i))) ++ rsT ((List.range f.k).map _)) = lineT 119 _ ++ (csT _ ++ rsT ((List.range f.k).map _)) ++ _
  rw [map_upd celL, csT_snoc, h]
  simp [rsT]
  rfl
theorem Frm.doc_addR (f : Frm) (r : Rul) : (f.addR r).doc.text = f.doc.text ++ lineT 114 (rulL r) := by
  show lineT 119 _ ++ (csT _ ++ rsT ((List.range (f.k + 1)).map (fun i => rulL (upd f.R f.k r i)))) = lineT 119 _ ++ (csT _ ++ rsT ((List.range f.k).map _)) ++ _
  rw [map_upd rulL, rsT_snoc]
  simp [Frm.doc]
  rfl

/-- What a text's form is. -/
structure Frm.Txt (f : Frm) : Prop where
  ok : f.doc.Ok
  bare : ∀ i, i < f.n → Bare (f.C i)

theorem Frm.Txt.addC {f : Frm} (h : f.Txt) {c : Cel} (hb : Bare c) (hl : CellL (celL c)) : (f.addC c).Txt := by
  refine ⟨⟨h.ok.w, ?_, h.ok.rs⟩, fun i hi => ?_⟩
  · show ∀ l ∈ (List.range (f.n + 1)).map (fun i => celL (upd f.C f.n c i)), CellL l
    rw [map_upd celL]
    intro l hm
    rcases List.mem_append.1 hm with g | g
    · exact h.ok.cs l g
    · rw [List.mem_singleton.1 g]; exact hl
  · show Bare (upd f.C f.n c i)
    by_cases e : i = f.n
    · subst e; rw [upd_same]; exact hb
    · rw [upd_other _ _ e]; exact h.bare i (by have : i < f.n + 1 := hi; omega)
theorem Frm.Txt.addR {f : Frm} (h : f.Txt) {r : Rul} (hl : ∀ x ∈ rulL r, N10 x) : (f.addR r).Txt := by
  refine ⟨⟨h.ok.w, h.ok.cs, ?_⟩, fun i hi => h.bare i hi⟩
  show ∀ l ∈ (List.range (f.k + 1)).map (fun i => rulL (upd f.R f.k r i)), RowL l
  rw [map_upd rulL]
  intro l hm
  rcases List.mem_append.1 hm with g | g
  · exact h.ok.rs l g
  · rw [List.mem_singleton.1 g]; exact ⟨by unfold rulL; simp, hl⟩

def frm0 (week : Int) (hol : List Int) : Frm := ⟨fun _ => ⟨0, 0, 0, 0, 0⟩, 0, fun _ => ⟨0, []⟩, 0, hol, week⟩
theorem frm0_txt {week : Int} {hol : List Int} (h : ∀ x ∈ week :: hol, N10 x) : (frm0 week hol).Txt ∧ (frm0 week hol).doc.text = lineT 119 (week :: hol) := by
  refine ⟨⟨⟨⟨by simp [Frm.doc], h⟩, fun l hl => by simp [Frm.doc, frm0] at hl, fun l hl => by simp [Frm.doc, frm0] at hl⟩, fun i hi => by simp [frm0] at hi⟩, ?_⟩
  show lineT 119 (week :: hol) ++ (csT [] ++ rsT []) = _
  simp [csT, rsT]

/-! ### Lengths -/
theorem lineT_len (c : UInt8) (l : List Int) : l.length + 2 ≤ (lineT c l).length := by
  unfold lineT
  rw [List.length_cons, List.length_append]
  have := numsT_len l
  simp
  omega
theorem lines_len (c : UInt8) (ls : List (List Int)) : ls.length ≤ (ls.flatMap (lineT c)).length ∧ ∀ l ∈ ls, l.length ≤ (ls.flatMap (lineT c)).length := by
  induction ls with
  | nil => exact ⟨by simp, fun l h => by simp at h⟩
  | cons a ls ih =>
    have := lineT_len c a
    rw [List.flatMap_cons, List.length_append]
    refine ⟨by rw [List.length_cons]; omega, fun l h => ?_⟩
    rcases List.mem_cons.1 h with rfl | h
    · omega
    · have := ih.2 l h; omega
theorem Frm.few (f : Frm) : f.n ≤ f.doc.text.length ∧ f.k ≤ f.doc.text.length ∧ f.hol.length ≤ f.doc.text.length ∧ ∀ i, i < f.k → (f.R i).steps.length ≤ f.doc.text.length := by
  have e : f.doc.text.length = (lineT 119 (f.week :: f.hol)).length + ((csT ((List.range f.n).map (fun i => celL (f.C i)))).length + (rsT ((List.range f.k).map (fun i => rulL (f.R i)))).length) := by
    show (lineT 119 _ ++ (csT _ ++ rsT _)).length = _
    rw [List.length_append, List.length_append]
    rfl
  have h1 := lineT_len 119 (f.week :: f.hol)
  have h2 := lines_len 99 ((List.range f.n).map (fun i => celL (f.C i)))
  have h3 := lines_len 114 ((List.range f.k).map (fun i => rulL (f.R i)))
  have h20 := h2.1
  have h30 := h3.1
  rw [List.length_map, List.length_range] at h20 h30
  unfold csT rsT at e
  rw [List.length_cons] at h1
  refine ⟨by omega, by omega, by omega, fun i hi => ?_⟩
  have h4 := h3.2 (rulL (f.R i)) (List.mem_map.2 ⟨i, List.mem_range.2 hi, rfl⟩)
  have : (rulL (f.R i)).length = (f.R i).steps.length + 1 := by simp [rulL]
  omega

end Go.Proofs.YtcondcffllaaoaaDoor

/-
  TEXTS, as mathematics: a number, read digit by digit.
-/
set_option linter.unusedVariables false
set_option linter.unusedSimpArgs false
namespace Go.Proofs.YtcondcffllaaoaaDoor
open Go.Lib (itoa decDigits nDigits)

def valF (a : Nat) (q : List UInt8) : Nat := q.foldl (fun a c => 10 * a + (c.toNat - 48)) a
theorem valF_nil (a : Nat) : valF a [] = a := rfl
theorem valF_cons (a : Nat) (c : UInt8) (q : List UInt8) : valF a (c :: q) = valF (10 * a + (c.toNat - 48)) q := by unfold valF; rw [List.foldl_cons]
theorem valF_le : ∀ (q : List UInt8) (a : Nat), a ≤ valF a q := by
  intro q
  induction q with
  | nil => exact fun a => Nat.le_refl _
  | cons c q ih => intro a; rw [valF_cons]; have := ih (10 * a + (c.toNat - 48)); omega
theorem valF_dec (n : Nat) : valF 0 (decDigits n) = n := by
  induction n using Nat.strongRecOn with
  | ind n ih =>
    by_cases h : n < 10
    · rw [dec_one h, valF_cons, valF_nil, ofNat_toNat h]; omega
    · have h1 : n = 10 * (n / 10) + n % 10 := by omega
      have h2 := ih (n / 10) (by omega)
      rw [h1, dec_more (by omega) (by omega)]
      unfold valF
      rw [List.foldl_append]
      show 10 * valF 0 (decDigits (n / 10)) + ((UInt8.ofNat (48 + n % 10)).toNat - 48) = _
      rw [h2, ofNat_toNat (by omega)]
      omega

/-- Within a number: cur is what was read of it, q is still to be read. -/
def NumSt (n cur : Int) (m : Bool) (q : List UInt8) : Prop :=
  (cur = 0 ∧ m = false ∧ q = 45 :: decDigits n.natAbs ∧ n < 0) ∨ (∃ a : Nat, (∀ c ∈ q, Dg c) ∧ valF a q = n.natAbs ∧ m = decide (n < 0) ∧ cur = (if n < 0 then -(a : Int) else a))

theorem NumSt.start (n : Int) : NumSt n 0 false (itoa n) := by
  by_cases h : n < 0
  · obtain ⟨k, hk⟩ := Int.eq_ofNat_of_zero_le (show 0 ≤ -n by omega)
    obtain rfl : n = -(k : Int) := by omega
    left
    exact ⟨rfl, rfl, by rw [itoa_neg (by omega)]; simp, h⟩
  · obtain ⟨k, rfl⟩ := Int.eq_ofNat_of_zero_le (show 0 ≤ n by omega)
    right
    refine ⟨0, ?_, ?_, by simp, by simp⟩
    · rw [itoa_pos]; exact dec_digits k
    · rw [itoa_pos, valF_dec]; simp
theorem NumSt.done {n cur : Int} {m : Bool} (h : NumSt n cur m []) : cur = n := by
  rcases h with ⟨_, _, h, _⟩ | ⟨a, _, h1, _, h2⟩
  · cases h
  · rw [valF_nil] at h1
    rw [h2]
    split
    · omega
    · omega
theorem NumSt.step {n cur : Int} {m : Bool} {c : UInt8} {q : List UInt8} (h : NumSt n cur m (c :: q)) :
    (c = 45 ∧ NumSt n cur true q) ∨ (Dg c ∧ NumSt n (10 * cur + (if m = true then -((c.toNat : Int) - 48) else (c.toNat : Int) - 48)) m q ∧ cur.natAbs ≤ n.natAbs) := by
  rcases h with ⟨rfl, rfl, h, hn⟩ | ⟨a, h1, h2, rfl, rfl⟩
  · obtain ⟨rfl, rfl⟩ := List.cons.inj h
    left
    refine ⟨rfl, Or.inr ⟨0, dec_digits _, valF_dec _, by simp [hn], by simp⟩⟩
  · right
    have hc := h1 c (by simp)
    have hd := hc
    unfold Dg at hd
    rw [valF_cons] at h2
    refine ⟨hc, Or.inr ⟨10 * a + (c.toNat - 48), fun x hx => h1 x (by simp [hx]), h2, rfl, ?_⟩, ?_⟩
    · by_cases hn : n < 0
      · simp only [hn, if_true, decide_true]; omega
      · simp only [hn, if_false, decide_false]; simp; omega
    · have := valF_le q (10 * a + (c.toNat - 48))
      split <;> omega

theorem dg_ne {c : UInt8} (h : Dg c) : c ≠ 10 ∧ c ≠ 32 ∧ c ≠ 45 := by
  unfold Dg at h
  refine ⟨?_, ?_, ?_⟩ <;> (rintro rfl; revert h; decide)

end Go.Proofs.YtcondcffllaaoaaDoor

/-
  TEXTS, as mathematics: a text is of one form alone.
-/
set_option linter.unusedVariables false
set_option linter.unusedSimpArgs false
namespace Go.Proofs.YtcondcffllaaoaaDoor
open Go.RowKit
open Go.Lib (itoa decDigits nDigits)

def NumB (c : UInt8) : Prop := Dg c ∨ c = 45
theorem itoa_bytes (n : Int) : ∀ c ∈ itoa n, NumB c := by
  by_cases h : n < 0
  · obtain ⟨k, hk⟩ := Int.eq_ofNat_of_zero_le (show 0 ≤ -n by omega)
    obtain rfl : n = -(k : Int) := by omega
    rw [itoa_neg (by omega)]
    intro c hc
    rcases List.mem_cons.1 hc with rfl | hc
    · exact Or.inr rfl
    · exact Or.inl (dec_digits _ c hc)
  · obtain ⟨k, rfl⟩ := Int.eq_ofNat_of_zero_le (show 0 ≤ n by omega)
    rw [itoa_pos]
    exact fun c hc => Or.inl (dec_digits _ c hc)
theorem itoa_inj {n m : Int} (h : itoa n = itoa m) : n = m := by
  have key : ∀ n : Int, (n < 0 ∧ ∃ t, itoa n = 45 :: t ∧ (valF 0 t : Int) = -n) ∨ (0 ≤ n ∧ (∀ c t, itoa n = c :: t → c ≠ 45) ∧ (valF 0 (itoa n) : Int) = n) := by
    intro n
    by_cases h : n < 0
    · obtain ⟨k, hk⟩ := Int.eq_ofNat_of_zero_le (show 0 ≤ -n by omega)
      obtain rfl : n = -(k : Int) := by omega
      left
      exact ⟨h, decDigits k, itoa_neg (by omega), by rw [valF_dec]; omega⟩
    · obtain ⟨k, rfl⟩ := Int.eq_ofNat_of_zero_le (show 0 ≤ n by omega)
      right
      refine ⟨by omega, fun c t e => ?_, by rw [itoa_pos, valF_dec]⟩
      rw [itoa_pos] at e
      exact (dg_ne (dec_digits k c (by rw [e]; simp))).2.2
  rcases key n with ⟨h1, t, e1, v1⟩ | ⟨h1, e1, v1⟩ <;> rcases key m with ⟨h2, t2, e2, v2⟩ | ⟨h2, e2, v2⟩
  · rw [e1, e2] at h
    have := (List.cons.inj h).2
    rw [this] at v1
    omega
  · rw [e1] at h
    exact absurd rfl (e2 _ _ h.symm)
  · rw [e2] at h
    exact absurd rfl (e1 _ _ h)
  · rw [h] at v1
    omega

/-- What comes behind a number: no sign of a number. -/
def Stops (r : List UInt8) : Prop := ∀ c t, r = c :: t → ¬ NumB c
theorem stops10 (r : List UInt8) : Stops (10 :: r) := fun c t e => by
  rw [← (List.cons.inj e).1]; unfold NumB Dg; decide
theorem stops32 (r : List UInt8) : Stops (32 :: r) := fun c t e => by
  rw [← (List.cons.inj e).1]; unfold NumB Dg; decide
theorem nums_stops (l : List Int) (r : List UInt8) : Stops (numsT l ++ 10 :: r) := by
  cases l with
  | nil => exact stops10 _
  | cons n l => rw [numsT_cons]; exact stops32 _

theorem pre_inj {p : UInt8 → Prop} : ∀ {a b x y : List UInt8}, (∀ c ∈ a, p c) → (∀ c ∈ b, p c) → (∀ c t, x = c :: t → ¬ p c) → (∀ c t, y = c :: t → ¬ p c) → a ++ x = b ++ y → a = b ∧ x = y := by
  intro a
  induction a with
  | nil =>
    intro b x y _ hb hx _ e
    cases b with
    | nil => exact ⟨rfl, e⟩
    | cons c b => exact absurd (hb c (by simp)) (hx c (b ++ y) e)
  | cons c a ih =>
    intro b x y ha hb hx hy e
    cases b with
    | nil => exact absurd (ha c (by simp)) (hy c (a ++ x) e.symm)
    | cons d b =>
      obtain ⟨q1, q2⟩ := List.cons.inj e
      obtain ⟨e1, e2⟩ := ih (fun c h => ha c (List.mem_cons_of_mem _ h)) (fun c h => hb c (List.mem_cons_of_mem _ h)) hx hy q2
      exact ⟨by rw [q1, e1], e2⟩

theorem nums_inj : ∀ {l l' : List Int} {r r' : List UInt8}, numsT l ++ 10 :: r = numsT l' ++ 10 :: r' → l = l' ∧ r = r' := by
  intro l
  induction l with
  | nil =>
    intro l' r r' e
    cases l' with
    | nil => exact ⟨rfl, (List.cons.inj e).2⟩
    | cons n t => rw [numsT_cons] at e; exact absurd (List.cons.inj e).1 (by decide)
  | cons n l ih =>
    intro l' r r' e
    cases l' with
    | nil => rw [numsT_cons] at e; exact absurd (List.cons.inj e).1 (by decide)
    | cons m t =>
      rw [numsT_cons, numsT_cons] at e
      have e : itoa n ++ numsT l ++ 10 :: r = itoa m ++ numsT t ++ 10 :: r' := (List.cons.inj e).2
      rw [List.append_assoc, List.append_assoc] at e
      obtain ⟨e1, e2⟩ := pre_inj (itoa_bytes n) (itoa_bytes m) (nums_stops _ _) (nums_stops _ _) e
      obtain ⟨rfl, rfl⟩ := ih e2
      exact ⟨by rw [itoa_inj e1], rfl⟩
theorem line_inj {c c' : UInt8} {l l' : List Int} {r r' : List UInt8} (e : lineT c l ++ r = lineT c' l' ++ r') : c = c' ∧ l = l' ∧ r = r' := by
  unfold lineT at e
  obtain ⟨h1, h2⟩ := List.cons.inj e
  have h2 : numsT l ++ [10] ++ r = numsT l' ++ [10] ++ r' := h2
  rw [List.append_assoc, List.append_assoc] at h2
  obtain ⟨h3, h4⟩ := nums_inj (r := r) (r' := r') h2
  exact ⟨h1, h3, h4⟩
theorem lines_inj {c : UInt8} : ∀ {a b : List (List Int)} {x y : List UInt8}, (∀ t, x ≠ c :: t) → (∀ t, y ≠ c :: t) → a.flatMap (lineT c) ++ x = b.flatMap (lineT c) ++ y → a = b ∧ x = y := by
  intro a
  induction a with
  | nil =>
    intro b x y hx _ e
    cases b with
    | nil => exact ⟨rfl, e⟩
    | cons l b => rw [List.flatMap_cons] at e; exact absurd e (hx _)
  | cons l a ih =>
    intro b x y hx hy e
    cases b with
    | nil => rw [List.flatMap_cons] at e; exact absurd e.symm (hy _)
    | cons m b =>
      rw [List.flatMap_cons, List.flatMap_cons, List.append_assoc, List.append_assoc] at e
      obtain ⟨_, q1, q2⟩ := line_inj e
      obtain ⟨q3, q4⟩ := ih hx hy q2
      exact ⟨by rw [q1, q3], q4⟩
theorem Doc.inj {d d' : Doc} (e : d.text = d'.text) : d = d' := by
  unfold Doc.text at e
  obtain ⟨_, e1, e2⟩ := line_inj e
  have no : ∀ rs : List (List Int), ∀ t, rsT rs ≠ 99 :: t := fun rs t e => by
    unfold rsT at e
    cases rs with
    | nil => cases e
    | cons l rs => rw [List.flatMap_cons] at e; exact absurd (List.cons.inj e).1 (by decide)
  obtain ⟨e3, e4⟩ := lines_inj (c := 99) (no _) (no _) e2
  obtain ⟨e5, _⟩ := lines_inj (c := 114) (x := []) (y := []) (by simp) (by simp) (show rsT d.rs ++ [] = rsT d'.rs ++ [] by rw [e4])
  cases d
  cases d'
  simp_all

theorem bare_inj {c c' : Cel} (h : Bare c) (h' : Bare c') (e : celL c = celL c') : c = c' := by
  obtain ⟨kd, ln, K, rfl, h12, hl, hK⟩ := h
  obtain ⟨kd', ln', K', rfl, h12', hl', hK'⟩ := h'
  unfold celL at e
  obtain ⟨e1, e2⟩ := List.cons.inj e
  have e1 : (kd : Int) = kd' := e1
  obtain rfl : kd = kd' := by omega
  rw [bare_nmL h12 hl, bare_nmL h12 hl'] at e2
  obtain ⟨rfl, e3⟩ := List.append_inj e2 (by omega)
  congr 1
  unfold kL at e3
  by_cases hk : hasKB kd = true
  · rw [if_pos hk, if_pos hk] at e3
    exact (List.cons.inj e3).1
  · rw [hK (by simpa using hk), hK' (by simpa using hk)]

/-- Two forms that are the same. -/
structure Frm.Same (f g : Frm) : Prop where
  n : f.n = g.n
  C : ∀ i, i < f.n → f.C i = g.C i
  k : f.k = g.k
  R : ∀ i, i < f.k → f.R i = g.R i
  week : f.week = g.week
  hol : f.hol = g.hol

theorem map_inj {α β : Type} {F G : Nat → β} {n m : Nat} (e : (List.range n).map F = (List.range m).map G) : n = m ∧ ∀ i, i < n → F i = G i := by
  have h := congrArg List.length e
  simp at h
  subst h
  refine ⟨rfl, fun i hi => ?_⟩
  have := congrArg (·[i]?) e
  simpa [hi] using this

theorem Frm.Txt.inj {f g : Frm} (h : f.Txt) (h' : g.Txt) (e : f.doc.text = g.doc.text) : f.Same g := by
  have e1 := Doc.inj e
  have ew : f.week :: f.hol = g.week :: g.hol := congrArg Doc.w e1
  obtain ⟨ec, ec'⟩ := map_inj (α := Nat) (congrArg Doc.cs e1)
  obtain ⟨er, er'⟩ := map_inj (α := Nat) (congrArg Doc.rs e1)
  refine ⟨ec, fun i hi => bare_inj (h.bare i hi) (h'.bare i (by omega)) (ec' i hi), er, fun i hi => ?_, (List.cons.inj ew).1, (List.cons.inj ew).2⟩
  have := er' i hi
  unfold rulL at this
  obtain ⟨q1, q2⟩ := List.cons.inj this
  cases hf : f.R i
  cases hg : g.R i
  rw [hf, hg] at q1 q2
  simp_all

end Go.Proofs.YtcondcffllaaoaaDoor

/-
  THE WALKS: lists that own their room: a form's lists.
-/
set_option linter.unusedVariables false
set_option linter.unusedSimpArgs false
namespace Go.Proofs.YtcondcffllaaoaaDoor
open Go.RowKit

/-- Cells, as a list of their numbers. -/
def cells5 (C : Nat → Cel) (n : Nat) : List Value := (List.range (n * 5)).map (cellf C)
theorem cells5_len (C : Nat → Cel) (n : Nat) : (cells5 C n).length = n * 5 := by simp [cells5]
theorem cells5_more (C : Nat → Cel) (n : Nat) : cells5 C (n + 1) = cells5 C n ++ [.int .i64 (C n).kind, .int .i64 (C n).a, .int .i64 (C n).b, .int .i64 (C n).c, .int .i64 (C n).k] := by
  unfold cells5
  rw [show (n + 1) * 5 = n * 5 + 1 + 1 + 1 + 1 + 1 by omega, List.range_succ, List.range_succ, List.range_succ, List.range_succ, List.range_succ]
  simp only [List.map_append, List.map_cons, List.map_nil, List.append_assoc, List.cons_append, List.nil_append]
  rw [show n * 5 + 1 + 1 = n * 5 + 2 by omega, show n * 5 + 2 + 1 = n * 5 + 3 by omega, show n * 5 + 3 + 1 = n * 5 + 4 by omega, cellf0, cellf1, cellf2, cellf3, cellf4]
theorem news5k (w : World) (a b c d e : Value) (t : TypeId) {N : Nat} (hN : N = w.heap.size) : ∀ j u, [a, b, c, d, e][j]? = some u → (w.alloc (.cells #[a, b, c, d, e] t)).cell? ((⟨N, 0, none⟩ : Addr).add j) = some u := by
  subst hN
  exact World.news_of_block (cs := #[a, b, c, d, e]) (t := t) (fr := (0, 0)) (by show (w.heap.push _)[w.heap.size]? = _; simp)
theorem news2k (w : World) (a b : Value) (t : TypeId) {N : Nat} (hN : N = w.heap.size) : ∀ j u, [a, b][j]? = some u → (w.alloc (.cells #[a, b] t)).cell? ((⟨N, 0, none⟩ : Addr).add j) = some u := by
  subst hN
  exact World.news_of_block (cs := #[a, b]) (t := t) (fr := (0, 0)) (by show (w.heap.push _)[w.heap.size]? = _; simp)

/-- A rule of the shaped form: its number, its steps in a list. -/
def rulV (R : Nat → Rul) (sv : Nat → Value) (j : Nat) : Value := if j % 2 = 0 then .int .i64 (R (j / 2)).guard else sv (j / 2)
def rules2 (R : Nat → Rul) (sv : Nat → Value) (m : Nat) : List Value := (List.range (m * 2)).map (rulV R sv)
theorem rules2_more (R : Nat → Rul) (sv : Nat → Value) (m : Nat) (x : Value) : rules2 R (upd sv m x) (m + 1) = rules2 R sv m ++ [.int .i64 (R m).guard, x] := by
  unfold rules2
  rw [show (m + 1) * 2 = m * 2 + 1 + 1 by omega, List.range_succ, List.range_succ, List.append_assoc, List.map_append]
  congr 1
  · refine List.map_congr_left (fun j hj => ?_)
    have hj' : j < m * 2 := List.mem_range.1 hj
    unfold rulV
    rw [upd_other _ _ (by omega)]
  · show [rulV R (upd sv m x) (m * 2), rulV R (upd sv m x) (m * 2 + 1)] = _
    unfold rulV
    rw [if_pos (by omega), if_neg (by omega), show m * 2 / 2 = m by omega, show (m * 2 + 1) / 2 = m by omega, upd_same]

theorem own_mono {w : World} {b1 b2 : Nat} {e : TypeId} {size : Nat} {v : Value} {n : Nat} {xs : List Value} (h : w.ownsRow b1 e size v n xs) (hb : b2 ≤ b1) : w.ownsRow b2 e size v n xs := by
  refine ⟨h.1, ?_⟩
  rcases h.2 with h2 | ⟨g, cap, cur, a1, a2, a3⟩
  · exact Or.inl h2
  · exact Or.inr ⟨g, cap, cur, a1, by omega, a3⟩

/-- Where a list lies that owns its room. -/
theorem own_at {w : World} {base : Nat} {e : TypeId} {size : Nat} {v : Value} {n : Nat} {xs : List Value} (h : w.ownsRow base e size v n xs) : ∃ a c, v = .slice a n c ∧ (n = 0 ∨ ∃ g, a = some ⟨g, 0, none⟩ ∧ g < w.heap.size ∧ ∀ j, j < n * size → w.cell? ⟨g, j, none⟩ = xs[j]?) := by
  obtain ⟨h1, h2⟩ := h
  rcases h2 with ⟨h2, rfl⟩ | ⟨g, cap, cur, h2, h3, h4, h5, h6, h7, h8⟩
  · exact ⟨none, 0, h2, Or.inl rfl⟩
  · refine ⟨some ⟨g, 0, none⟩, cap, h2, Or.inr ⟨g, rfl, ?_, fun j hj => ?_⟩⟩
    · rcases Nat.lt_or_ge g w.heap.size with h | h
      · exact h
      · rw [Array.getElem?_eq_none h] at h4; cases h4
    · have e1 : cur[j]? = xs[j]? := by rw [← h8, List.getElem?_take, if_pos hj]; simp
      simp [World.cell?, h4, e1]

theorem own_ints {w : World} {base : Nat} {v : Value} {l : List Int} (h : w.ownsRow base 3 1 v l.length (l.map (fun x => Value.int .i64 x))) : ∃ a c, v = .slice a l.length c ∧ IntsAt w (.slice a l.length c) l := by
  obtain ⟨a, c, rfl, h2⟩ := own_at h
  refine ⟨a, c, rfl, a, c, rfl, fun j hj => ?_⟩
  rcases h2 with h2 | ⟨g, rfl, hg, hc⟩
  · omega
  · have := hc j (by omega)
    rw [List.getElem?_map, show l[j]? = some (l.getD j 0) by simp [List.getD, show j < l.length by omega]] at this
    exact ⟨g, 0, rfl, hg, by rw [Nat.zero_add]; exact this⟩

theorem own_cells {w : World} {base : Nat} {v : Value} {C : Nat → Cel} {n : Nat} (h : w.ownsRow base 46 5 v n (cells5 C n)) : ∃ a c, v = .slice a n c ∧ CAt w a n C := by
  obtain ⟨a, c, rfl, h2⟩ := own_at h
  refine ⟨a, c, rfl, ?_⟩
  rcases h2 with h2 | ⟨g, rfl, hg, hc⟩
  · exact Or.inl h2
  · refine Or.inr ⟨g, 0, rfl, hg, fun m hm => ?_⟩
    have at' : ∀ j, j < n * 5 → w.cell? ⟨g, j, none⟩ = some (cellf C j) := fun j hj => by rw [hc j hj]; simp [cells5, hj]
    rw [Nat.zero_add]
    refine ⟨?_, ?_, ?_, ?_, ?_⟩
    · rw [at' _ (by omega), cellf0]
    · rw [at' _ (by omega), cellf1]
    · rw [at' _ (by omega), cellf2]
    · rw [at' _ (by omega), cellf3]
    · rw [at' _ (by omega), cellf4]

theorem own_rules {w : World} {base : Nat} {v : Value} {R : Nat → Rul} {sv : Nat → Value} {m : Nat} (h : w.ownsRow base 44 2 v m (rules2 R sv m)) (hs : ∀ i, i < m → w.ownsRow base 3 1 (sv i) (R i).steps.length ((R i).steps.map (fun x => Value.int .i64 x))) (hl : ∀ i, i < m → (R i).steps.length ≤ 1000000000) : ∃ a c, v = .slice a m c ∧ RAt w a m R := by
  obtain ⟨a, c, rfl, h2⟩ := own_at h
  refine ⟨a, c, rfl, ?_⟩
  rcases h2 with h2 | ⟨g, rfl, hg, hc⟩
  · exact Or.inl h2
  · refine Or.inr ⟨g, 0, rfl, hg, fun i hi => ?_⟩
    have at' : ∀ j, j < m * 2 → w.cell? ⟨g, j, none⟩ = some (rulV R sv j) := fun j hj => by rw [hc j hj]; simp [rules2, hj]
    obtain ⟨as', cs', e1, e2⟩ := own_ints (hs i hi)
    rw [Nat.zero_add]
    refine ⟨?_, as', cs', ?_, e2, hl i hi⟩
    · rw [at' _ (by omega)]; unfold rulV; rw [if_pos (by omega), show i * 2 / 2 = i by omega]
    · rw [at' _ (by omega)]; unfold rulV; rw [if_neg (by omega), show (i * 2 + 1) / 2 = i by omega, e1]

theorem own_type {w : World} {base : Nat} {e : TypeId} {size : Nat} {v : Value} {n : Nat} {xs : List Value} (h : w.ownsRow base e size v n xs) {g : Nat} (hg : v.ownBlock = some g) : ∃ cur, w.heap[g]? = some (.cells cur e) := by
  rcases h.2 with ⟨rfl, _⟩ | ⟨g', cap, cur, rfl, _, h4, _⟩
  · cases hg
  · have : g' = g := by simpa [Value.ownBlock] using hg
    subst this
    exact ⟨cur, h4⟩

/-- A list of other things stands where one thing more was put behind a list. -/
theorem own_far {w5 w6 : World} {b1 b2 : Nat} {e1 e2 : TypeId} {s1 s2 : Nat} {v1 v2 : Value} {n1 n2 : Nat} {x1 x2 : List Value} {o : Obj} (h1 : w5.ownsRow b1 e1 s1 v1 n1 x1) (h2 : w5.ownsRow b2 e2 s2 v2 n2 x2) (he : e1 ≠ e2) (hg : ((w5.alloc o).drew).grownBy w6 v2.ownBlock) : w6.ownsRow b1 e1 s1 v1 n1 x1 :=
  own_of_block h1 (fun g hv hlt => ev_far w5 _ hg hlt (fun e => by
    obtain ⟨c1, k1⟩ := own_type h1 hv
    obtain ⟨c2, k2⟩ := own_type h2 e
    rw [k1] at k2
    injection k2 with k2
    injection k2 with _ k3 _
    exact he k3))


theorem ev_far0 (w : World) {w1 : World} {row : Option Nat} (o : Obj) (h : (w.alloc o).grownBy w1 row) {k : Nat} (hk : k < w.heap.size) (hr : row ≠ some k) : w1.heap[k]? = w.heap[k]? :=
  (h.block k (by show k < (w.heap.push o).size; simp; omega) (fun e => hr e.symm)).trans (Below.heap_alloc w o k hk)
theorem own_ltT {w : World} {base : Nat} {e : TypeId} {size : Nat} {v : Value} {n : Nat} {xs : List Value} (h : w.ownsRow base e size v n xs) {g : Nat} (hg : v.ownBlock = some g) : g < w.heap.size := by
  obtain ⟨cur, hc⟩ := own_type h hg
  rcases Nat.lt_or_ge g w.heap.size with h | h
  · exact h
  · rw [Array.getElem?_eq_none h] at hc; cases hc
/-- Two lists of different things lie apart. -/
theorem own_apart {w : World} {b1 b2 : Nat} {e1 e2 : TypeId} {s1 s2 : Nat} {v1 v2 : Value} {n1 n2 : Nat} {x1 x2 : List Value} (h1 : w.ownsRow b1 e1 s1 v1 n1 x1) (h2 : w.ownsRow b2 e2 s2 v2 n2 x2) (he : e1 ≠ e2) {g : Nat} (hg : v1.ownBlock = some g) : v2.ownBlock ≠ some g := fun e => by
  obtain ⟨c1, k1⟩ := own_type h1 hg
  obtain ⟨c2, k2⟩ := own_type h2 e
  rw [k1] at k2
  injection k2 with k2
  injection k2 with _ k3 _
  exact he k3

/-- A form, whose lists own their room, none shares it with another. -/
structure OF (B : Nat) (w : World) (f : Frm) (vC vR vH : Value) (sv : Nat → Value) : Prop where
  cells : w.ownsRow B 46 5 vC f.n (cells5 f.C f.n)
  rules : w.ownsRow B 44 2 vR f.k (rules2 f.R sv f.k)
  hol : w.ownsRow B 3 1 vH f.hol.length (ints f.hol)
  steps : ∀ i, i < f.k → w.ownsRow B 3 1 (sv i) (f.R i).steps.length (ints (f.R i).steps)
  apart : ∀ i, i < f.k → ∀ b, (sv i).ownBlock = some b → vH.ownBlock ≠ some b ∧ ∀ j, j < i → (sv j).ownBlock ≠ some b

theorem OF.keep {B : Nat} {w w' : World} {f : Frm} {vC vR vH : Value} {sv : Nat → Value} (h : OF B w f vC vR vH sv) (hb : ∀ g, B ≤ g → g < w.heap.size → w'.heap[g]? = w.heap[g]?) : OF B w' f vC vR vH sv :=
  ⟨own_of_block h.cells (fun g hg hl => hb g (own_base h.cells hg) hl), own_of_block h.rules (fun g hg hl => hb g (own_base h.rules hg) hl), own_of_block h.hol (fun g hg hl => hb g (own_base h.hol hg) hl),
   fun i hi => own_of_block (h.steps i hi) (fun g hg hl => hb g (own_base (h.steps i hi) hg) hl), h.apart⟩
theorem OF.below {B : Nat} {w w' : World} {f : Frm} {vC vR vH : Value} {sv : Nat → Value} (h : OF B w f vC vR vH sv) (hb : Below w.heap.size w w') : OF B w' f vC vR vH sv := h.keep (fun g _ hl => hb.block g hl)
theorem OF.chg {B br : Nat} {w w' : World} {f : Frm} {vC vR vH : Value} {sv : Nat → Value} (h : OF B w f vC vR vH sv) (hbr : br < B) (hc : Chg (· = br) w w') : OF B w' f vC vR vH sv := h.keep (fun g hB hl => hc.block g hl (by omega))
theorem OF.mono {B B' : Nat} {w : World} {f : Frm} {vC vR vH : Value} {sv : Nat → Value} (h : OF B w f vC vR vH sv) (hb : B' ≤ B) : OF B' w f vC vR vH sv :=
  ⟨own_mono h.cells hb, own_mono h.rules hb, own_mono h.hol hb, fun i hi => own_mono (h.steps i hi) hb, h.apart⟩
theorem OF.set {B : Nat} {w : World} {f : Frm} {vC vR vH : Value} {sv : Nat → Value} (h : OF B w f vC vR vH sv) (a : Addr) (ha : a.block < B) (u : Value) : OF B (w.setCell a u) f vC vR vH sv := h.keep (fun g hB hl => Below.heap_setCell _ _ _ _ (by omega))
theorem own_nil (w : World) (base : Nat) (t : TypeId) (s : Nat) : w.ownsRow base t s (.slice none 0 0) 0 [] := ⟨by simp, Or.inl ⟨rfl, rfl⟩⟩
theorem OF.start {B : Nat} {w : World} {week : Int} {hol : List Int} {vH : Value} (h : w.ownsRow B 3 1 vH hol.length (ints hol)) : OF B w (frm0 week hol) (.slice none 0 0) (.slice none 0 0) vH (fun _ => .slice none 0 0) :=
  ⟨own_nil _ _ _ _, own_nil _ _ _ _, h, fun i hi => by simp [frm0] at hi, fun i hi => by simp [frm0] at hi⟩
theorem OF.addC {B : Nat} {w w6 : World} {f : Frm} {vC vR vH v' : Value} {sv : Nat → Value} (h : OF B w f vC vR vH sv) (c : Cel) (hown : w6.ownsRow B 46 5 v' (f.n + 1) (cells5 f.C f.n ++ [.int .i64 c.kind, .int .i64 c.a, .int .i64 c.b, .int .i64 c.c, .int .i64 c.k]))
    (hb : ∀ g, g < w.heap.size → vC.ownBlock ≠ some g → w6.heap[g]? = w.heap[g]?) : OF B w6 (f.addC c) v' vR vH sv := by
  refine ⟨?_, own_of_block h.rules (fun g hg hl => hb g hl (own_apart h.rules h.cells (by decide) hg)), own_of_block h.hol (fun g hg hl => hb g hl (own_apart h.hol h.cells (by decide) hg)),
    fun i hi => own_of_block (h.steps i hi) (fun g hg hl => hb g hl (own_apart (h.steps i hi) h.cells (by decide) hg)), h.apart⟩
  show w6.ownsRow B 46 5 v' (f.n + 1) (cells5 (upd f.C f.n c) (f.n + 1))
  rw [cells5_more, upd_same]
  have e : cells5 (upd f.C f.n c) f.n = cells5 f.C f.n := by
    unfold cells5
    refine List.map_congr_left (fun j hj => ?_)
    have hj' : j < f.n * 5 := List.mem_range.1 hj
    unfold cellf
    rw [upd_other _ _ (by omega)]
  rw [e]
  exact hown
theorem OF.addR {B : Nat} {w w6 : World} {f : Frm} {vC vR vH v' u : Value} {sv : Nat → Value} (h : OF B w f vC vR vH sv) (r : Rul) (hu : w.ownsRow B 3 1 u r.steps.length (ints r.steps)) (hua : ∀ b, u.ownBlock = some b → vH.ownBlock ≠ some b ∧ ∀ j, j < f.k → (sv j).ownBlock ≠ some b)
    (hown : w6.ownsRow B 44 2 v' (f.k + 1) (rules2 f.R sv f.k ++ [.int .i64 r.guard, u]))
    (hb : ∀ g, g < w.heap.size → vR.ownBlock ≠ some g → w6.heap[g]? = w.heap[g]?) : OF B w6 (f.addR r) vC v' vH (upd sv f.k u) := by
  refine ⟨own_of_block h.cells (fun g hg hl => hb g hl (own_apart h.cells h.rules (by decide) hg)), ?_, own_of_block h.hol (fun g hg hl => hb g hl (own_apart h.hol h.rules (by decide) hg)), fun i hi => ?_, fun i hi b hbk => ?_⟩
  · show w6.ownsRow B 44 2 v' (f.k + 1) (rules2 (upd f.R f.k r) (upd sv f.k u) (f.k + 1))
    rw [rules2_more, upd_same]
    have e : rules2 (upd f.R f.k r) sv f.k = rules2 f.R sv f.k := by
      unfold rules2
      refine List.map_congr_left (fun j hj => ?_)
      have hj' : j < f.k * 2 := List.mem_range.1 hj
      unfold rulV
      rw [upd_other _ _ (by omega)]
    rw [e]
    exact hown
  · have hi' : i < f.k + 1 := hi
    show w6.ownsRow B 3 1 (upd sv f.k u i) (upd f.R f.k r i).steps.length (ints (upd f.R f.k r i).steps)
    by_cases e : i = f.k
    · subst e
      rw [upd_same, upd_same]
      exact own_of_block hu (fun g hg hl => hb g hl (own_apart hu h.rules (by decide) hg))
    · rw [upd_other _ _ e, upd_other _ _ e]
      have hi2 : i < f.k := by omega
      exact own_of_block (h.steps i hi2) (fun g hg hl => hb g hl (own_apart (h.steps i hi2) h.rules (by decide) hg))
  · have hi' : i < f.k + 1 := hi
    by_cases e : i = f.k
    · subst e
      rw [upd_same] at hbk
      refine ⟨(hua b hbk).1, fun j hj => ?_⟩
      rw [upd_other _ _ (by omega)]
      exact (hua b hbk).2 j hj
    · rw [upd_other _ _ e] at hbk
      obtain ⟨g1, g2⟩ := h.apart i (by omega) b hbk
      refine ⟨g1, fun j hj => ?_⟩
      rw [upd_other _ _ (by omega)]
      exact g2 j hj

/-- What it reads as. -/
theorem OF.at {B : Nat} {w : World} {f : Frm} {vC vR vH : Value} {sv : Nat → Value} (h : OF B w f vC vR vH sv) (hs : ∀ i, i < f.k → (f.R i).steps.length ≤ 1000000000) : ∃ aC cC aR cR aH cH, vC = .slice aC f.n cC ∧ vR = .slice aR f.k cR ∧ vH = .slice aH f.hol.length cH ∧ CAt w aC f.n f.C ∧ RAt w aR f.k f.R ∧ IntsAt w (.slice aH f.hol.length cH) f.hol := by
  obtain ⟨aC, cC, e1, h1⟩ := own_cells h.cells
  obtain ⟨aR, cR, e2, h2⟩ := own_rules h.rules h.steps hs
  obtain ⟨aH, cH, e3, h3⟩ := own_ints h.hol
  exact ⟨aC, cC, aR, cR, aH, cH, e1, e2, e3, h1, h2, h3⟩

end Go.Proofs.YtcondcffllaaoaaDoor
