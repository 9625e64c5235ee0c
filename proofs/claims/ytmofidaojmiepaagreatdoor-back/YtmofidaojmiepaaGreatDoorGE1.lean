/-
  PLAIN MATHEMATICS: raw numbers, and the form that is shaped out of any.
-/
import Derived.Test.YtmofidaojmiepaaGreatDoorGK4
import Derived.Test.YtmofidaojmiepaaGreatDoorGD10
import Derived.Deep.AppendLies
set_option linter.unusedVariables false
set_option linter.unusedSimpArgs false
namespace Go.Proofs.YtmofidaojmiepaaGreatDoor

open Go.RowKit

def pickI (c n : Int) : Int := (if c < 0 then -(c + 1) else c) % n

theorem pickI_bd (c : Int) {n : Int} (hn : 1 ≤ n) : 0 ≤ pickI c n ∧ pickI c n < n :=
  ⟨Int.emod_nonneg _ (by omega), Int.emod_lt_of_pos _ (by omega)⟩

def valI (v : Int) : Int := if -2000000000 ≤ v ∧ v ≤ 2000000000 then v else pickI v 4000000001 - 2000000000

theorem valI_v (v : Int) : IsV (valI v) := by
  unfold valI
  split
  · rename_i h
    exact h
  · have := pickI_bd v (n := 4000000001) (by omega)
    exact ⟨by omega, by omega⟩

def kindI (k : Int) (i : Nat) : Int := if i = 0 then pickI k 2 else pickI k 13

theorem kindI_bd (k : Int) (i : Nat) : 0 ≤ kindI k i ∧ kindI k i ≤ 12 := by
  unfold kindI
  split
  · have := pickI_bd k (n := 2) (by omega)
    omega
  · have := pickI_bd k (n := 13) (by omega)
    omega

theorem kindI_zero (k : Int) : kindI k 0 = 0 ∨ kindI k 0 = 1 := by
  unfold kindI
  rw [if_pos rfl]
  have := pickI_bd k (n := 2) (by omega)
  omega

def shK (kd k : Int) : Int := if kd = 0 ∨ kd = 1 then valI k else if kd = 11 then 1000000 + pickI k 999000001 else if kd = 12 then pickI k 251 else 0

/-- The i-th cell, out of a raw one. -/
def shCel (c : Cel) (i : Nat) : Cel :=
  ⟨kindI c.kind i, if 0 < M.needs (kindI c.kind i) then pickI c.a i else 0, if 1 < M.needs (kindI c.kind i) then pickI c.b i else 0, if 2 < M.needs (kindI c.kind i) then pickI c.c i else 0, shK (kindI c.kind i) c.k⟩

theorem needs_pos {kd : Int} (h : 0 < M.needs kd) : kd ≠ 0 ∧ kd ≠ 1 := by
  refine ⟨fun e => ?_, fun e => ?_⟩ <;> (subst e; revert h; decide)

theorem shCel_pos {c : Cel} {i : Nat} (h : 0 < M.needs (kindI c.kind i)) : 1 ≤ i := by
  rcases Nat.eq_zero_or_pos i with e | e
  · subst e
    have := needs_pos h
    have := kindI_zero c.kind
    omega
  · exact e

theorem shCel_ok (c : Cel) {i n : Nat} (hi : i < n) : CellOk (shCel c i) n := by
  obtain ⟨k0, k1⟩ := kindI_bd c.kind i
  have nn : 1 < M.needs (kindI c.kind i) → 0 < M.needs (kindI c.kind i) := fun h => by omega
  refine ⟨k0, k1, ⟨fun h => ?_, fun h => ?_, fun h => ?_⟩, fun h => ?_, fun h => ?_, fun h => ?_⟩
  · show IsV (shK (kindI c.kind i) c.k)
    have h' : kindI c.kind i = 0 ∨ kindI c.kind i = 1 := h
    unfold shK
    rw [if_pos h']
    exact valI_v _
  · have h' : kindI c.kind i = 11 := h
    show 1000000 ≤ shK (kindI c.kind i) c.k ∧ shK (kindI c.kind i) c.k ≤ 1000000000
    unfold shK
    rw [if_neg (by omega), if_pos h']
    have := pickI_bd c.k (n := 999000001) (by omega)
    omega
  · have h' : kindI c.kind i = 12 := h
    show 0 ≤ shK (kindI c.kind i) c.k ∧ shK (kindI c.kind i) c.k ≤ 250
    unfold shK
    rw [if_neg (by omega), if_neg (by omega), if_pos h']
    have := pickI_bd c.k (n := 251) (by omega)
    omega
  · have h' : 0 < M.needs (kindI c.kind i) := h
    have := shCel_pos h'
    show 0 ≤ (if 0 < M.needs (kindI c.kind i) then pickI c.a i else 0) ∧ (if 0 < M.needs (kindI c.kind i) then pickI c.a i else 0) < n
    rw [if_pos h']
    have := pickI_bd c.a (n := i) (by omega)
    omega
  · have h' : 1 < M.needs (kindI c.kind i) := h
    have := shCel_pos (nn h')
    show 0 ≤ (if 1 < M.needs (kindI c.kind i) then pickI c.b i else 0) ∧ (if 1 < M.needs (kindI c.kind i) then pickI c.b i else 0) < n
    rw [if_pos h']
    have := pickI_bd c.b (n := i) (by omega)
    omega
  · have h' : 2 < M.needs (kindI c.kind i) := h
    have := shCel_pos (nn (by omega))
    show 0 ≤ (if 2 < M.needs (kindI c.kind i) then pickI c.c i else 0) ∧ (if 2 < M.needs (kindI c.kind i) then pickI c.c i else 0) < n
    rw [if_pos h']
    have := pickI_bd c.c (n := i) (by omega)
    omega

/-- Steps, holidays: each is so much greater than the one ahead of it. -/
def shSt (hi : Int) : Nat → Int → List Int → List Int
  | 0, _, _ => []
  | _ + 1, _, [] => []
  | f + 1, at', x :: xs => if hi < at' + 1 + pickI x hi then [] else (at' + 1 + pickI x hi) :: shSt hi f (at' + 1 + pickI x hi) xs

theorem shSt_len (hi : Int) : ∀ (f : Nat) (at' : Int) (l : List Int), (shSt hi f at' l).length ≤ f
  | 0, _, _ => by simp [shSt]
  | _ + 1, _, [] => by simp [shSt]
  | f + 1, at', x :: xs => by
    unfold shSt
    split
    · simp
    · have := shSt_len hi f (at' + 1 + pickI x hi) xs
      simp
      omega

theorem shSt_all {hi : Int} (h1 : 1 ≤ hi) : ∀ (f : Nat) (at' : Int) (l : List Int), (∀ x, x ∈ shSt hi f at' l → at' + 1 ≤ x ∧ x ≤ hi) ∧ (shSt hi f at' l).Pairwise (· < ·)
  | 0, _, _ => by simp [shSt]
  | _ + 1, _, [] => by simp [shSt]
  | f + 1, at', x :: xs => by
    obtain ⟨a1, a2⟩ := shSt_all h1 f (at' + 1 + pickI x hi) xs
    have b := pickI_bd x h1
    unfold shSt
    split
    · simp
    · rename_i hlt
      refine ⟨fun y hy => ?_, ?_⟩
      · rcases List.mem_cons.1 hy with e | e
        · subst e; omega
        · have := a1 y e; omega
      · refine List.pairwise_cons.2 ⟨fun y hy => ?_, a2⟩
        have := a1 y hy
        omega

theorem rise_not {l : List Int} {lo hi : Int} (h1 : ∀ x, x ∈ l → lo ≤ x ∧ x ≤ hi) (h2 : l.Pairwise (· < ·)) : ∀ i, i < l.length → ¬ BadAt l lo hi i := by
  intro i hi' h
  have e : l.getD i 0 = l[i] := by simp [List.getD, hi']
  have m := h1 l[i] (List.getElem_mem hi')
  unfold BadAt at h
  rw [e] at h
  rcases h with h | h | ⟨h0, h⟩
  · omega
  · omega
  · have e2 : l.getD (i - 1) 0 = l[i - 1] := by simp [List.getD, show i - 1 < l.length by omega]
    rw [e2] at h
    have := List.pairwise_iff_getElem.1 h2 (i - 1) i (by omega) hi' (by omega)
    omega

/-- The form, out of a raw one. -/
def shF (C : Nat → Cel) (n : Nat) (R : Nat → Rul) (k : Nat) (week : Int) (hol : List Int) : Frm where
  C := fun i => if n = 0 then ⟨1, 0, 0, 0, 1⟩ else shCel (C i) i
  n := if n = 0 then 1 else min n 20
  R := fun i => ⟨pickI (R i).guard (if n = 0 then 1 else min n 20 : Nat), shSt 1000000000 4 0 (R i).steps⟩
  k := min k 6
  hol := shSt 11574 20 (-1) hol
  week := 1 + pickI week 127

/-- What a shaped form is besides: cells need cells ahead of them; what a row does not name is 0. -/
structure Frm.Shaped (f : Frm) : Prop where
  ok : f.Ok
  ahead : ∀ i j, Ed f.C f.n i j → j < i
  a0 : ∀ i, i < f.n → 0 ≤ (f.C i).a ∧ (f.C i).a < f.n
  b0 : ∀ i, i < f.n → 0 ≤ (f.C i).b ∧ (f.C i).b < f.n
  c0 : ∀ i, i < f.n → 0 ≤ (f.C i).c ∧ (f.C i).c < f.n

theorem way_down {E : Nat → Nat → Prop} (h : ∀ i j, E i j → j < i) {i : Nat} : ∀ {s j : Nat}, M.Way E s i j → j ≤ i ∧ (1 ≤ s → j < i)
  | 0, j, g => by
    have e : i = j := g
    subst e
    exact ⟨Nat.le_refl _, fun h => by omega⟩
  | s + 1, j, g => by
    obtain ⟨k, g1, g2⟩ := g
    have h1 := (way_down h g1).1
    have h2 := h k j g2
    exact ⟨by omega, fun _ => by omega⟩

theorem ed_shape {c : Cel} {i j : Nat} (h : (0 < M.needs (shCel c i).kind ∧ (shCel c i).a = j) ∨ (1 < M.needs (shCel c i).kind ∧ (shCel c i).b = j) ∨ (2 < M.needs (shCel c i).kind ∧ (shCel c i).c = j)) : j < i := by
  rcases h with ⟨h1, h2⟩ | ⟨h1, h2⟩ | ⟨h1, h2⟩
  · have h1' : 0 < M.needs (kindI c.kind i) := h1
    have h2' : (if 0 < M.needs (kindI c.kind i) then pickI c.a i else 0) = j := h2
    rw [if_pos h1'] at h2'
    have := shCel_pos h1'
    have := pickI_bd c.a (n := i) (by omega)
    omega
  · have h1' : 1 < M.needs (kindI c.kind i) := h1
    have h2' : (if 1 < M.needs (kindI c.kind i) then pickI c.b i else 0) = j := h2
    rw [if_pos h1'] at h2'
    have := shCel_pos (c := c) (i := i) (by omega)
    have := pickI_bd c.b (n := i) (by omega)
    omega
  · have h1' : 2 < M.needs (kindI c.kind i) := h1
    have h2' : (if 2 < M.needs (kindI c.kind i) then pickI c.c i else 0) = j := h2
    rw [if_pos h1'] at h2'
    have := shCel_pos (c := c) (i := i) (by omega)
    have := pickI_bd c.c (n := i) (by omega)
    omega

theorem shF_cell (C : Nat → Cel) (n : Nat) (R : Nat → Rul) (k : Nat) (week : Int) (hol : List Int) (i : Nat) : (shF C n R k week hol).C i = if n = 0 then ⟨1, 0, 0, 0, 1⟩ else shCel (C i) i := rfl

theorem shF_n (C : Nat → Cel) (n : Nat) (R : Nat → Rul) (k : Nat) (week : Int) (hol : List Int) : 1 ≤ (shF C n R k week hol).n ∧ (shF C n R k week hol).n ≤ 20 := by
  show 1 ≤ (if n = 0 then 1 else min n 20) ∧ (if n = 0 then 1 else min n 20) ≤ 20
  split
  · omega
  · omega

theorem shCel_a0 (c : Cel) {i n : Nat} (hi : i < n) : (0 ≤ (shCel c i).a ∧ (shCel c i).a < n) ∧ (0 ≤ (shCel c i).b ∧ (shCel c i).b < n) ∧ (0 ≤ (shCel c i).c ∧ (shCel c i).c < n) := by
  obtain ⟨_, _, _, h1, h2, h3⟩ := shCel_ok c hi
  refine ⟨?_, ?_, ?_⟩
  · by_cases h : 0 < M.needs (shCel c i).kind
    · exact h1 h
    · have e : (shCel c i).a = 0 := if_neg h
      rw [e]; omega
  · by_cases h : 1 < M.needs (shCel c i).kind
    · exact h2 h
    · have e : (shCel c i).b = 0 := if_neg h
      rw [e]; omega
  · by_cases h : 2 < M.needs (shCel c i).kind
    · exact h3 h
    · have e : (shCel c i).c = 0 := if_neg h
      rw [e]; omega

theorem shF_ok (C : Nat → Cel) (n : Nat) (R : Nat → Rul) (k : Nat) (week : Int) (hol : List Int) : (shF C n R k week hol).Shaped := by
  have hn := shF_n C n R k week hol
  have hz : M.needs (1 : Int) = 0 := by decide
  have ahead : ∀ i j, Ed (shF C n R k week hol).C (shF C n R k week hol).n i j → j < i := fun i j h => by
    obtain ⟨_, h⟩ := h
    rw [shF_cell] at h
    by_cases e : n = 0
    · rw [if_pos e] at h
      simp only [hz] at h
      omega
    · rw [if_neg e] at h
      exact ed_shape h
  refine ⟨⟨⟨hn.1, hn.2, ?_, ?_, ?_⟩, ⟨shSt_len _ _ _ _, fun x hx => ?_, (shSt_all (by omega) _ _ _).2⟩, fun i hi => ?_, fun i hi hr => ?_, fun i hi => ⟨?_, ?_, shSt_len _ _ _ _, ?_⟩⟩, ahead, fun i hi => ?_, fun i hi => ?_, fun i hi => ?_⟩
  · show min k 6 ≤ 6
    omega
  · show 1 ≤ 1 + pickI week 127
    have := pickI_bd week (n := 127) (by omega)
    omega
  · show 1 + pickI week 127 ≤ 127
    have := pickI_bd week (n := 127) (by omega)
    omega
  · have := (shSt_all (hi := 11574) (by omega) 20 (-1) hol).1 x hx
    omega
  · rw [shF_cell]
    split
    · refine ⟨by decide, by decide, ⟨fun _ => ⟨by decide, by decide⟩, fun h => ?_, fun h => ?_⟩, fun h => ?_, fun h => ?_, fun h => ?_⟩
      · have : (1 : Int) = 11 := h
        omega
      · have : (1 : Int) = 12 := h
        omega
      all_goals (simp only [hz] at h; omega)
    · exact shCel_ok _ hi
  · obtain ⟨s, s1, s2⟩ := hr
    have := (way_down ahead s2).2 s1
    omega
  · show 0 ≤ pickI (R i).guard ((shF C n R k week hol).n : Nat)
    exact (pickI_bd _ (by have := hn.1; omega)).1
  · show pickI (R i).guard ((shF C n R k week hol).n : Nat) < ((shF C n R k week hol).n : Nat)
    exact (pickI_bd _ (by have := hn.1; omega)).2
  · obtain ⟨a1, a2⟩ := shSt_all (hi := 1000000000) (by omega) 4 0 (R i).steps
    exact rise_not (fun x hx => by have := a1 x hx; omega) a2
  · rw [shF_cell]
    split
    · exact ⟨by show (0 : Int) ≤ 0; omega, by show (0 : Int) < _; have := hn.1; omega⟩
    · exact (shCel_a0 _ hi).1
  · rw [shF_cell]
    split
    · exact ⟨by show (0 : Int) ≤ 0; omega, by show (0 : Int) < _; have := hn.1; omega⟩
    · exact (shCel_a0 _ hi).2.1
  · rw [shF_cell]
    split
    · exact ⟨by show (0 : Int) ≤ 0; omega, by show (0 : Int) < _; have := hn.1; omega⟩
    · exact (shCel_a0 _ hi).2.2

end Go.Proofs.YtmofidaojmiepaaGreatDoor

/-
  THE WALKS: docketkeep's plain numbers; a cell, steps, holidays.
-/
set_option linter.unusedVariables false
set_option linter.unusedSimpArgs false
namespace Go.Proofs.YtmofidaojmiepaaGreatDoor

open Go.RowKit

attribute [local go_sem ↓] Go.wp_at_zero Go.wp_at_succ

def I64k (x : Int) : Prop := -9223372036854775808 ≤ x ∧ x < 9223372036854775808

theorem kpick_any (c n : Int) (w : World) (hc : I64k c) (n1 : 1 ≤ n) (n2 : n < 9223372036854775808) : Calls Tryz.prog 17 #[.int .i64 c, .int .i64 n] w fun e w' => e = .returned (.int .i64 (pickI c n)) ∧ w' = w := by
  obtain ⟨h1, h2⟩ := hc
  have m1 := Int.emod_nonneg (if c < 0 then -(c + 1) else c) (show n ≠ 0 by omega)
  have m2 := Int.emod_lt_of_pos (if c < 0 then -(c + 1) else c) (show 0 < n by omega)
  by_cases c0 : c < 0
  · have e : pickI c n = (-(c + 1)) % n := by unfold pickI; rw [if_pos c0]
    rw [e]
    rw [if_pos c0] at m1 m2
    have m3 : -(c + 1).tmod n = -(c + 1) % n := by rw [← Int.neg_tmod]; exact Int.tmod_eq_emod_of_nonneg (by omega)
    have M3 := hid m3
    clear e m3
    go_enter Tryz.func17, Tryz.ntmps17
    go_wp2
    go_ret
    refine ⟨?_, rfl⟩
    simp [M3.out]
  · have e : pickI c n = c % n := by unfold pickI; rw [if_neg c0]
    rw [e]
    rw [if_neg c0] at m1 m2
    clear e
    go_enter Tryz.func17, Tryz.ntmps17
    go_wp2
    go_ret
    first | exact ⟨rfl, rfl⟩ | simp

theorem kvalue_any (v : Int) (w : World) (hv : I64k v) : Calls Tryz.prog 34 #[.int .i64 v] w fun e w' => e = .returned (.int .i64 (valI v)) ∧ w' = w := by
  have PK := hid (fun W => kpick_any v 4000000001 W hv (by omega) (by omega))
  have bd := pickI_bd v (n := 4000000001) (by omega)
  unfold valI
  by_cases h1 : -2000000000 ≤ v
  · by_cases h2 : v ≤ 2000000000
    · rw [if_pos ⟨h1, h2⟩]
      go_enter Tryz.func34, Tryz.ntmps34
      go_wp2
      go_ret
      simp
    · rw [if_neg (by omega)]
      generalize pickI v 4000000001 = x at *
      go_enter Tryz.func34, Tryz.ntmps34
      go_wp2_with (go_at_call 17; refine (PK.out _).mono ?_; rintro e w' ⟨rfl, rfl⟩)
      go_ret
      simp
  · rw [if_neg (by omega)]
    generalize pickI v 4000000001 = x at *
    go_enter Tryz.func34, Tryz.ntmps34
    go_wp2_with (go_at_call 17; refine (PK.out _).mono ?_; rintro e w' ⟨rfl, rfl⟩)
    go_ret
    simp

theorem kinstant_any (t : Int) (w : World) (ht : I64k t) : Calls Tryz.prog 11 #[.int .i64 t] w fun e w' => e = .returned (.int .i64 (pickI t 1000000001)) ∧ w' = w := by
  have PK := hid (fun W => kpick_any t 1000000001 W ht (by omega) (by omega))
  go_enter Tryz.func11, Tryz.ntmps11
  go_wp2_with (go_at_call 17; refine (PK.out _).mono ?_; rintro e w' ⟨rfl, rfl⟩)
  go_ret
  simp

def ontoI (now by' : Int) : Int := if 1000000000 < now + pickI by' 1000000001 then 1000000000 else now + pickI by' 1000000001

theorem ontoI_bd {now : Int} (by' : Int) (h0 : 0 ≤ now) (h1 : now ≤ 1000000000) : now ≤ ontoI now by' ∧ ontoI now by' ≤ 1000000000 := by
  have := pickI_bd by' (n := 1000000001) (by omega)
  unfold ontoI
  split <;> omega

theorem kneeds_any (kd : Int) (w : World) (h0 : 0 ≤ kd) (h1 : kd ≤ 12) : Calls Tryz.prog 19 #[.int .i64 kd] w fun e w' => e = .returned (.int .i64 (M.needs kd)) ∧ w' = w := by
  have cs : kd = 0 ∨ kd = 1 ∨ kd = 10 ∨ kd = 11 ∨ kd = 12 ∨ kd = 9 ∨ (2 ≤ kd ∧ kd ≤ 8) := by omega
  rcases cs with rfl | rfl | rfl | rfl | rfl | rfl | ⟨h2, h3⟩
  case inr.inr.inr.inr.inr.inr =>
    have e : M.needs kd = 2 := by
      unfold M.needs
      rw [if_neg (by omega), if_neg (by omega), if_neg (by omega), if_pos (by omega)]
    rw [e]
    have e0 : (kd == 0) = false := beq_eq_false_iff_ne.2 (by omega)
    have e1 : (kd == 1) = false := beq_eq_false_iff_ne.2 (by omega)
    have e2 : (kd == 10) = false := beq_eq_false_iff_ne.2 (by omega)
    have e3 : (kd == 11) = false := beq_eq_false_iff_ne.2 (by omega)
    have e4 : (kd == 12) = false := beq_eq_false_iff_ne.2 (by omega)
    have e5 : (kd == 9) = false := beq_eq_false_iff_ne.2 (by omega)
    go_enter Tryz.func19, Tryz.ntmps19
    go_wp2
    go_ret
    simp
  all_goals (
    go_enter Tryz.func19, Tryz.ntmps19
    go_wp2
    go_ret
    exact ⟨by first | rfl | decide | simp [M.needs], rfl⟩)

theorem news1k (w : World) (a : Value) (t : TypeId) : ∀ j u, [a][j]? = some u → (w.alloc (.cells #[a] t)).cell? ((⟨w.heap.size, 0, none⟩ : Addr).add j) = some u :=
  World.news_of_block (cs := #[a]) (t := t) (fr := (0, 0)) (by show (w.heap.push _)[w.heap.size]? = _; simp)

/-- What makes a list of numbers leaves. -/
def LsP (l : List Int) (w : World) (e : Ending) (w' : World) : Prop := ∃ v, e = .returned v ∧ w'.ownsRow w.heap.size 3 1 v l.length (l.map (fun x => Value.int .i64 x)) ∧ Below w.heap.size w w'

theorem shSt_step {hi : Int} {F i : Nat} {at' : Int} {l : List Int} (hi' : i < l.length) (hF : i < F) : shSt hi (F - i) at' (l.drop i) = if hi < at' + 1 + pickI (l.getD i 0) hi then [] else (at' + 1 + pickI (l.getD i 0) hi) :: shSt hi (F - (i + 1)) (at' + 1 + pickI (l.getD i 0) hi) (l.drop (i + 1)) := by
  rw [show F - i = (F - (i + 1)) + 1 by omega, List.drop_eq_getElem_cons hi', show l.getD i 0 = l[i] by simp [List.getD, hi']]
  rfl

theorem shSt_end {hi : Int} {F i : Nat} {at' : Int} {l : List Int} (h : l.length ≤ i ∨ F ≤ i) : shSt hi (F - i) at' (l.drop i) = [] := by
  rcases h with h | h
  · rw [List.drop_of_length_le h]
    cases F - i <;> rfl
  · rw [show F - i = 0 by omega]
    rfl

set_option maxRecDepth 100000 in
set_option maxHeartbeats 2000000 in
theorem ksteps_any (l : List Int) (a : Option Addr) (cap : Nat) (w : World) (hl : l.length ≤ 1000000000) (hc : IntsAt w (.slice a l.length cap) l) (h64 : ∀ i, i < l.length → I64k (l.getD i 0)) :
    Calls Tryz.prog 16 #[.slice a l.length cap] w fun e w' => LsP (shSt 1000000000 4 0 l) w e w' := by
  obtain ⟨i3, y3, y4⟩ := Option.map_eq_some_iff.1 info3
  simp only [Prod.mk.injEq] at y4
  have I3 := hid y3
  have Z3 := hid y4
  clear y3 y4
  have HC := hid hc
  have H64 := hid h64
  clear hc h64
  go_enter Tryz.func16, Tryz.ntmps16
  go_wp2
  go_loopw [3, 4, 5] (fun to ta ti wr => ∃ (i : Nat) (at' : Int) (out : List Int) (v : Value), i ≤ 4 ∧ ti = .int .i64 i ∧ ta = .int .i64 at' ∧ v = to ∧ 0 ≤ at' ∧ at' ≤ 1000000000 ∧ out.length ≤ i ∧ Hid (out ++ shSt 1000000000 (4 - i) at' (l.drop i) = shSt 1000000000 4 0 l) ∧ Hid (wr.ownsRow w.heap.size 3 1 v out.length (out.map (fun x => Value.int .i64 x))) ∧ Hid (Below w.heap.size w wr)) (fun _ _ ti _ => 4 - (intOf ti).toNat)
  case atStart => exact ⟨0, 0, [], .slice none 0 0, by omega, rfl, rfl, rfl, by omega, by omega, by simp, rfl, ⟨rfl, Or.inl ⟨rfl, rfl⟩⟩, Below.refl _ _⟩
  case round =>
    obtain ⟨i, at', out, v, i1, rfl, rfl, rfl, a0, a1, ol, hst, hown, hb⟩ := hrel
    have FIN : Hid (∀ W, shSt 1000000000 (4 - i) at' (l.drop i) = [] → W = wr → LsP (shSt 1000000000 4 0 l) w (.returned v) W) := fun W h hW => by
      subst hW
      have := hst.out
      rw [h, List.append_nil] at this
      exact ⟨v, rfl, by rw [← this]; exact hown.out, hb.out⟩
    by_cases c1 : i < l.length
    · by_cases c2 : i < 4
      · obtain ⟨b, off, rfl, zb, hcell⟩ : ∃ b off, a = some ⟨b, off, none⟩ ∧ b < wr.heap.size ∧ ∀ j, j < l.length → wr.cell? ⟨b, off + j, none⟩ = some (.int .i64 (l.getD j 0)) := by
          rcases IntsAt.cases (SlAt.below HC.out hb.out (Nat.le_refl _)) with h | h
          · omega
          · exact h
        have x := hcell i c1
        have lt' : (i : Int) < (l.length : Int) := by omega
        have PK := hid (fun W => kpick_any (l.getD i 0) 1000000000 W (H64.out i c1) (by omega) (by omega))
        have bd := pickI_bd (l.getD i 0) (n := 1000000000) (by omega)
        have ST := hid (shSt_step (hi := 1000000000) (at' := at') c1 c2)
        clear hcell
        generalize l.getD i 0 = lx at *
        generalize pickI lx 1000000000 = px at *
        by_cases c3 : 1000000000 < at' + 1 + px
        · have R := hid (FIN.out wr (by rw [ST.out, if_pos c3]) rfl)
          go_wp2_with (go_at_call 17; refine (PK.out _).mono ?_; rintro e w' ⟨rfl, hw⟩; rw [hw]; clear hw w')
          go_ret
          exact R.out
        · have N1 : Hid ((out ++ [at' + 1 + px]) ++ shSt 1000000000 (4 - (i + 1)) (at' + 1 + px) (l.drop (i + 1)) = shSt 1000000000 4 0 l) := by
            show _ = _
            have := hst.out
            rw [ST.out, if_neg c3] at this
            rw [← this]
            simp
          go_wp2_with first | (go_at_call 17; refine (PK.out _).mono ?_; rintro e w' ⟨rfl, hw⟩; rw [hw]; clear hw w') | (at_builtin; refine wpList_append_lies _ rfl (.tmp 26) (.tmp 28) 24 rfl w.heap.size 3 i3 _ 1 8 Tryz.underlying24 I3.out Z3.out.1 Z3.out.2.1 Z3.out.2.2 rfl (by omega) v out.length (out.map (fun x => Value.int .i64 x)) (by rfl) (own_alloc0 hown.out _) ⟨wr.heap.size, 0, none⟩ 1 1 [.int .i64 (at' + 1 + px)] (by rfl) (by rfl) (news1k _ _ _) (by simp [Value.oneCell']) (by omega) (by unfold maxLen; omega) (by omega) (by have := hb.out.size; simp; omega) (wr.heap.size + 1) (by simp) ?_; intro g cap4 w4 hown2 hgrow hat hlt; refine stopH ?_)
          have hsz := hb.out.size
          have N2 : Hid (w4.ownsRow w.heap.size 3 1 (.slice (some ⟨g, 0, none⟩) (out.length + 1) cap4) (out ++ [at' + 1 + px]).length ((out ++ [at' + 1 + px]).map (fun x => Value.int .i64 x))) := by
            rw [List.length_append, List.map_append]
            exact hown2
          have N3 : Hid (Below w.heap.size w w4) := hb.out.trans (grow_below0 hgrow (by omega) (fun g hg' => own_base hown.out hg'))
          clear hown2 hgrow hat hlt hown hb hst FIN ST
          refine hid ?_
          go_wp2
          go_roundw
          case rel => exact ⟨i + 1, at' + 1 + px, out ++ [at' + 1 + px], _, by omega, by go_num, by go_num, rfl, by omega, by omega, by simp; omega, N1, N2, N3⟩
          case measure => simp [intOf]; omega
      · have R := hid (FIN.out wr (shSt_end (Or.inr (by omega))) rfl)
        go_wp2
        go_ret
        exact R.out
    · have R := hid (FIN.out wr (shSt_end (Or.inl (by omega))) rfl)
      go_wp2
      go_ret
      exact R.out

set_option maxRecDepth 100000 in
set_option maxHeartbeats 2000000 in
theorem kholidays_any (l : List Int) (a : Option Addr) (cap : Nat) (w : World) (hl : l.length ≤ 1000000000) (hc : IntsAt w (.slice a l.length cap) l) (h64 : ∀ i, i < l.length → I64k (l.getD i 0)) :
    Calls Tryz.prog 18 #[.slice a l.length cap] w fun e w' => LsP (shSt 11574 20 (-1) l) w e w' := by
  obtain ⟨i3, y3, y4⟩ := Option.map_eq_some_iff.1 info3
  simp only [Prod.mk.injEq] at y4
  have I3 := hid y3
  have Z3 := hid y4
  clear y3 y4
  have HC := hid hc
  have H64 := hid h64
  clear hc h64
  go_enter Tryz.func18, Tryz.ntmps18
  go_wp2
  go_loopw [3, 4, 5] (fun to ta ti wr => ∃ (i : Nat) (at' : Int) (out : List Int) (v : Value), i ≤ 20 ∧ ti = .int .i64 i ∧ ta = .int .i64 at' ∧ v = to ∧ -1 ≤ at' ∧ at' ≤ 11574 ∧ out.length ≤ i ∧ Hid (out ++ shSt 11574 (20 - i) at' (l.drop i) = shSt 11574 20 (-1) l) ∧ Hid (wr.ownsRow w.heap.size 3 1 v out.length (out.map (fun x => Value.int .i64 x))) ∧ Hid (Below w.heap.size w wr)) (fun _ _ ti _ => 20 - (intOf ti).toNat)
  case atStart => exact ⟨0, -1, [], .slice none 0 0, by omega, rfl, rfl, rfl, by omega, by omega, by simp, rfl, ⟨rfl, Or.inl ⟨rfl, rfl⟩⟩, Below.refl _ _⟩
  case round =>
    obtain ⟨i, at', out, v, i1, rfl, rfl, rfl, a0, a1, ol, hst, hown, hb⟩ := hrel
    have FIN : Hid (∀ W, shSt 11574 (20 - i) at' (l.drop i) = [] → W = wr → LsP (shSt 11574 20 (-1) l) w (.returned v) W) := fun W h hW => by
      subst hW
      have := hst.out
      rw [h, List.append_nil] at this
      exact ⟨v, rfl, by rw [← this]; exact hown.out, hb.out⟩
    by_cases c1 : i < l.length
    · by_cases c2 : i < 20
      · obtain ⟨b, off, rfl, zb, hcell⟩ : ∃ b off, a = some ⟨b, off, none⟩ ∧ b < wr.heap.size ∧ ∀ j, j < l.length → wr.cell? ⟨b, off + j, none⟩ = some (.int .i64 (l.getD j 0)) := by
          rcases IntsAt.cases (SlAt.below HC.out hb.out (Nat.le_refl _)) with h | h
          · omega
          · exact h
        have x := hcell i c1
        have lt' : (i : Int) < (l.length : Int) := by omega
        have PK := hid (fun W => kpick_any (l.getD i 0) 11574 W (H64.out i c1) (by omega) (by omega))
        have bd := pickI_bd (l.getD i 0) (n := 11574) (by omega)
        have ST := hid (shSt_step (hi := 11574) (at' := at') c1 c2)
        clear hcell
        generalize l.getD i 0 = lx at *
        generalize pickI lx 11574 = px at *
        by_cases c3 : 11574 < at' + 1 + px
        · have R := hid (FIN.out wr (by rw [ST.out, if_pos c3]) rfl)
          go_wp2_with (go_at_call 17; refine (PK.out _).mono ?_; rintro e w' ⟨rfl, hw⟩; rw [hw]; clear hw w')
          go_ret
          exact R.out
        · have N1 : Hid ((out ++ [at' + 1 + px]) ++ shSt 11574 (20 - (i + 1)) (at' + 1 + px) (l.drop (i + 1)) = shSt 11574 20 (-1) l) := by
            show _ = _
            have := hst.out
            rw [ST.out, if_neg c3] at this
            rw [← this]
            simp
          go_wp2_with first | (go_at_call 17; refine (PK.out _).mono ?_; rintro e w' ⟨rfl, hw⟩; rw [hw]; clear hw w') | (at_builtin; refine wpList_append_lies _ rfl (.tmp 26) (.tmp 28) 24 rfl w.heap.size 3 i3 _ 1 8 Tryz.underlying24 I3.out Z3.out.1 Z3.out.2.1 Z3.out.2.2 rfl (by omega) v out.length (out.map (fun x => Value.int .i64 x)) (by rfl) (own_alloc0 hown.out _) ⟨wr.heap.size, 0, none⟩ 1 1 [.int .i64 (at' + 1 + px)] (by rfl) (by rfl) (news1k _ _ _) (by simp [Value.oneCell']) (by omega) (by unfold maxLen; omega) (by omega) (by have := hb.out.size; simp; omega) (wr.heap.size + 1) (by simp) ?_; intro g cap4 w4 hown2 hgrow hat hlt; refine stopH ?_)
          have hsz := hb.out.size
          have N2 : Hid (w4.ownsRow w.heap.size 3 1 (.slice (some ⟨g, 0, none⟩) (out.length + 1) cap4) (out ++ [at' + 1 + px]).length ((out ++ [at' + 1 + px]).map (fun x => Value.int .i64 x))) := by
            rw [List.length_append, List.map_append]
            exact hown2
          have N3 : Hid (Below w.heap.size w w4) := hb.out.trans (grow_below0 hgrow (by omega) (fun g hg' => own_base hown.out hg'))
          clear hown2 hgrow hat hlt hown hb hst FIN ST
          refine hid ?_
          go_wp2
          go_roundw
          case rel => exact ⟨i + 1, at' + 1 + px, out ++ [at' + 1 + px], _, by omega, by go_num, by go_num, rfl, by omega, by omega, by simp; omega, N1, N2, N3⟩
          case measure => simp [intOf]; omega
      · have R := hid (FIN.out wr (shSt_end (Or.inr (by omega))) rfl)
        go_wp2
        go_ret
        exact R.out
    · have R := hid (FIN.out wr (shSt_end (Or.inl (by omega))) rfl)
      go_wp2
      go_ret
      exact R.out

end Go.Proofs.YtmofidaojmiepaaGreatDoor
