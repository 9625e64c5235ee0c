/-
  THE WALKS: value and timed.
-/
import Derived.Test.YtkhpkpaglkinbaaGreatDoorW7
set_option linter.unusedVariables false
set_option linter.unusedSimpArgs false
namespace Go.Proofs.YtkhpkpaglkinbaaGreatDoor
open Go.RowKit

theorem crel0 {week : Int} {hol : List Int} {now kd a b c k x y z : Int} (h : kd = 0 ∨ kd = 1) : CRel week hol now ⟨kd, a, b, c, k⟩ x y z k :=
  ⟨fun _ => rfl, fun e => by have : 2 ≤ kd := e.1; omega, fun e => by have : kd = 9 := e; omega, fun e => by have : kd = 10 := e; omega, fun e => by have : kd = 11 := e; omega, fun e => by have : kd = 12 := e; omega⟩
theorem crel2 {week : Int} {hol : List Int} {now kd a b c k x y z : Int} (h : 2 ≤ kd) (h' : kd ≤ 8) : CRel week hol now ⟨kd, a, b, c, k⟩ x y z (M.two kd x y) :=
  ⟨fun e => by have : kd = 0 ∨ kd = 1 := e; omega, fun _ => rfl, fun e => by have : kd = 9 := e; omega, fun e => by have : kd = 10 := e; omega, fun e => by have : kd = 11 := e; omega, fun e => by have : kd = 12 := e; omega⟩
theorem crel9 {week : Int} {hol : List Int} {now a b c k x y z v : Int} (h : v = if x = 0 then z else y) : CRel week hol now ⟨9, a, b, c, k⟩ x y z v :=
  ⟨fun e => by have : (9 : Int) = 0 ∨ (9 : Int) = 1 := e; omega, fun e => by have : (9 : Int) ≤ 8 := e.2; omega, fun _ => h, fun e => by have : (9 : Int) = 10 := e; omega, fun e => by have : (9 : Int) = 11 := e; omega, fun e => by have : (9 : Int) = 12 := e; omega⟩
theorem crel10 {week : Int} {hol : List Int} {now a b c k x y z v : Int} (h : v = M.num (decide (x ≤ now))) : CRel week hol now ⟨10, a, b, c, k⟩ x y z v :=
  ⟨fun e => by have : (10 : Int) = 0 ∨ (10 : Int) = 1 := e; omega, fun e => by have : (10 : Int) ≤ 8 := e.2; omega, fun e => by have : (10 : Int) = 9 := e; omega, fun _ => h, fun e => by have : (10 : Int) = 11 := e; omega, fun e => by have : (10 : Int) = 12 := e; omega⟩
theorem crel11 {week : Int} {hol : List Int} {now a b c k x y z v : Int} (h : v = if now < x then 0 else (now - x) / k) : CRel week hol now ⟨11, a, b, c, k⟩ x y z v :=
  ⟨fun e => by have : (11 : Int) = 0 ∨ (11 : Int) = 1 := e; omega, fun e => by have : (11 : Int) ≤ 8 := e.2; omega, fun e => by have : (11 : Int) = 9 := e; omega, fun e => by have : (11 : Int) = 10 := e; omega, fun _ => h, fun e => by have : (11 : Int) = 12 := e; omega⟩
theorem crel12 {week : Int} {hol : List Int} {now a b c k x y z v T : Int} (h : M.IsDue (M.wkd week hol) (x / 86400) k.toNat T) (h' : v = M.cutv (T * 86400)) : CRel week hol now ⟨12, a, b, c, k⟩ x y z v :=
  ⟨fun e => by have : (12 : Int) = 0 ∨ (12 : Int) = 1 := e; omega, fun e => by have : (12 : Int) ≤ 8 := e.2; omega, fun e => by have : (12 : Int) = 9 := e; omega, fun e => by have : (12 : Int) = 10 := e; omega, fun e => by have : (12 : Int) = 11 := e; omega, fun _ => ⟨T, h, h'⟩⟩

set_option maxHeartbeats 2000000 in
theorem value_any (aC aR aH : Option Addr) (nC cC nR cR nH cH : Nat) (week : Int) (hol : List Int) (kd ca cb cc ck : Int) (av : Option Addr) (nv cv : Nat) (V : Nat → Int) (now : Int) (w : World)
    (h1 : 1 ≤ week) (h2 : week ≤ 127) (hh : HolOk hol) (hn : nH = hol.length) (hc : IntsAt w (.slice aH nH cH) hol) (hk : 0 ≤ kd) (hk' : kd ≤ 12) (hK : KOk ⟨kd, ca, cb, cc, ck⟩) (hl : nv ≤ 20) (hcv : FnAt w (.slice av nv cv) nv V)
    (hv : ∀ i, i < nv → IsV (V i)) (n0 : 0 ≤ now) (n1 : now ≤ 1000000000) :
    Calls Tryz.prog 81 #[.agg #[.slice aC nC cC, .slice aR nR cR, .int .i64 week, .slice aH nH cH], .agg #[.int .i64 kd, .int .i64 ca, .int .i64 cb, .int .i64 cc, .int .i64 ck], .slice av nv cv, .int .i64 now] w
      fun e w' => ∃ v, e = .returned (.int .i64 v) ∧ CRel week hol now ⟨kd, ca, cb, cc, ck⟩ (pk V nv ca) (pk V nv cb) (pk V nv cc) v ∧ Below w.heap.size w w' := by
  have HH : Hid _ := hh
  have HN : Hid _ := hn
  have HC : Hid _ := hc
  have HK : Hid _ := hK
  have HCV : Hid _ := hcv
  obtain ⟨x1, x2⟩ := pk_v hv ca
  obtain ⟨y1, y2⟩ := pk_v hv cb
  obtain ⟨z1, z2⟩ := pk_v hv cc
  clear hh hn hc hK hcv hv
  have hb2 : ∀ o o', Below w.heap.size w ((w.alloc o).alloc o') := fun o o' => ((Below.refl _ _).alloc (Nat.le_refl _) _).alloc (by simp) _
  have HB2 : Hid _ := hb2
  clear hb2
  have P : ∀ i W, Below w.heap.size w W → Calls Tryz.prog 86 #[.slice av nv cv, .int .i64 i] W fun e w' => e = .returned (.int .i64 (pk V nv i)) ∧ w' = W :=
    fun i W hW => pick_any av nv cv V i W hl (SlAt.below HCV.out hW (Nat.le_refl _))
  have HP : Hid _ := P
  clear P
  have cs : (kd = 0 ∨ kd = 1) ∨ kd = 9 ∨ kd = 10 ∨ kd = 11 ∨ kd = 12 ∨ (2 ≤ kd ∧ kd ≤ 8) := by omega
  generalize hx : pk V nv ca = x at *
  generalize hy : pk V nv cb = y at *
  generalize hz : pk V nv cc = z at *
  have HX : Hid _ := hx
  have HY : Hid _ := hy
  have HZ : Hid _ := hz
  clear hx hy hz
  rcases cs with (rfl | rfl) | rfl | rfl | rfl | rfl | ⟨k2, k8⟩
  · go_enter Tryz.func81, Tryz.ntmps81
    go_wp2_with (go_at_call 86; refine (HP.out _ _ (HB2.out _ _)).mono ?_; rintro e w1 ⟨rfl, rfl⟩)
    go_ret
    exact ⟨_, rfl, crel0 (Or.inl rfl), HB2.out _ _⟩
  · go_enter Tryz.func81, Tryz.ntmps81
    go_wp2_with (go_at_call 86; refine (HP.out _ _ (HB2.out _ _)).mono ?_; rintro e w1 ⟨rfl, rfl⟩)
    go_ret
    exact ⟨_, rfl, crel0 (Or.inr rfl), HB2.out _ _⟩
  · by_cases c : x = 0
    · have c' : (x != 0) = false := by simp [c]
      have C : Hid _ := c
      clear c
      go_enter Tryz.func81, Tryz.ntmps81
      go_wp2_with (go_at_call 86; refine (HP.out _ _ (HB2.out _ _)).mono ?_; rintro e w1 ⟨rfl, rfl⟩; simp only [HX.out, HY.out])
      go_ret
      exact ⟨_, rfl, crel9 (by rw [if_pos C.out]; exact HZ.out), HB2.out _ _⟩
    · have c' : (x != 0) = true := by simp [c]
      have C : Hid _ := c
      clear c
      go_enter Tryz.func81, Tryz.ntmps81
      go_wp2_with (go_at_call 86; refine (HP.out _ _ (HB2.out _ _)).mono ?_; rintro e w1 ⟨rfl, rfl⟩; simp only [HX.out, HY.out])
      go_ret
      exact ⟨_, rfl, crel9 (by rw [if_neg C.out]), HB2.out _ _⟩
  · go_enter Tryz.func81, Tryz.ntmps81
    go_wp2_with (first | (go_at_call 86; refine (HP.out _ _ (HB2.out _ _)).mono ?_; rintro e w1 ⟨rfl, rfl⟩; simp only [HX.out, HY.out]) | (go_at_call 87; refine (truth_any _ _).mono ?_; rintro e w1 ⟨rfl, rfl⟩))
    go_ret
    exact ⟨_, rfl, crel10 rfl, HB2.out _ _⟩
  · obtain ⟨q1, q2⟩ := HK.out.2.1 rfl
    go_enter Tryz.func81, Tryz.ntmps81
    go_wp2_with (first | (go_at_call 86; refine (HP.out _ _ (HB2.out _ _)).mono ?_; rintro e w1 ⟨rfl, rfl⟩; simp only [HX.out, HY.out]) | (go_at_call 88; refine (page_any _ _ _ _ x1 x2 q1 q2 n0 n1).mono ?_; rintro e w1 ⟨rfl, rfl⟩))
    go_ret
    exact ⟨_, rfl, crel11 rfl, HB2.out _ _⟩
  · obtain ⟨q1, q2⟩ := HK.out.2.2 rfl
    go_enter Tryz.func81, Tryz.ntmps81
    go_wp2_with (go_at_call 86; refine (HP.out _ _ (HB2.out _ _)).mono ?_; rintro e w1 ⟨rfl, rfl⟩; simp only [HX.out, HY.out])
    refine (pdue_any aC aR aH nC cC nR cR nH cH week x ck hol _ h1 h2 x1 x2 q1 q2 HH.out HN.out (SlAt.below HC.out (HB2.out _ _) (Nat.le_refl _))).mono ?_
    rintro e w1 ⟨T, rfl, hT, hb⟩
    have HB : Hid (Below w.heap.size w w1) := (HB2.out _ _).trans (hb.mono (by simp; omega))
    have HT : Hid _ := hT
    clear hb hT
    go_wp2
    go_ret
    exact ⟨_, rfl, crel12 HT.out rfl, HB.out⟩
  · have t0 : (kd == 0) = false := beq_eq_false_iff_ne.2 (by omega)
    have t1 : (kd == 1) = false := beq_eq_false_iff_ne.2 (by omega)
    have t9 : (kd == 9) = false := beq_eq_false_iff_ne.2 (by omega)
    have t10 : (kd == 10) = false := beq_eq_false_iff_ne.2 (by omega)
    have t11 : (kd == 11) = false := beq_eq_false_iff_ne.2 (by omega)
    have t12 : (kd == 12) = false := beq_eq_false_iff_ne.2 (by omega)
    go_enter Tryz.func81, Tryz.ntmps81
    go_wp2_with (first | (go_at_call 86; refine (HP.out _ _ (HB2.out _ _)).mono ?_; rintro e w1 ⟨rfl, rfl⟩; simp only [HX.out, HY.out]) | (go_at_call 90; refine (ofTwo_any _ _ _ _ k2 k8 x1 x2 y1 y2).mono ?_; rintro e w1 ⟨rfl, rfl⟩))
    go_ret
    exact ⟨_, rfl, crel2 k2 k8, HB2.out _ _⟩

set_option maxHeartbeats 1000000 in
theorem timed_any (aC aR aH : Option Addr) (nC cC nR cR nH cH : Nat) (week : Int) (hol : List Int) (kd ca cb cc ck x : Int) (now : Int) (w : World)
    (h1 : 1 ≤ week) (h2 : week ≤ 127) (hh : HolOk hol) (hn : nH = hol.length) (hc : IntsAt w (.slice aH nH cH) hol) (hk : 10 ≤ kd) (hk' : kd ≤ 12) (hK : KOk ⟨kd, ca, cb, cc, ck⟩)
    (x1 : -2000000000 ≤ x) (x2 : x ≤ 2000000000) (n0 : 0 ≤ now) (n1 : now ≤ 1000000000) :
    Calls Tryz.prog 82 #[.agg #[.slice aC nC cC, .slice aR nR cR, .int .i64 week, .slice aH nH cH], .agg #[.int .i64 kd, .int .i64 ca, .int .i64 cb, .int .i64 cc, .int .i64 ck], .int .i64 x, .int .i64 now] w
      fun e w' => ∃ v, e = .returned (.int .i64 v) ∧ Hid (∀ y z, CRel week hol now ⟨kd, ca, cb, cc, ck⟩ x y z v) ∧ Below w.heap.size w w' := by
  have HH : Hid _ := hh
  have HN : Hid _ := hn
  have HC : Hid _ := hc
  have HK : Hid _ := hK
  clear hh hn hc hK
  have hb2 : ∀ o o', Below w.heap.size w ((w.alloc o).alloc o') := fun o o' => ((Below.refl _ _).alloc (Nat.le_refl _) _).alloc (by simp) _
  have HB2 : Hid _ := hb2
  clear hb2
  have cs : kd = 10 ∨ kd = 11 ∨ kd = 12 := by omega
  rcases cs with rfl | rfl | rfl
  · go_enter Tryz.func82, Tryz.ntmps82
    go_wp2_with (go_at_call 91; refine (number_any _ _).mono ?_; rintro e w1 ⟨rfl, rfl⟩)
    go_ret
    exact ⟨_, rfl, fun y z => crel10 rfl, HB2.out _ _⟩
  · have q1 : 1000000 ≤ ck := (HK.out.2.1 rfl).1
    have q2 : ck ≤ 1000000000 := (HK.out.2.1 rfl).2
    by_cases c : now < x
    · have C : Hid (now < x) := c
      go_enter Tryz.func82, Tryz.ntmps82
      go_wp2
      go_ret
      exact ⟨_, rfl, fun y z => crel11 (by rw [if_pos (by have := C.out; omega)]), HB2.out _ _⟩
    · have C : Hid (¬ now < x) := c
      have hq0 : 0 ≤ (now - x) / ck := Int.ediv_nonneg (by omega) (by omega)
      go_enter Tryz.func82, Tryz.ntmps82
      go_wp2
      go_ret
      exact ⟨_, rfl, fun y z => crel11 (by rw [if_neg (by have := C.out; omega)]), HB2.out _ _⟩
  · obtain ⟨q1, q2⟩ := HK.out.2.2 rfl
    go_enter Tryz.func82, Tryz.ntmps82
    go_wp2_with fail
    refine (rdue_any aC aR aH nC cC nR cR nH cH week x ck hol _ h1 h2 x1 x2 q1 q2 HH.out HN.out (SlAt.below HC.out (HB2.out _ _) (Nat.le_refl _))).mono ?_
    rintro e w1 ⟨T, rfl, hT, hb⟩
    have HB : Hid (Below w.heap.size w w1) := (HB2.out _ _).trans (hb.mono (by simp; omega))
    have HT : Hid _ := hT
    clear hb hT
    go_wp2
    go_ret
    exact ⟨_, rfl, fun y z => crel12 HT.out rfl, HB.out⟩

end Go.Proofs.YtkhpkpaglkinbaaGreatDoor
