/-
  THE CODE: a case's calls, exactly: Set, Value, Rule, Ack, Close.
-/
import Derived.Test.YtmofidaojmiepaaGreatDoorGK6
set_option linter.unusedVariables false
set_option linter.unusedSimpArgs false
namespace Go.Proofs.YtmofidaojmiepaaGreatDoor

open Go.RowKit

attribute [local go_sem ↓] Go.wp_at_zero Go.wp_at_succ

theorem has_any {Q : Nat → Prop} {f : Frm} {p : KPl} {m : Cs} {vE : Value} {w : World} (c : Int) (h : KAt Q f p m vE w) : Calls Tryz.prog 45 #[.pointer (some ⟨p.bp, 0, none⟩), .int .i64 c] w fun e w' => e = .returned (.bool (decide (0 ≤ c ∧ c < f.n))) ∧ w' = w := by
  have r0 := (show KSt Q f p m.F m.T m.op m.S vE m.E w from h).row.cell (i := 0) (by omega)
  simp [kf] at r0
  clear h
  by_cases c0 : 0 ≤ c
  · by_cases c1 : c < f.n
    · rw [show decide (0 ≤ c ∧ c < f.n) = true from decide_eq_true ⟨c0, c1⟩]
      go_enter Tryz.func45, Tryz.ntmps45
      go_wp2
      go_ret
      simp
    · rw [show decide (0 ≤ c ∧ c < f.n) = false from decide_eq_false (by omega)]
      go_enter Tryz.func45, Tryz.ntmps45
      go_wp2
      go_ret
      simp
  · rw [show decide (0 ≤ c ∧ c < f.n) = false from decide_eq_false (by omega)]
    go_enter Tryz.func45, Tryz.ntmps45
    go_wp2
    go_ret
    simp

theorem hasr_any {Q : Nat → Prop} {f : Frm} {p : KPl} {m : Cs} {vE : Value} {w : World} (c : Int) (h : KAt Q f p m vE w) : Calls Tryz.prog 50 #[.pointer (some ⟨p.bp, 0, none⟩), .int .i64 c] w fun e w' => e = .returned (.bool (decide (0 ≤ c ∧ c < f.k))) ∧ w' = w := by
  have r0 := (show KSt Q f p m.F m.T m.op m.S vE m.E w from h).row.cell (i := 6) (by omega)
  simp [kf] at r0
  clear h
  by_cases c0 : 0 ≤ c
  · by_cases c1 : c < f.k
    · rw [show decide (0 ≤ c ∧ c < f.k) = true from decide_eq_true ⟨c0, c1⟩]
      go_enter Tryz.func50, Tryz.ntmps50
      go_wp2
      go_ret
      simp
    · rw [show decide (0 ≤ c ∧ c < f.k) = false from decide_eq_false (by omega)]
      go_enter Tryz.func50, Tryz.ntmps50
      go_wp2
      go_ret
      simp
  · rw [show decide (0 ≤ c ∧ c < f.k) = false from decide_eq_false (by omega)]
    go_enter Tryz.func50, Tryz.ntmps50
    go_wp2
    go_ret
    simp

set_option maxRecDepth 100000 in
set_option maxHeartbeats 1000000 in
theorem kValue_any {Q : Nat → Prop} {f : Frm} {p : KPl} {m : Cs} {vE : Value} {w : World} (c : Int) (h : KAt Q f p m vE w) (hf : f.Ok) (hm : m.Ok f) :
    Calls Tryz.prog 29 #[.pointer (some ⟨p.bp, 0, none⟩), .int .i64 c] w fun e w' => VAns f m.F m.T c w e w' := by
  obtain ⟨n1, hn, hk, wk1, wk2⟩ := hf.sizes
  have HAS := hid (has_any c h)
  have CALL := hid (kvalues_any (show KSt Q f p m.F m.T m.op m.S vE m.E w from h) hf hm.fv hm.t0 hm.t1)
  clear h hf hm
  by_cases hc : 0 ≤ c ∧ c < f.n
  · rw [show decide (0 ≤ c ∧ c < f.n) = true from decide_eq_true hc] at HAS
    obtain ⟨i, rfl⟩ := Int.eq_ofNat_of_zero_le hc.1
    have i1 : i < f.n := by omega
    clear hc
    go_enter Tryz.func29, Tryz.ntmps29
    go_wp2_with fail
    refine HAS.out.mono ?_
    rintro e w' ⟨rfl, rfl⟩
    go_wp2_with fail
    refine CALL.out.mono ?_
    rintro e w1 ⟨b, rfl, q1, q2, hb2⟩
    have x := q2.cell (i := i) i1
    have R : Hid (VAns f m.F m.T i w' (.returned (.tuple #[.int .i64 (f.vals m.F m.T i), .int .i64 0])) w1) := vans_yes i1 hb2
    clear q2 hb2
    go_wp2
    go_ret2
    exact R.out
  · rw [show decide (0 ≤ c ∧ c < f.n) = false from decide_eq_false hc] at HAS
    have R : Hid (VAns f m.F m.T c w (.returned (.tuple #[.int .i64 0, .int .i64 6])) w) := vans_no hc (Below.refl _ _)
    go_enter Tryz.func29, Tryz.ntmps29
    go_wp2_with (go_at_call 45; refine HAS.out.mono ?_; rintro e w' ⟨rfl, rfl⟩)
    go_ret2
    exact R.out

theorem cellf_k {C : Nat → Cel} {i : Nat} {v : Int} (j : Nat) : (if j = i * 5 + 4 then .int .i64 v else cellf C j) = cellf (upd C i ⟨(C i).kind, (C i).a, (C i).b, (C i).c, v⟩) j := by
  unfold cellf upd
  by_cases h : j = i * 5 + 4
  · rw [if_pos h, if_neg (by omega), if_neg (by omega), if_neg (by omega), if_neg (by omega), if_pos (by omega)]
  · rw [if_neg h]
    by_cases e : j / 5 = i
    · have h4 : j % 5 ≠ 4 := by omega
      rw [if_pos e]
      by_cases e0 : j % 5 = 0
      · simp only [e0, if_true, e]
      by_cases e1 : j % 5 = 1
      · simp [e1, e]
      by_cases e2 : j % 5 = 2
      · simp [e2, e]
      by_cases e3 : j % 5 = 3
      · simp [e3, e]
      omega
    · rw [if_neg e]

theorem effC_fill {C : Nat → Cel} {F : Nat → Int} {i : Nat} {v : Int} (hk : (C i).kind = 0) : upd (effC C F) i ⟨(effC C F i).kind, (effC C F i).a, (effC C F i).b, (effC C F i).c, v⟩ = effC C (upd F i v) := by
  funext j
  by_cases e : j = i
  · subst e
    rw [upd_same]
    show (⟨(C j).kind, (C j).a, (C j).b, (C j).c, v⟩ : Cel) = ⟨(C j).kind, (C j).a, (C j).b, (C j).c, if (C j).kind = 0 then upd F j v j else (C j).k⟩
    rw [if_pos hk, upd_same]
  · rw [upd_other _ _ e]
    unfold effC
    rw [upd_other _ _ e]

/-- A cell is filled in. -/
theorem KSt.fill {Q : Nat → Prop} {f : Frm} {p : KPl} {F : Nat → Int} {T : Int} {op : Bool} {S : Nat → St} {vE : Value} {E : List Ev} {w : World} (h : KSt Q f p F T op S vE E w) (i : Nat) (v : Int) (hk : (f.C i).kind = 0) : KSt Q f p (upd F i v) T op S vE E (w.setCell ⟨p.bc, i * 5 + 4, none⟩ (.int .i64 v)) := by
  obtain ⟨g, N, f1, f2, f3⟩ := h.cel
  obtain ⟨n1, n2, n3, n4, n5, n6⟩ := h.nbp
  refine ⟨h.base.move ⟨by simp, fun j q _ => Below.heap_setCell _ _ _ _ (h.dis j q).2.1⟩, fun j q => by simpa using h.qlt j q, h.dis, h.row.setOther (Ne.symm n1) _, ⟨_, N, f1.set _ _, f2, fun j hj => ?_⟩, h.sta.setOther (Ne.symm n3) _, ownsRow_setCell_other h.ev n5 _⟩
  rw [← effC_fill hk, ← cellf_k]
  show (if j = i * 5 + 4 then _ else g j) = _
  rw [f3 j hj]

set_option maxRecDepth 100000 in
set_option maxHeartbeats 2000000 in
theorem kSet_any {Q : Nat → Prop} {f : Frm} {p : KPl} {m : Cs} {vE : Value} {w : World} (c v : Int) (hS : KAt Q f p m vE w) (hf : f.Ok) (hm : m.Ok f) (hE : m.E.length ≤ 999999999000) :
    Calls Tryz.prog 26 #[.pointer (some ⟨p.bp, 0, none⟩), .int .i64 c, .int .i64 v] w fun e w' => KInP Q f p (setNo f m c v) (setM f m c v) vE w e w' := by
  have hD : KSt Q f p m.F m.T m.op m.S vE m.E w := hS
  have r0 := hD.row.cell (i := 0) (by omega)
  have r5 := hD.row.cell (i := 5) (by omega)
  simp [kf] at r0 r5
  have HAS := hid (has_any c hS)
  have IV := hid (fun W => pisv_any v W)
  have KEEP : setNo f m c v ≠ 0 → Hid (KInP Q f p (setNo f m c v) (setM f m c v) vE w (.returned (.int .i64 (setNo f m c v))) w) := fun h => ⟨vE, rfl, by unfold setM; rw [if_neg h]; exact hS, KGone.refl _ _ _⟩
  by_cases ho : m.op = false
  · have A : setNo f m c v = 10 := by unfold setNo; rw [if_pos ho]
    have R := KEEP (by rw [A]; decide)
    rw [A] at R
    rw [ho] at r5
    rw [A]
    clear KEEP hS hD hf hm A ho
    go_enter Tryz.func26, Tryz.ntmps26
    go_wp2
    go_ret
    exact R.out
  have B : setNo f m c v = setAns f.C f.n c v := by unfold setNo; rw [if_neg ho]
  have ho' : m.op = true := by simpa using ho
  rw [ho'] at r5
  by_cases hc : 0 ≤ c ∧ c < f.n
  · rw [show decide (0 ≤ c ∧ c < f.n) = true from decide_eq_true hc] at HAS
    obtain ⟨i, rfl⟩ := Int.eq_ofNat_of_zero_le hc.1
    have i1 : i < f.n := by omega
    have d0 := (hD.celIs i1).1
    have d4 := (hD.celIs i1).2.2.2.2
    rw [Nat.zero_add] at d0 d4
    have zc := hD.celLt
    have fz : ∀ j, w.frozen? ⟨p.bc, j, none⟩ = false := by obtain ⟨_, _, f1, _⟩ := hD.cel; exact fun j => f1.frozen j
    by_cases k0 : (f.C i).kind = 0
    · rw [show (effC f.C m.F i).kind = 0 from k0] at d0
      cases ev : M.isv v
      · have A : setNo f m i v = 8 := by rw [B]; unfold setAns; rw [if_neg (by omega), if_neg (by simpa using k0), if_pos ev]
        have R := KEEP (by rw [A]; decide)
        rw [A] at R
        rw [A]
        clear KEEP hS hD hf hm A B k0
        go_enter Tryz.func26, Tryz.ntmps26
        go_wp2_with first | (go_at_call 45; refine HAS.out.mono ?_; rintro e w' ⟨rfl, rfl⟩) | (go_at_call 46; refine (IV.out _).mono ?_; rintro e w' ⟨rfl, rfl⟩; rw [ev])
        go_ret
        exact R.out
      · have A : setNo f m i v = 0 := by rw [B]; unfold setAns; rw [if_neg (by omega), if_neg (by simpa using k0), if_neg (by simp [ev])]
        have hz : setAns f.C f.n i v = 0 := by rw [← B]; exact A
        obtain ⟨_, _, _, hv⟩ := setAns_zero hz
        have A2 : Hid (setM f m i v = Cs.settle f (m.fill i v)) := by show _ = _; unfold setM; rw [if_pos A]; rfl
        have HFV : FV f (m.fill i v).F := fun j hj hk => by
          show IsV (upd m.F i v j)
          by_cases e : j = i
          · subst e; rw [upd_same]; exact hv
          · rw [upd_other _ _ e]; exact hm.fv j hj hk
        have S2 : Hid (KAt Q f p (m.fill i v) vE (w.setCell ⟨p.bc, i * 5 + 4, none⟩ (.int .i64 v))) := hD.fill i v k0
        have G2 : Hid (KGone p vE vE w (w.setCell ⟨p.bc, i * 5 + 4, none⟩ (.int .i64 v))) := (KGone.refl p vE w).setC _ _
        have HF := hid hf
        have HM := hid hm
        have HV := hid HFV
        rw [A]
        clear KEEP hS hD hf hm A B k0 hz hv HFV hc
        go_enter Tryz.func26, Tryz.ntmps26
        go_wp2_with fail
        refine HAS.out.mono ?_
        rintro e w' ⟨rfl, rfl⟩
        go_wp2_with fail
        refine (IV.out _).mono ?_
        rintro e w' ⟨rfl, rfl⟩
        rw [ev]
        go_wp2_with fail
        refine (kvalues_any (show KSt Q f p (m.fill i v).F (m.fill i v).T (m.fill i v).op (m.fill i v).S vE (m.fill i v).E _ from S2.out) HF.out HV.out HM.out.t0 HM.out.t1).mono ?_
        rintro e w4 ⟨bn, rfl, y1, y2, y3⟩
        have S4 : Hid (KAt Q f p (m.fill i v) vE w4) := KSt.drop S2.out y3
        have V4 := hid y2
        have G4 := hid (G2.out.low y3)
        have N4 : Hid (¬ KOwn p vE bn) := fun h => by have := KSt.own_lt S2.out _ h; omega
        clear y1 y2 y3
        go_wp2_with fail
        refine (ksettle_cs S4.out HF.out HM.out.st hE V4.out N4.out).mono ?_
        rintro e w5 ⟨vE2, rfl, x1, x2⟩
        have R : Hid (KInP Q f p 0 (setM f m i v) vE w' (.returned (.int .i64 0)) w5) := ⟨vE2, rfl, by rw [A2.out]; exact x1, G4.out.trans x2⟩
        clear x1 x2
        go_wp2
        go_ret
        exact R.out
    · have A : setNo f m i v = 7 := by rw [B]; unfold setAns; rw [if_neg (by omega), if_pos (by simpa using k0)]
      have R := KEEP (by rw [A]; decide)
      rw [A] at R
      rw [A]
      rw [show (effC f.C m.F i).kind = (f.C i).kind from rfl] at d0
      clear KEEP hS hD hf hm A B
      go_enter Tryz.func26, Tryz.ntmps26
      go_wp2_with (go_at_call 45; refine HAS.out.mono ?_; rintro e w' ⟨rfl, rfl⟩)
      go_ret
      exact R.out
  · rw [show decide (0 ≤ c ∧ c < f.n) = false from decide_eq_false hc] at HAS
    have A : setNo f m c v = 6 := by rw [B]; unfold setAns; rw [if_pos (by omega)]
    have R := KEEP (by rw [A]; decide)
    rw [A] at R
    rw [A]
    clear KEEP hS hD hf hm A B
    go_enter Tryz.func26, Tryz.ntmps26
    go_wp2_with (go_at_call 45; refine HAS.out.mono ?_; rintro e w' ⟨rfl, rfl⟩)
    go_ret
    exact R.out

set_option maxRecDepth 100000 in
set_option maxHeartbeats 2000000 in
theorem kRule_any {Q : Nat → Prop} {f : Frm} {p : KPl} {m : Cs} {vE : Value} {w : World} (r : Int) (hS : KAt Q f p m vE w) :
    Calls Tryz.prog 30 #[.pointer (some ⟨p.bp, 0, none⟩), .int .i64 r] w fun e w' => RAns f m r w e w' := by
  have hD : KSt Q f p m.F m.T m.op m.S vE m.E w := hS
  have zb := hD.row.lt
  have zS := hD.sta.lt
  have BW : Hid (∀ o, Below w.heap.size w (w.alloc o)) := fun o => (Below.refl _ _).alloc (Nat.le_refl _) _
  have hA := hD.drop (BW.out (.cells #[.bool false, .int .i64 0, .int .i64 0, .bool false] 71))
  have HAS := hid (hasr_any (m := m) r hA)
  have r6 := hA.row.cell (i := 6) (by omega)
  simp [kf] at r6
  by_cases hc : 0 ≤ r ∧ r < f.k
  · rw [show decide (0 ≤ r ∧ r < f.k) = true from decide_eq_true hc] at HAS
    obtain ⟨i, rfl⟩ := Int.eq_ofNat_of_zero_le hc.1
    have i1 : i < f.k := by omega
    have s0 := hA.sta.cell (i := i * 4) (by omega)
    have s1 := hA.sta.cell (i := i * 4 + 1) (by omega)
    have s2 := hA.sta.cell (i := i * 4 + 2) (by omega)
    have s3 := hA.sta.cell (i := i * 4 + 3) (by omega)
    rw [stf0] at s0
    rw [stf1] at s1
    rw [stf2] at s2
    rw [stf3] at s3
    have YES : Hid (∀ w', Below w.heap.size w w' → RAns f m i w (.returned (.tuple #[.agg #[.bool (m.S i).lit, .int .i64 (m.S i).since, .int .i64 (m.S i).level, .bool (m.S i).acked], .int .i64 0])) w') := fun w' h => rans_yes i1 h
    clear hS hD hA hc
    go_enter Tryz.func30, Tryz.ntmps30
    go_wp2_with (go_at_call 50; refine HAS.out.mono ?_; rintro e w' ⟨rfl, rfl⟩)
    exact bodyPost_ret (v := .tuple #[.agg #[.bool (m.S i).lit, .int .i64 (m.S i).since, .int .i64 (m.S i).level, .bool (m.S i).acked], .int .i64 0]) (by simp [results, Tryz.results30, go_sem]) rfl (YES.out _ (by first | exact (Below.refl _ _).alloc (Nat.le_refl _) _ | exact (((((Below.refl _ _).alloc (Nat.le_refl _) _).setCell (Nat.le_refl _) _).setCell (Nat.le_refl _) _).setCell (Nat.le_refl _) _).setCell (Nat.le_refl _) _))
  · rw [show decide (0 ≤ r ∧ r < f.k) = false from decide_eq_false hc] at HAS
    have NO : Hid (∀ w', Below w.heap.size w w' → RAns f m r w (.returned (.tuple #[.agg #[.bool false, .int .i64 0, .int .i64 0, .bool false], .int .i64 6])) w') := fun w' h => rans_no hc h
    clear hS hD hA
    go_enter Tryz.func30, Tryz.ntmps30
    go_wp2_with (go_at_call 50; refine HAS.out.mono ?_; rintro e w' ⟨rfl, rfl⟩)
    exact bodyPost_ret (v := .tuple #[.agg #[.bool false, .int .i64 0, .int .i64 0, .bool false], .int .i64 6]) (by simp [results, Tryz.results30, go_sem]) rfl (NO.out _ (by first | exact (Below.refl _ _).alloc (Nat.le_refl _) _ | exact (((((Below.refl _ _).alloc (Nat.le_refl _) _).setCell (Nat.le_refl _) _).setCell (Nat.le_refl _) _).setCell (Nat.le_refl _) _).setCell (Nat.le_refl _) _))

end Go.Proofs.YtmofidaojmiepaaGreatDoor
