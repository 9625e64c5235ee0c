/-
  THE CODE: a case's calls, exactly: Log.
-/
import Derived.Test.YtmofidaojmiepaaGreatDoorGH22
set_option linter.unusedVariables false
set_option linter.unusedSimpArgs false
namespace Go.Proofs.YtmofidaojmiepaaGreatDoor

open Go.RowKit

attribute [local go_sem ↓] Go.wp_at_zero Go.wp_at_succ

theorem evs_drop (E : List Ev) (a : Nat) : evs (E.drop a) = (evs E).drop (a * 3) := by
  induction a generalizing E with
  | zero => rfl
  | succ a ih =>
    cases E with
    | nil => simp [evs]
    | cons e E =>
      rw [List.drop_succ_cons, ih, evs_cons, show (a + 1) * 3 = 3 + a * 3 by omega, ← List.drop_drop]
      rfl

theorem evs_one (E : List Ev) : ∀ u ∈ evs E, u.oneCell' = true := by
  intro u hu
  unfold evs at hu
  rw [List.mem_flatMap] at hu
  obtain ⟨e, _, he⟩ := hu
  simp at he
  rcases he with rfl | rfl | rfl <;> rfl

theorem log_news {w : World} {base g cap : Nat} {t : TypeId} {E : List Ev} (h : w.ownsRow base t 3 (.slice (some ⟨g, 0, none⟩) E.length cap) E.length (evs E)) (a : Nat) (ha : a < E.length) : g < w.heap.size ∧ ∀ j u, (evs (E.drop a))[j]? = some u → w.cell? ((⟨g, a * 3, none⟩ : Addr).add j) = some u := by
  rcases h.2 with ⟨h1, _⟩ | ⟨g', cap', cur, hv, hb, hh, h5, h6, h7, h8⟩
  · cases h1
  simp at hv
  obtain ⟨rfl, rfl⟩ := hv
  refine ⟨?_, fun j u hu => ?_⟩
  · rcases Nat.lt_or_ge g w.heap.size with h | h
    · exact h
    · rw [Array.getElem?_eq_none h] at hh; cases hh
  · rw [evs_drop, List.getElem?_drop] at hu
    have hj : a * 3 + j < E.length * 3 := by
      rcases Nat.lt_or_ge (a * 3 + j) (E.length * 3) with h | h
      · exact h
      · rw [List.getElem?_eq_none (by rw [evs_length]; exact h)] at hu; cases hu
    have e1 : cur[a * 3 + j]? = (evs E)[a * 3 + j]? := by rw [← h8, List.getElem?_take, if_pos hj]; simp
    have : (⟨g, a * 3, none⟩ : Addr).add j = ⟨g, a * 3 + j, none⟩ := by unfold Addr.add; split <;> simp_all
    rw [this]
    simp [World.cell?, hh, e1, hu]

set_option maxRecDepth 100000 in
set_option maxHeartbeats 2000000 in
theorem kLog_any {Q : Nat → Prop} {f : Frm} {p : KPl} {m : Cs} {vE : Value} {w : World} (x : Int) (hS : KAt Q f p m vE w) (hE : m.E.length ≤ 1000000000000) :
    Calls Tryz.prog 31 #[.pointer (some ⟨p.bp, 0, none⟩), .int .i64 x] w fun e w' => LgP m.E x w e w' := by
  obtain ⟨i, hi, hz⟩ := Option.map_eq_some_iff.1 info101
  simp only [Prod.mk.injEq] at hz
  obtain ⟨hz0, hz1, hz2⟩ := hz
  have HI := hid hi
  have HZ0 := hid hz0
  have HZ1 := hid hz1
  have HZ2 := hid hz2
  clear hi hz0 hz1 hz2
  have hD : KSt Q f p m.F m.T m.op m.S vE m.E w := hS
  have r7 := hD.row.cell (i := 7) (by omega)
  simp [kf] at r7
  have zb := hD.row.lt
  obtain ⟨ae, ce, hvE⟩ := own_len hD.ev
  have EV := hD.ev
  rw [hvE] at EV r7
  by_cases h1 : (m.E.length : Int) ≤ x
  · have R : Hid (LgP m.E x w (.returned (.slice none 0 0)) w) := by
      refine ⟨_, rfl, ?_, Below.refl _ _⟩
      rw [List.drop_eq_nil_of_le (by omega)]
      exact own_none _ _ _
    clear hS hD EV hvE
    go_enter Tryz.func31, Tryz.ntmps31
    go_wp2
    go_ret
    exact R.out
  by_cases h2 : m.E.length = 0
  · have R : Hid (∀ W, W = w.alloc (.cells #[] 99) ∨ W = (w.alloc (.cells #[] 99)).drew → LgP m.E x w (.returned (.slice (some ⟨w.heap.size, 0, none⟩) 0 0)) W) := fun W hW => by
      refine ⟨_, rfl, ?_, ?_⟩
      · rw [List.eq_nil_of_length_eq_zero h2, List.drop_nil]
        refine ⟨rfl, Or.inr ⟨w.heap.size, 0, #[], rfl, Nat.le_refl _, ?_, Nat.le_refl _, by unfold maxLen; omega, rfl, rfl⟩⟩
        rcases hW with rfl | rfl
        · show (w.heap.push _)[w.heap.size]? = _; simp
        · show (w.heap.push _)[w.heap.size]? = _; simp
      · rcases hW with rfl | rfl
        · exact (Below.refl _ _).alloc (Nat.le_refl _) _
        · exact ((Below.refl _ _).alloc (Nat.le_refl _) _).drew
    have x0 : x < 0 := by omega
    rw [h2] at r7
    have cs : (ae = none ∧ ce = 0) ∨ ∃ g, ae = some ⟨g, 0, none⟩ := by
      rcases EV.2 with ⟨h0, _⟩ | ⟨g, cap', cur, hv, _⟩
      · simp at h0; exact Or.inl ⟨h0.1, h0.2.2⟩
      · simp at hv; exact Or.inr ⟨g, hv.1⟩
    clear hS hD EV hvE h2 h1
    rcases cs with ⟨rfl, rfl⟩ | ⟨g, rfl⟩
    · go_enter Tryz.func31, Tryz.ntmps31
      go_wp2
      go_ret
      exact R.out _ (by first | exact Or.inl rfl | exact Or.inr rfl)
    · go_enter Tryz.func31, Tryz.ntmps31
      go_wp2
      go_ret
      exact R.out _ (by first | exact Or.inl rfl | exact Or.inr rfl)
  obtain ⟨a, ha, hx⟩ : ∃ a : Nat, a = x.toNat ∧ ((x < 0 ∧ Hid (a = 0)) ∨ x = a) := ⟨_, rfl, by
    by_cases h : x < 0
    · exact Or.inl ⟨h, show x.toNat = 0 by omega⟩
    · exact Or.inr (by omega)⟩
  have a1 : a < m.E.length := by omega
  obtain ⟨g, rfl⟩ : ∃ g, ae = some ⟨g, 0, none⟩ := by
    rcases EV.2 with ⟨_, h0⟩ | ⟨g, cap', cur, hv, _⟩
    · omega
    · simp at hv; exact ⟨g, hv.1⟩
  obtain ⟨zg, nw⟩ := log_news EV a a1
  have NW := hid nw
  have CP : m.E.length ≤ ce := by
    rcases EV.2 with ⟨h0, _⟩ | ⟨g', cap', cur, hv, _, _, h5, _⟩
    · cases h0
    · simp at hv; omega
  have HD : Hid (∀ v W, W.ownsRow w.heap.size 99 3 v (m.E.length - a) (evs (m.E.drop a)) → Below w.heap.size w W → LgP m.E x w (.returned v) W) := fun v W h1 h2 => ⟨v, rfl, by rw [← ha, List.length_drop]; exact h1, h2⟩
  clear hS hD EV hvE nw ha
  have a2 : (a : Int) ≤ (m.E.length : Int) := by omega
  rcases hx with ⟨x0, a0⟩ | rfl
  · have ha0 := a0.out
    subst ha0
    go_enter Tryz.func31, Tryz.ntmps31
    go_wp2_with (at_builtin; refine wpList_app_copy _ rfl (.tmp 14) (.tmp 20) 39 rfl 99 i _ 3 24 Tryz.underlying39 HI.out HZ0.out HZ1.out HZ2.out rfl (by omega) w.heap.size (by simp) (by rfl) (some ⟨g, 0 * 3, none⟩) (m.E.length - 0) ce (evs (m.E.drop 0)) (by rfl) (by rw [evs_length, List.length_drop]) (Or.inr ⟨_, rfl, zg, NW.out⟩) (evs_one _) (by unfold maxLen; omega) (by omega) ?_; intro g1 cap1 w1 o1 b1 l1 l1'; refine stopH ?_)
    have R := hid (HD.out _ _ o1 b1)
    clear o1 b1 l1 l1'
    refine hid ?_
    go_wp2
    go_ret
    exact R.out
  · go_enter Tryz.func31, Tryz.ntmps31
    go_wp2_with (at_builtin; refine wpList_app_copy _ rfl (.tmp 14) (.tmp 20) 39 rfl 99 i _ 3 24 Tryz.underlying39 HI.out HZ0.out HZ1.out HZ2.out rfl (by omega) w.heap.size (by simp) (by rfl) (some ⟨g, a * 3, none⟩) (m.E.length - a) (ce - a) (evs (m.E.drop a)) (by rfl) (by rw [evs_length, List.length_drop]) (Or.inr ⟨_, rfl, zg, NW.out⟩) (evs_one _) (by unfold maxLen; omega) (by omega) ?_; intro g1 cap1 w1 o1 b1 l1 l1'; refine stopH ?_)
    have R := hid (HD.out _ _ o1 b1)
    clear o1 b1 l1 l1'
    refine hid ?_
    go_wp2
    go_ret
    exact R.out

end Go.Proofs.YtmofidaojmiepaaGreatDoor
