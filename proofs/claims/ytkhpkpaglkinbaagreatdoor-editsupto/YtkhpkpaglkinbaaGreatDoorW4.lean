/-
  THE WALKS: what a cell is worth by the values that it needs.
-/
import Derived.Test.YtkhpkpaglkinbaaGreatDoorW3
set_option linter.unusedVariables false
set_option linter.unusedSimpArgs false
namespace Go.Proofs.YtkhpkpaglkinbaaGreatDoor
open Go.RowKit

theorem bcell {W w1 : World} (hb : Below W.heap.size W w1) : (∀ b o, b < W.heap.size → w1.cell? ⟨b, o, none⟩ = W.cell? ⟨b, o, none⟩) ∧ (∀ b o, b < W.heap.size → w1.frozen? ⟨b, o, none⟩ = W.frozen? ⟨b, o, none⟩) :=
  ⟨fun b o h => hb.cell (p := ⟨b, o, none⟩) h, fun b o h => hb.frozen (p := ⟨b, o, none⟩) h⟩

/-- The holidays of a form that is one. -/
def HolOk (hol : List Int) : Prop := hol.length ≤ 20 ∧ (∀ h, h ∈ hol → 0 ≤ h ∧ h ≤ 11574) ∧ hol.Pairwise (· < ·)

set_option maxHeartbeats 400000 in
theorem workingDay_zero (week d : Int) (v : Option Addr) (n cap : Nat) (w : World) (h1 : 1 ≤ week) (h2 : week ≤ 127) :
    Calls Tryz.prog 96 #[.int .i64 week, .slice v n cap, .int .i64 d, .int .i64 0] w fun e w' => e = .returned (.int .i64 d) ∧ w' = w := by
  go_enter Tryz.func96, Tryz.ntmps96
  go_wp2_with (go_at_call 101; refine (daysAtWork_any _ _ h1 h2).mono ?_; rintro e w' ⟨rfl, rfl⟩)
  go_ret
  exact ⟨rfl, rfl⟩

theorem workingDay_any (week d k : Int) (hol : List Int) (a : Option Addr) (n cap : Nat) (w : World) (h1 : 1 ≤ week) (h2 : week ≤ 127) (hd : -100000 ≤ d) (hd' : d ≤ 100000) (hk : 0 ≤ k) (hk' : k ≤ 250)
    (hh : HolOk hol) (hn : n = hol.length) (hc : IntsAt w (.slice a n cap) hol) :
    Calls Tryz.prog 96 #[.int .i64 week, .slice a n cap, .int .i64 d, .int .i64 k] w fun e w' => ∃ T, e = .returned (.int .i64 T) ∧ M.IsDue (M.wkd week hol) d k.toNat T ∧ w' = w := by
  subst hn
  by_cases k0 : k = 0
  · subst k0
    refine (workingDay_zero week d a _ cap w h1 h2).mono ?_
    rintro e w' ⟨rfl, rfl⟩
    exact ⟨d, rfl, M.due_zero _ _, rfl⟩
  · obtain ⟨m, rfl⟩ := Int.eq_ofNat_of_zero_le hk
    rw [Int.toNat_natCast]
    rcases SlAt.elim hc (by omega) with ⟨h0, a', cap', e⟩ | ⟨h0, b, off, cap', e, _, hcell⟩
    · exact workingDay_some week d hol 0 0 cap m w h1 h2 hd hd' (by omega) (by omega) (fun h hm => (hh.2.1 h hm).2) hh.2.2 hh.1 a (fun j hj => by omega) (Or.inl h0)
    · obtain ⟨rfl, _, rfl⟩ : a = some ⟨b, off, none⟩ ∧ hol.length = hol.length ∧ cap = cap' := by simpa using e
      exact workingDay_some week d hol b off cap m w h1 h2 hd hd' (by omega) (by omega) (fun h hm => (hh.2.1 h hm).2) hh.2.2 hh.1 _ (fun j hj => hcell j (by omega)) (Or.inr rfl)

set_option maxHeartbeats 400000 in
theorem pdue_any (aC aR aH : Option Addr) (nC cC nR cR nH cH : Nat) (week a k : Int) (hol : List Int) (w : World) (h1 : 1 ≤ week) (h2 : week ≤ 127) (ha : -2000000000 ≤ a) (ha' : a ≤ 2000000000) (hk : 0 ≤ k) (hk' : k ≤ 250)
    (hh : HolOk hol) (hn : nH = hol.length) (hc : IntsAt w (.slice aH nH cH) hol) :
    Calls Tryz.prog 89 #[.agg #[.slice aC nC cC, .slice aR nR cR, .int .i64 week, .slice aH nH cH], .int .i64 a, .int .i64 k] w fun e w' => ∃ T, e = .returned (.int .i64 (M.cutv (T * 86400))) ∧ M.IsDue (M.wkd week hol) (a / 86400) k.toNat T ∧ Below w.heap.size w w' := by
  have HH : Hid (HolOk hol) := hh
  have HC : Hid (IntsAt w (.slice aH nH cH) hol) := hc
  have HN : Hid (nH = hol.length) := hn
  clear hh hc hn
  go_enter Tryz.func89, Tryz.ntmps89
  go_wp2_with fail
  refine (dayOf_any _ _ (by omega) (by omega)).mono ?_
  rintro e w1 ⟨rfl, rfl⟩
  go_wp2_with fail
  refine (workingDay_any week (a / 86400) k hol aH nH cH _ h1 h2 (by omega) (by omega) hk hk' HH.out HN.out (SlAt.below HC.out ((Below.refl _ _).alloc (Nat.le_refl _) _) (Nat.le_refl _))).mono ?_
  rintro e w1 ⟨T, rfl, hT, rfl⟩
  have bd := due_bound h1 h2 (fun h hm => (HH.out.2.1 h hm).2) hT
  have bd' : -100000 ≤ T ∧ T ≤ 100000 := by revert bd; split <;> omega
  have HT := (show Hid _ from hT)
  clear bd hT
  go_wp2_with fail
  refine (pcut_any _ _).mono ?_
  rintro e w1 ⟨rfl, rfl⟩
  go_wp2
  go_ret
  exact ⟨T, rfl, HT, (Below.refl _ _).alloc (Nat.le_refl _) _⟩

end Go.Proofs.YtkhpkpaglkinbaaGreatDoor
