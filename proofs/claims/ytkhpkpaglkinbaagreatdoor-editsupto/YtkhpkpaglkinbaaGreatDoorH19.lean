/-
  THE LAW: what stands between the steps of a script: a case, and the same by the document.
-/
import Derived.Test.YtkhpkpaglkinbaaGreatDoorH18
set_option linter.unusedVariables false
set_option linter.unusedSimpArgs false
namespace Go.Proofs.YtkhpkpaglkinbaaGreatDoor
open Go.RowKit
attribute [local go_sem ↓] Go.wp_at_zero Go.wp_at_succ

theorem setAns_eff {C Ck : Nat → Cel} {F : Nat → Int} {n : Nat} (he : Eff C Ck F n) (c v : Int) : setAns Ck n c v = setAns C n c v := by
  unfold setAns
  by_cases h : c < 0 ∨ (n : Int) ≤ c
  · rw [if_pos h, if_pos h]
  · rw [if_neg h, if_neg h, show (Ck c.toNat).kind = (C c.toNat).kind by rw [he _ (by omega)]]

theorem setAns_zero {C : Nat → Cel} {n : Nat} {c v : Int} (h : setAns C n c v = 0) : c.toNat < n ∧ (C c.toNat).kind = 0 := by
  unfold setAns at h
  split at h
  · cases h
  split at h
  · cases h
  rename_i h1 h2
  exact ⟨by omega, by simpa using h2⟩

/-- What Set leaves on both sides is the same. -/
theorem set_eff {C Ck : Nat → Cel} {F : Nat → Int} {n : Nat} (he : Eff C Ck F n) (c v : Int) : Eff C (setC Ck n c v) (setF C n F c v) n := by
  intro i hi
  unfold setC setF
  rw [setAns_eff he]
  by_cases h : setAns C n c v = 0
  · rw [if_pos h, if_pos h]
    obtain ⟨h1, h2⟩ := setAns_zero h
    by_cases e : i = c.toNat
    · subst e
      rw [upd_same, upd_same, he _ h1]
      simp [h2]
    · rw [upd_other _ _ e, upd_other _ _ e]
      exact he i hi
  · rw [if_neg h, if_neg h]
    exact he i hi

/-- A case's cells are what the document's are, as filled. -/
theorem eff_ok {C Ck : Nat → Cel} {F : Nat → Int} {n : Nat} (he : Eff C Ck F n) (h : CellsOk C n) (hF : ∀ i, i < n → (C i).kind = 0 → IsV (F i)) : CellsOk Ck n := fun i hi => by
  rw [he i hi]
  exact effC_ok h hF i hi

theorem eff_ring {C Ck : Nat → Cel} {F : Nat → Int} {n : Nat} (he : Eff C Ck F n) (h : NoRing C n) : NoRing Ck n := by
  have ed : Ed Ck n = Ed C n := by
    funext i j
    unfold Ed
    by_cases hi : i < n
    · rw [he i hi]
    · simp [hi]
  intro i hi
  rw [ed]
  exact h i hi

/-- A case, and the same by the document. -/
structure PSt (C : Nat → Cel) (n : Nat) (R : Nat → Rul) (k : Nat) (week : Int) (hol : List Int) (F : Nat → Int) (w : World) (L B bp bk : Nat) (Ck : Nat → Cel) (cC : Nat) (aR : Option Addr) (cR : Nat) (aH : Option Addr) (cH : Nat) (w0 : World) (bw bc : Nat) (aO : Option Addr) (cO bh bF cF bS : Nat) (S : Nat → St) (vE : Value) (nE bP bl cP : Nat) : Prop where
  kst : KSt L B w bp bk Ck n cC aR k cR week aH hol cH 0 false
  base : WBase w0 C n R k hol bw bc aO bh
  wst : WSt w0 w n k hol.length week bw bc aO cO bh F 0 true bF cF bS S vE nE
  sts : ∀ i, i < k → StOk (S i)
  fv : ∀ i, i < n → (C i).kind = 0 → IsV (F i)
  eff : Eff C Ck F n
  floor : Floor B w0 aO k R bh hol
  l1 : 1 ≤ L
  bbc : B ≤ bc
  pl : PlAt w bP bl cP bp bw
  plB : B ≤ bP ∧ B ≤ bl
  tab : Tab w

/-- The case's Set has been called. -/
theorem PSt.half {C : Nat → Cel} {n : Nat} {R : Nat → Rul} {k : Nat} {week : Int} {hol : List Int} {F : Nat → Int} {w : World} {L B bp bk : Nat} {Ck : Nat → Cel} {cC : Nat} {aR : Option Addr} {cR : Nat} {aH : Option Addr} {cH : Nat} {w0 : World} {bw bc : Nat} {aO : Option Addr} {cO bh bF cF bS : Nat} {S : Nat → St} {vE : Value} {nE bP bl cP : Nat}
    (h : PSt C n R k week hol F w L B bp bk Ck cC aR cR aH cH w0 bw bc aO cO bh bF cF bS S vE nE bP bl cP) (c v : Int) {e : Ending} {w1 : World} (hp : KPost Ck n bk c v w e w1) :
    e = .returned (.int .i64 (setAns C n c v)) ∧ ∃ w0', KSt L B w1 bp bk (setC Ck n c v) n cC aR k cR week aH hol cH 0 false ∧ WBase w0' C n R k hol bw bc aO bh ∧ WSt w0' w1 n k hol.length week bw bc aO cO bh F 0 true bF cF bS S vE nE ∧ Floor B w0' aO k R bh hol ∧ PlAt w1 bP bl cP bp bw ∧ Tab w1 := by
  obtain ⟨rfl, hw⟩ := hp
  refine ⟨by rw [setAns_eff h.eff], ?_⟩
  unfold setC
  by_cases z : setAns Ck n c v = 0
  · rw [if_pos z] at hw ⊢
    subst hw
    have c1 := h.kst.c1
    have c2 := h.kst.c2
    have l1 := h.l1
    obtain ⟨a1, a2, a3⟩ := WSt.rebase h.base h.wst h.floor h.bbc ⟨bk, c.toNat * 5 + 4, none⟩ c2 (.int .i64 v)
    obtain ⟨f, N, f1, f2⟩ := h.pl.prs
    obtain ⟨p1, p2⟩ := h.plB
    refine ⟨_, h.kst.setK _ _, a1, a2, a3, ⟨h.pl.row.setOther (by show bP ≠ bk; omega) _, f, N, f1.setOther (by show bl ≠ bk; omega) _, f2⟩, ?_⟩
    refine ⟨by simpa using h.tab.1, fun i hi => ?_⟩
    have hb : (w.setCell ⟨bk, c.toNat * 5 + 4, none⟩ (.int .i64 v)).heap[0]? = w.heap[0]? := Below.heap_setCell _ _ _ _ (by show 0 ≠ bk; omega)
    have := h.tab.2 i hi
    unfold World.cell? at this ⊢
    rw [hb]
    exact this
  · rw [if_neg z] at hw ⊢
    subst hw
    exact ⟨w0, h.kst, h.base, h.wst, h.floor, h.pl, h.tab⟩

/-- And the document's. -/
theorem PSt.whole {C : Nat → Cel} {n : Nat} {R : Nat → Rul} {k : Nat} {week : Int} {hol : List Int} {F : Nat → Int} {w : World} {L B bp bk : Nat} {Ck : Nat → Cel} {cC : Nat} {aR : Option Addr} {cR : Nat} {aH : Option Addr} {cH : Nat} {w0 : World} {bw bc : Nat} {aO : Option Addr} {cO bh bF cF bS : Nat} {S : Nat → St} {vE : Value} {nE bP bl cP : Nat}
    (h : PSt C n R k week hol F w L B bp bk Ck cC aR cR aH cH w0 bw bc aO cO bh bF cF bS S vE nE bP bl cP) (c v : Int) {e : Ending} {w0' w1 w2 : World} (hk : KSt L B w1 bp bk (setC Ck n c v) n cC aR k cR week aH hol cH 0 false) (hB : WBase w0' C n R k hol bw bc aO bh) (hS : WSt w0' w1 n k hol.length week bw bc aO cO bh F 0 true bF cF bS S vE nE) (hF : Floor B w0' aO k R bh hol) (hP : PlAt w1 bP bl cP bp bw) (hT : Tab w1)
    (hp : SPost w0' C n k hol.length week bw bc aO cO bh F 0 bF cF bS nE c v w1 e w2) :
    e = .returned (.int .i64 (setAns C n c v)) ∧ ∃ S' vE' nE', nE' ≤ nE + k ∧ PSt C n R k week hol (setF C n F c v) w2 L B bp bk (setC Ck n c v) cC aR cR aH cH w0' bw bc aO cO bh bF cF bS S' vE' nE' bP bl cP := by
  obtain ⟨S', vE', nE', rfl, x1, x2, x3, x4, x5⟩ := hp
  have b1 := hB.hbc
  have b2 := h.bbc
  have b3 := h.l1
  have b4 := hk.c1
  have b5 := hk.c2
  obtain ⟨f, N, f1, f2⟩ := hP.prs
  refine ⟨rfl, S', vE', nE', x3, hk.below (x4.mono (by omega)), hB, x1, x2, setF_v h.fv _ _, set_eff h.eff _ _, hF, h.l1, h.bbc, ⟨x5 _ _ _ _ (by decide) (by decide) (by decide) (row_ne hP.row hS.row (by decide)) hP.row, f, N, x5 _ _ _ _ (by decide) (by decide) (by decide) (row_ne f1 hS.row (by decide)) f1, f2⟩, h.plB, ?_⟩
  refine ⟨by have := hT.1; have := x4.size; omega, fun i hi => ?_⟩
  rw [x4.cell (p := ⟨0, i, none⟩) (by show 0 < bw; omega)]
  exact hT.2 i hi

end Go.Proofs.YtkhpkpaglkinbaaGreatDoor
