/-
  MEMORY: the document's world: settle.
-/
import Derived.Test.YtkhpkpaglkinbaaGreatDoorH10
import Derived.Deep.Cut
import Derived.BigRegion
set_option linter.unusedVariables false
set_option linter.unusedSimpArgs false
namespace Go.Proofs.YtkhpkpaglkinbaaGreatDoor
open Go.RowKit
attribute [local go_sem ↓] Go.wp_at_zero Go.wp_at_succ

def StOk (s : St) : Prop := 0 ≤ s.since ∧ s.since ≤ 1000000000 ∧ 0 ≤ s.level ∧ s.level ≤ 1000

theorem stf0 (S : Nat → St) (i : Nat) : stf S (i * 4) = .bool (S i).lit := by unfold stf; rw [if_pos (by omega), show i * 4 / 4 = i by omega]
theorem stf1 (S : Nat → St) (i : Nat) : stf S (i * 4 + 1) = .int .i64 (S i).since := by unfold stf; rw [if_neg (by omega), if_pos (by omega), show (i * 4 + 1) / 4 = i by omega]
theorem stf2 (S : Nat → St) (i : Nat) : stf S (i * 4 + 2) = .int .i64 (S i).level := by unfold stf; rw [if_neg (by omega), if_neg (by omega), if_pos (by omega), show (i * 4 + 2) / 4 = i by omega]
theorem stf3 (S : Nat → St) (i : Nat) : stf S (i * 4 + 3) = .bool (S i).acked := by unfold stf; rw [if_neg (by omega), if_neg (by omega), if_neg (by omega), show (i * 4 + 3) / 4 = i by omega]

theorem stf_set {S : Nat → St} {i : Nat} {a : Bool} {b c : Int} {d : Bool} (j : Nat) : (if j = i * 4 + 3 then Value.bool d else if j = i * 4 + 2 then .int .i64 c else if j = i * 4 + 1 then .int .i64 b else if j = i * 4 then .bool a else stf S j) = stf (upd S i ⟨a, b, c, d⟩) j := by
  by_cases h3 : j = i * 4 + 3
  · subst h3; rw [if_pos rfl, stf3, upd_same]
  rw [if_neg h3]
  by_cases h2 : j = i * 4 + 2
  · subst h2; rw [if_pos rfl, stf2, upd_same]
  rw [if_neg h2]
  by_cases h1 : j = i * 4 + 1
  · subst h1; rw [if_pos rfl, stf1, upd_same]
  rw [if_neg h1]
  by_cases h0 : j = i * 4
  · subst h0; rw [if_pos rfl, stf0, upd_same]
  rw [if_neg h0]
  unfold stf
  rw [upd_other _ _ (by omega)]
theorem stf_lev {S : Nat → St} {i : Nat} {c : Int} (j : Nat) : (if j = i * 4 + 2 then .int .i64 c else stf S j) = stf (upd S i ⟨(S i).lit, (S i).since, c, (S i).acked⟩) j := by
  by_cases h2 : j = i * 4 + 2
  · subst h2; rw [if_pos rfl, stf2, upd_same]
  rw [if_neg h2]
  by_cases h : j / 4 = i
  · have hc : j = i * 4 ∨ j = i * 4 + 1 ∨ j = i * 4 + 3 := by omega
    rcases hc with rfl | rfl | rfl
    · rw [stf0, stf0, upd_same]
    · rw [stf1, stf1, upd_same]
    · rw [stf3, stf3, upd_same]
  · unfold stf
    rw [upd_other _ _ h]

/-- A state is stored whole. -/
theorem WSt.store4 {w0 w : World} {n k nh : Nat} {week : Int} {bw bc : Nat} {aO : Option Addr} {cO bh : Nat} {F : Nat → Int} {T : Int} {op : Bool} {bF cF bS : Nat} {S : Nat → St} {vE : Value} {nE : Nat}
    (h : WSt w0 w n k nh week bw bc aO cO bh F T op bF cF bS S vE nE) (i : Nat) (a : Bool) (b c : Int) (d : Bool) :
    WSt w0 ((((w.setCell ⟨bS, i * 4, none⟩ (.bool a)).setCell ⟨bS, i * 4 + 1, none⟩ (.int .i64 b)).setCell ⟨bS, i * 4 + 2, none⟩ (.int .i64 c)).setCell ⟨bS, i * 4 + 3, none⟩ (.bool d)) n k nh week bw bc aO cO bh F T op bF cF bS (upd S i ⟨a, b, c, d⟩) vE nE := by
  obtain ⟨f, N, f1, f2, f3⟩ := h.fil
  obtain ⟨xs, hx⟩ := h.ev
  have hs := h.hbS
  have oth : ∀ b' t l f, t ≠ 92 → w.rowIs b' t l f → b' ≠ bS := fun b' t l f ht hr e => by
    subst e
    obtain ⟨c1, e1, _⟩ := hr
    obtain ⟨c2, e2, _⟩ := h.sta
    rw [e1] at e2
    simp at e2
    exact ht e2.2
  have n1 := oth _ _ _ _ (by decide) h.row
  have n2 := oth _ _ _ _ (by decide) f1
  have n3 : vE.ownBlock ≠ some bS := own_ne_row hx h.sta (by decide)
  refine ⟨(((h.bel.setCell (by show bw ≤ bS; omega) _).setCell (by show bw ≤ bS; omega) _).setCell (by show bw ≤ bS; omega) _).setCell (by show bw ≤ bS; omega) _, (((h.row.setOther n1 _).setOther n1 _).setOther n1 _).setOther n1 _, h.hbF, ⟨f, N, (((f1.setOther n2 _).setOther n2 _).setOther n2 _).setOther n2 _, f2, f3⟩, h.hbS, ((((h.sta.set _ _).set _ _).set _ _).set _ _).congr (fun j _ => stf_set j), xs, ?_⟩
  exact ownsRow_setCell_other (ownsRow_setCell_other (ownsRow_setCell_other (ownsRow_setCell_other hx n3 _) n3 _) n3 _) n3 _

theorem WSt.lev {w0 w : World} {n k nh : Nat} {week : Int} {bw bc : Nat} {aO : Option Addr} {cO bh : Nat} {F : Nat → Int} {T : Int} {op : Bool} {bF cF bS : Nat} {S : Nat → St} {vE : Value} {nE : Nat}
    (h : WSt w0 w n k nh week bw bc aO cO bh F T op bF cF bS S vE nE) (i : Nat) (c : Int) :
    WSt w0 (w.setCell ⟨bS, i * 4 + 2, none⟩ (.int .i64 c)) n k nh week bw bc aO cO bh F T op bF cF bS (upd S i ⟨(S i).lit, (S i).since, c, (S i).acked⟩) vE nE := by
  obtain ⟨f, N, f1, f2, f3⟩ := h.fil
  obtain ⟨xs, hx⟩ := h.ev
  have hs := h.hbS
  have oth : ∀ b' t l f, t ≠ 92 → w.rowIs b' t l f → b' ≠ bS := fun b' t l f ht hr e => by
    subst e
    obtain ⟨c1, e1, _⟩ := hr
    obtain ⟨c2, e2, _⟩ := h.sta
    rw [e1] at e2
    simp at e2
    exact ht e2.2
  have n1 := oth _ _ _ _ (by decide) h.row
  have n2 := oth _ _ _ _ (by decide) f1
  have n3 : vE.ownBlock ≠ some bS := own_ne_row hx h.sta (by decide)
  exact ⟨h.bel.setCell (by show bw ≤ bS; omega) _, h.row.setOther n1 _, h.hbF, ⟨f, N, f1.setOther n2 _, f2, f3⟩, h.hbS, (h.sta.set _ _).congr (fun j _ => stf_lev j), xs, ownsRow_setCell_other hx n3 _⟩

theorem WSt.drew {w0 w : World} {n k nh : Nat} {week : Int} {bw bc : Nat} {aO : Option Addr} {cO bh : Nat} {F : Nat → Int} {T : Int} {op : Bool} {bF cF bS : Nat} {S : Nat → St} {vE : Value} {nE : Nat}
    (h : WSt w0 w n k nh week bw bc aO cO bh F T op bF cF bS S vE nE) : WSt w0 w.drew n k nh week bw bc aO cO bh F T op bF cF bS S vE nE := ⟨h.bel.drew, h.row.drew, h.hbF, h.fil, h.hbS, h.sta.drew, h.ev⟩

/-- An event more. -/
theorem WSt.event {w0 w w1 : World} {n k nh : Nat} {week : Int} {bw bc : Nat} {aO : Option Addr} {cO bh : Nat} {F : Nat → Int} {T : Int} {op : Bool} {bF cF bS : Nat} {S : Nat → St} {vE : Value} {nE : Nat} {e : Ending}
    (h : WSt w0 w n k nh week bw bc aO cO bh F T op bF cF bS S vE nE) (g : EvPost bw (bw + 1) nE vE w e w1) : e = .returned (.tuple #[]) ∧ Below bw w w1 ∧ (∀ b t l f, t ≠ 101 → b ≠ bw → w.rowIs b t l f → w1.rowIs b t l f) ∧ ∃ vE', WSt w0 w1 n k nh week bw bc aO cO bh F T op bF cF bS S vE' (nE + 1) := by
  obtain ⟨v', xs', e1, e2, e3, e4, e5, e6, e7, e8⟩ := g
  obtain ⟨f, N, f1, f2, f3⟩ := h.fil
  obtain ⟨xs, hx⟩ := h.ev
  have hs := h.hbS
  have hf := h.hbF
  have far : ∀ b t l f, t ≠ 101 → b ≠ bw → w.rowIs b t l f → w1.rowIs b t l f := fun b t l f ht hb hr => hr.of_block (e7 b hr.lt hb (own_ne_row hx hr ht))
  have hb : Below bw w w1 := ⟨e4, e5, e6, e3, fun j hj => e7 j (by have := h.row.lt; omega) (by omega) (fun c => by have := own_base hx c; omega)⟩
  exact ⟨e1, hb, far, v', h.bel.trans hb, (e8 _ _ _ h.row).congr (fun j hj => wf_set8 j hj), h.hbF, ⟨f, N, far _ _ _ _ (by decide) (by omega) f1, f2, f3⟩, h.hbS, far _ _ _ _ (by decide) (by omega) h.sta, xs', e2⟩

end Go.Proofs.YtkhpkpaglkinbaaGreatDoor
