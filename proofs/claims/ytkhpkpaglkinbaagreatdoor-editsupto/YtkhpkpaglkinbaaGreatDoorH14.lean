/-
  MEMORY: the document's world: Set.
-/
import Derived.Test.YtkhpkpaglkinbaaGreatDoorH13
set_option linter.unusedVariables false
set_option linter.unusedSimpArgs false
namespace Go.Proofs.YtkhpkpaglkinbaaGreatDoor
open Go.RowKit
attribute [local go_sem ↓] Go.wp_at_zero Go.wp_at_succ

/-- The form's cells as they are filled. -/
def effC (C : Nat → Cel) (F : Nat → Int) : Nat → Cel := fun i => ⟨(C i).kind, (C i).a, (C i).b, (C i).c, if (C i).kind = 0 then F i else (C i).k⟩

theorem effC_eff (C : Nat → Cel) (F : Nat → Int) (n : Nat) : Eff C (effC C F) F n := fun _ _ => rfl

theorem effC_ok {C : Nat → Cel} {F : Nat → Int} {n : Nat} (h : CellsOk C n) (hF : ∀ i, i < n → (C i).kind = 0 → IsV (F i)) : CellsOk (effC C F) n := by
  intro i hi
  obtain ⟨a1, a2, ⟨a3, a4, a5⟩, a6, a7, a8⟩ := h i hi
  refine ⟨a1, a2, ⟨fun hk => ?_, fun hk => ?_, fun hk => ?_⟩, a6, a7, a8⟩
  · show IsV (if (C i).kind = 0 then F i else (C i).k)
    split
    · rename_i h0
      exact hF i hi h0
    · exact a3 hk
  · have hk' : (C i).kind = 11 := hk
    have := a4 hk'
    show 1000000 ≤ (if (C i).kind = 0 then F i else (C i).k) ∧ (if (C i).kind = 0 then F i else (C i).k) ≤ 1000000000
    rw [if_neg (by omega)]
    exact this
  · have hk' : (C i).kind = 12 := hk
    have := a5 hk'
    show 0 ≤ (if (C i).kind = 0 then F i else (C i).k) ∧ (if (C i).kind = 0 then F i else (C i).k) ≤ 250
    rw [if_neg (by omega)]
    exact this

theorem effC_ring {C : Nat → Cel} {F : Nat → Int} {n : Nat} (h : NoRing C n) : NoRing (effC C F) n := h

/-- P5's answers, in their order. -/
def setAns (C : Nat → Cel) (n : Nat) (c v : Int) : Int := if c < 0 ∨ (n : Int) ≤ c then 6 else if (C c.toNat).kind ≠ 0 then 7 else if M.isv v = false then 8 else 0
def setF (C : Nat → Cel) (n : Nat) (F : Nat → Int) (c v : Int) : Nat → Int := if setAns C n c v = 0 then upd F c.toNat v else F

theorem setF_v {C : Nat → Cel} {F : Nat → Int} {n : Nat} (hF : ∀ i, i < n → (C i).kind = 0 → IsV (F i)) (c v : Int) : ∀ i, i < n → (C i).kind = 0 → IsV (setF C n F c v i) := by
  intro i hi hk0
  unfold setF
  split
  · rename_i h
    unfold upd
    split
    · unfold setAns at h
      split at h
      · cases h
      split at h
      · cases h
      split at h
      · cases h
      rename_i hv
      simp [M.isv] at hv
      exact ⟨by omega, by omega⟩
    · exact hF i hi hk0
  · exact hF i hi hk0

theorem WSt.fill {w0 w : World} {n k nh : Nat} {week : Int} {bw bc : Nat} {aO : Option Addr} {cO bh : Nat} {F : Nat → Int} {T : Int} {op : Bool} {bF cF bS : Nat} {S : Nat → St} {vE : Value} {nE : Nat}
    (h : WSt w0 w n k nh week bw bc aO cO bh F T op bF cF bS S vE nE) (i : Nat) (v : Int) :
    WSt w0 (w.setCell ⟨bF, i, none⟩ (.int .i64 v)) n k nh week bw bc aO cO bh (upd F i v) T op bF cF bS S vE nE := by
  obtain ⟨f, N, f1, f2, f3⟩ := h.fil
  obtain ⟨xs, hx⟩ := h.ev
  have hs := h.hbF
  have oth : ∀ b' t l f, t ≠ 3 → w.rowIs b' t l f → b' ≠ bF := fun b' t l f ht hr e => by
    subst e
    obtain ⟨c1, e1, _⟩ := hr
    obtain ⟨c2, e2, _⟩ := f1
    rw [e1] at e2
    simp at e2
    exact ht e2.2
  have n1 := oth _ _ _ _ (by decide) h.row
  have n2 := oth _ _ _ _ (by decide) h.sta
  have n3 : vE.ownBlock ≠ some bF := own_ne_row hx f1 (by decide)
  refine ⟨h.bel.setCell (by show bw ≤ bF; omega) _, h.row.setOther n1 _, h.hbF, ⟨_, N, f1.set i _, f2, fun j hj => ?_⟩, h.hbS, h.sta.setOther n2 _, xs, ownsRow_setCell_other hx n3 _⟩
  unfold upd
  by_cases e : j = i
  · simp [e]
  · simp [e, f3 j hj]

/-- What has turned of a world: its own places from bw on; a row that is neither its own block, its states, a list of numbers nor a log stands. -/
def Ws (bw : Nat) (w w' : World) : Prop := Below bw w w' ∧ ∀ b t l f, t ≠ 101 → t ≠ 92 → t ≠ 3 → b ≠ bw → w.rowIs b t l f → w'.rowIs b t l f

theorem row_ne {w : World} {b b' t t' l l' : Nat} {f f' : Nat → Value} (h : w.rowIs b t l f) (g : w.rowIs b' t' l' f') (ht : t ≠ t') : b ≠ b' := fun e => by
  subst e
  obtain ⟨c1, e1, _⟩ := h
  obtain ⟨c2, e2, _⟩ := g
  rw [e1] at e2
  simp at e2
  exact ht e2.2

/-- What Set answers and leaves: P5. -/
def SPost (w0 : World) (C : Nat → Cel) (n k nh : Nat) (week : Int) (bw bc : Nat) (aO : Option Addr) (cO bh : Nat) (F : Nat → Int) (T : Int) (bF cF bS nE : Nat) (c v : Int) (w : World) (e : Ending) (w' : World) : Prop :=
  ∃ S' vE' nE', e = .returned (.int .i64 (setAns C n c v)) ∧ WSt w0 w' n k nh week bw bc aO cO bh (setF C n F c v) T true bF cF bS S' vE' nE' ∧ (∀ i, i < k → StOk (S' i)) ∧ nE' ≤ nE + k ∧ Ws bw w w'

set_option maxRecDepth 100000 in
set_option maxHeartbeats 2000000 in
theorem wSet_any {w0 w : World} {C : Nat → Cel} {n : Nat} {R : Nat → Rul} {k : Nat} {hol : List Int} {week : Int} {bw bc : Nat} {aO : Option Addr} {cO bh : Nat} {F : Nat → Int} {T : Int} {bF cF bS : Nat} {S : Nat → St} {vE : Value} {nE : Nat} (c v : Int)
    (hB : WBase w0 C n R k hol bw bc aO bh) (hS : WSt w0 w n k hol.length week bw bc aO cO bh F T true bF cF bS S vE nE) (hSt : ∀ i, i < k → StOk (S i)) (hF : ∀ i, i < n → (C i).kind = 0 → IsV (F i)) (hf : FormOk C n R k week hol) (hn : n ≤ 20) (n1 : 1 ≤ n) (hk : k ≤ 6) (hE : nE ≤ 50000000) (h1 : 1 ≤ week) (h2 : week ≤ 127) (t0 : 0 ≤ T) (t1 : T ≤ 1000000000) :
    Calls Tryz.prog 21 #[.pointer (some ⟨bw, 0, none⟩), .int .i64 c, .int .i64 v] w fun e w' => SPost w0 C n k hol.length week bw bc aO cO bh F T bF cF bS nE c v w e w' := by
  have r0 := hS.row.cell (i := 0) (by omega)
  have r4 := hS.row.cell (i := 4) (by omega)
  have r6 := hS.row.cell (i := 6) (by omega)
  simp [wf] at r0 r4 r6
  have KEEP : setAns C n c v ≠ 0 → Hid (SPost w0 C n k hol.length week bw bc aO cO bh F T bF cF bS nE c v w (.returned (.int .i64 (setAns C n c v))) w) := fun h => ⟨S, vE, nE, rfl, by rw [show setF C n F c v = F from if_neg h]; exact hS, hSt, by omega, Below.refl _ _, fun _ _ _ _ _ _ _ _ r => r⟩
  by_cases c0 : c < 0
  · have R := KEEP (by unfold setAns; rw [if_pos (Or.inl c0)]; decide)
    rw [show setAns C n c v = 6 by unfold setAns; rw [if_pos (Or.inl c0)]] at R
    clear KEEP hB hS hSt hF hf
    go_enter Tryz.func21, Tryz.ntmps21
    go_wp2
    go_ret
    exact R.out
  by_cases c1 : (n : Int) ≤ c
  · have R := KEEP (by unfold setAns; rw [if_pos (Or.inr c1)]; decide)
    rw [show setAns C n c v = 6 by unfold setAns; rw [if_pos (Or.inr c1)]] at R
    clear KEEP hB hS hSt hF hf
    go_enter Tryz.func21, Tryz.ntmps21
    go_wp2
    go_ret
    exact R.out
  obtain ⟨i, rfl⟩ := Int.eq_ofNat_of_zero_le (show 0 ≤ c by omega)
  have i1 : i < n := by omega
  have hsz := hB.size
  have hbc := hB.hbc
  have bc1 : bc < w.heap.size := by have := hS.row.lt; omega
  have d0 : w.cell? ⟨bc, i * 5, none⟩ = some (.int .i64 (C i).kind) := by
    have hbel : Below w0.heap.size w0 w := by rw [hsz]; exact hS.bel
    have := ((cellf_cel hB.cells i1).below hbel (by omega)).1
    rw [Nat.zero_add] at this
    exact this
  by_cases k0 : (C i).kind = 0
  · have IV := hid (fun W => risv_any v W)
    cases ev : M.isv v
    · have A : setAns C n i v = 8 := by unfold setAns; rw [if_neg (by omega), if_neg (by simpa using k0), if_pos ev]
      have R := KEEP (by rw [A]; decide)
      rw [A] at R
      rw [k0] at d0
      clear KEEP hB hS hSt hF hf A
      go_enter Tryz.func21, Tryz.ntmps21
      go_wp2_with (go_at_call 52; refine (IV.out _).mono ?_; rintro e w' ⟨rfl, rfl⟩)
      go_ret
      exact R.out
    · have A : setAns C n i v = 0 := by unfold setAns; rw [if_neg (by omega), if_neg (by simpa using k0), if_neg (by simp [ev])]
      have A2 : setF C n F i v = upd F i v := by unfold setF; rw [if_pos A]; rfl
      obtain ⟨f, N, f1, f2, f3⟩ := hS.fil
      have d9 := f1.frozen i
      have bF1 := f1.lt
      have dF := f1.cell (i := i) (by omega)
      have hbF := hS.hbF
      have CALL := hid (settle_any hB (hS.fill i v) hSt hf.rules hn n1 hk hE h1 h2 hf.hol (effC_eff C (upd F i v) n) (effC_ok hf.cells (by rw [← A2]; exact setF_v hF _ _)) (effC_ring hf.ring) t0 t1)
      have BEL : Hid (Below bw w (w.setCell ⟨bF, i, none⟩ (.int .i64 v))) := (Below.refl _ _).setCell (by show bw ≤ bF; omega) _
      have WS : Hid (∀ b t l f, t ≠ 92 → t ≠ 3 → w.rowIs b t l f → b ≠ bS ∧ (w.setCell ⟨bF, i, none⟩ (.int .i64 v)).rowIs b t l f) := fun b t l f h1 h2 r => ⟨row_ne r hS.sta h1, r.setOther (row_ne r f1 h2) _⟩
      have HA := hid A
      have HA2 := hid A2
      rw [k0] at d0
      clear KEEP hB hS hSt hF hf A A2 f1 f2 f3
      go_enter Tryz.func21, Tryz.ntmps21
      go_wp2_with fail
      refine (IV.out _).mono ?_
      rintro e w' ⟨rfl, rfl⟩
      go_wp2_with fail
      refine CALL.out.mono ?_
      rintro e w3 ⟨S', vE', nE', rfl, x1, x2, x3, x4⟩
      have R : Hid (SPost w0 C n k hol.length week bw bc aO cO bh F T bF cF bS nE i v w' (.returned (.int .i64 0)) w3) := ⟨S', vE', nE', by rw [HA.out], by rw [HA2.out]; exact x1, x2, x3, BEL.out.trans x4.1, fun b t l f h1 h2 h3 h4 r => x4.2 b t l f h1 h4 (WS.out b t l f h2 h3 r).1 (WS.out b t l f h2 h3 r).2⟩
      clear x1 x2 x3 x4
      go_wp2
      go_ret
      exact R.out
  · have A : setAns C n i v = 7 := by unfold setAns; rw [if_neg (by omega), if_pos (by simpa using k0)]
    have R := KEEP (by rw [A]; decide)
    rw [A] at R
    clear KEEP hB hS hSt hF hf A
    go_enter Tryz.func21, Tryz.ntmps21
    go_wp2
    go_ret
    exact R.out

theorem below_both {B : Nat} {w w' : World} (h : Below B w w') (p : Addr) (hp : p.block < B) (v : Value) : Below B (w.setCell p v) (w'.setCell p v) := by
  refine ⟨h.os, h.tape, h.output, by simpa using h.size, fun k hk => ?_⟩
  by_cases e : k = p.block
  · subst e
    simp only [World.setCell, Array.getElem?_modify, if_true]
    rw [h.block _ hk]
  · rw [Below.heap_setCell _ _ _ _ e, Below.heap_setCell _ _ _ _ e]
    exact h.block k hk

/-- A block below what a world stands on may turn. -/
theorem WSt.rebase {L : Nat} {w0 w : World} {C : Nat → Cel} {n : Nat} {R : Nat → Rul} {k nh : Nat} {hol : List Int} {week : Int} {bw bc : Nat} {aO : Option Addr} {cO bh : Nat} {F : Nat → Int} {T : Int} {op : Bool} {bF cF bS : Nat} {S : Nat → St} {vE : Value} {nE : Nat}
    (hB : WBase w0 C n R k hol bw bc aO bh) (h : WSt w0 w n k nh week bw bc aO cO bh F T op bF cF bS S vE nE) (hL : Floor L w0 aO k R bh hol) (hbc : L ≤ bc) (p : Addr) (hp : p.block < L) (v : Value) :
    WBase (w0.setCell p v) C n R k hol bw bc aO bh ∧ WSt (w0.setCell p v) (w.setCell p v) n k nh week bw bc aO cO bh F T op bF cF bS S vE nE ∧ Floor L (w0.setCell p v) aO k R bh hol := by
  have hbw := hB.hbc
  have hF : Floor L (w0.setCell p v) aO k R bh hol := fun W hW => hL W ((Up.setLow w0 p hp v).trans hW)
  obtain ⟨f, N, f1, f2, f3⟩ := h.fil
  obtain ⟨xs, hx⟩ := h.ev
  have hbF := h.hbF
  have hbS := h.hbS
  exact ⟨⟨by simpa using hB.size, hB.hbc, hB.cells.setOther (by omega) _, (hF _ (Up.refl _ _)).1, (hF _ (Up.refl _ _)).2⟩,
    ⟨below_both h.bel p (by omega) v, h.row.setOther (by omega) _, h.hbF, ⟨f, N, f1.setOther (by omega) _, f2, f3⟩, h.hbS, h.sta.setOther (by omega) _, xs, ownsRow_setCell_below hx (by omega) _⟩, hF⟩

end Go.Proofs.YtkhpkpaglkinbaaGreatDoor
