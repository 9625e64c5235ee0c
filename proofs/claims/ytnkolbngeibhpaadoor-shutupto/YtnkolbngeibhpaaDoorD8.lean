/-
  MEMORY: the document's world, exactly: Advance.
-/
import Derived.Test.YtnkolbngeibhpaaDoorD7
set_option linter.unusedVariables false
set_option linter.unusedSimpArgs false
namespace Go.Proofs.YtnkolbngeibhpaaDoor

open Go.RowKit

attribute [local go_sem ↓] Go.wp_at_zero Go.wp_at_succ

theorem wf_set5 {bc n : Nat} {aO : Option Addr} {k cO : Nat} {week : Int} {bh nh : Nat} {vF : Value} {T T' : Int} {op : Bool} {vS vE : Value} (j : Nat) : (if j = 5 then .int .i64 T' else wf bc n aO k cO week bh nh vF T op vS vE j) = wf bc n aO k cO week bh nh vF T' op vS vE j := by
  unfold wf
  by_cases h : j = 5
  · subst h; rfl
  · simp only [h, if_false]

theorem wf_set6 {bc n : Nat} {aO : Option Addr} {k cO : Nat} {week : Int} {bh nh : Nat} {vF : Value} {T : Int} {op op' : Bool} {vS vE : Value} (j : Nat) : (if j = 6 then .bool op' else wf bc n aO k cO week bh nh vF T op vS vE j) = wf bc n aO k cO week bh nh vF T op' vS vE j := by
  unfold wf
  by_cases h : j = 6
  · subst h; rfl
  · simp only [h, if_false]

section

variable {Q : Nat → Prop} {f : Frm} {p : Pl} {F : Nat → Int} {T : Int} {op : Bool} {S : Nat → St} {vE : Value} {E : List Ev} {w : World}

end

theorem Gone.setW {p : Pl} {vE vE' : Value} {w w1 : World} (h : Gone p vE vE' w w1) (q : Nat) (v : Value) : Gone p vE vE' w (w1.setCell ⟨p.bw, q, none⟩ v) := ⟨h.1.setCell _ _ (Or.inl rfl), h.2⟩

theorem Gone.refl (p : Pl) (vE : Value) (w : World) : Gone p vE vE w w := ⟨Chg.refl _ _, Grew.refl _ _⟩

/-- P6's answer, and what it leaves. -/
def advAns (T to : Int) : Int := if to < T ∨ 1000000000 < to then 9 else 0

def advM (f : Frm) (m : Cs) (to : Int) : Cs := if to < m.T ∨ 1000000000 < to then m else m.go f (to - m.T).toNat

def timeOf (b : Nat) (w : World) : Int := match w.cell? ⟨b, 5, none⟩ with
  | some (.int _ v) => v
  | _ => 0

/-- The clock has come so far. -/
def Way (f : Frm) (b : Nat) (m : Cs) (to : Int) (m' : Cs) : Prop := m.go f (to - m.T).toNat = m'.go f (to - m'.T).toNat ∧ m'.T ≤ to ∧ m'.Ok f ∧ Few b m'

theorem Way.next {f : Frm} (hf : f.Ok) {b : Nat} {m m' : Cs} {to t : Int} (h : Way f b m to m') (hc : Cand f m' t) (h1 : t ≠ -1) (h2 : t ≤ to) (_h3 : to ≤ 1000000000) : Way f b m to (Cs.settle f (m'.at t)) ∧ m'.T < t ∧ t ≤ 1000000000 := by
  obtain ⟨a1, a2, a3, a4⟩ := h
  obtain ⟨c1, c2⟩ := hc
  have lo : m'.T < t ∧ t ≤ 1000000000 := by
    rcases c1 with c | c
    · exact (h1 c).elim
    · exact c
  have e := go_next hf a3 lo.1 (fun u u1 u2 => c2 u u1 (by omega) (Or.inr u2))
  have hT : (Cs.settle f (m'.at t)).T = t := settle_T f _
  refine ⟨⟨?_, by rw [hT]; exact h2, ?_, ?_⟩, lo⟩
  · rw [a1, hT, ← e, ← go_add]
    congr 1
    omega
  · rw [← e]
    exact go_ok hf a3 _ (by omega)
  · rw [← e]
    exact go_few hf a4 _

theorem Way.last {f : Frm} (hf : f.Ok) {b : Nat} {m m' : Cs} {to t : Int} (h : Way f b m to m') (hc : Cand f m' t) (h1 : t < 0 ∨ to < t) (h3 : to ≤ 1000000000) : m.go f (to - m.T).toNat = m'.at to := by
  obtain ⟨a1, a2, a3, a4⟩ := h
  obtain ⟨c1, c2⟩ := hc
  have t0 := a3.t0
  rw [a1, go_quiet hf a3 _ (fun i i1 i2 => c2 _ (by omega) (by omega) ?_), show m'.T + ((to - m'.T).toNat : Int) = to by omega]
  rcases c1 with c | c
  · exact Or.inl c
  · exact Or.inr (by omega)

end Go.Proofs.YtnkolbngeibhpaaDoor
