/-
  MEMORY: the document's world, exactly: Rule, Log.
-/
import Derived.Test.YtmofidaojmiepaaGreatDoorGD9
import Derived.OwnWalk
set_option linter.unusedVariables false
set_option linter.unusedSimpArgs false
namespace Go.Proofs.YtmofidaojmiepaaGreatDoor

open Go.RowKit

attribute [local go_sem ↓] Go.wp_at_zero Go.wp_at_succ

theorem stopH {p : Prop} (h : Hid p) : p := h.out

theorem own_alloc0 {w : World} {base : Nat} {e : TypeId} {size : Nat} {v : Value} {n : Nat} {xs : List Value} (h : w.ownsRow base e size v n xs) (o : Obj) : (w.alloc o).ownsRow base e size v n xs :=
  own_of_block h (fun g _ hlt => Below.heap_alloc w o g hlt)

theorem news3' (w : World) (a b c : Value) (t : TypeId) : ∀ j u, [a, b, c][j]? = some u → (w.alloc (.cells #[a, b, c] t)).cell? ((⟨w.heap.size, 0, none⟩ : Addr).add j) = some u :=
  World.news_of_block (cs := #[a, b, c]) (t := t) (fr := (0, 0)) (by show (w.heap.push _)[w.heap.size]? = _; simp)

theorem grow_below0 {B : Nat} {w1 w2 : World} {o : Obj} {row : Option Nat} (hg : (w1.alloc o).grownBy w2 row) (hB : B ≤ w1.heap.size) (hr : ∀ g, row = some g → B ≤ g) : Below B w1 w2 :=
  Below.grown ((Below.refl B w1).alloc hB o) hg (by show B ≤ (w1.heap.push o).size; simp; omega) hr

theorem evs_at : ∀ (E : List Ev) (i : Nat) (e : Ev), E[i]? = some e → (evs E)[i * 3]? = some (.int .i64 e.t) ∧ (evs E)[i * 3 + 1]? = some (.int .i64 e.r) ∧ (evs E)[i * 3 + 2]? = some (.int .i64 e.l) := by
  intro E
  induction E with
  | nil => intro i e h; simp at h
  | cons a E ih =>
    intro i e h
    rw [evs_cons]
    cases i with
    | zero =>
      simp at h
      subst h
      exact ⟨rfl, rfl, rfl⟩
    | succ i =>
      have h' : E[i]? = some e := by simpa using h
      obtain ⟨h1, h2, h3⟩ := ih i e h'
      refine ⟨?_, ?_, ?_⟩
      · rw [List.getElem?_append_right (by simp; omega)]
        simpa [show (i + 1) * 3 - 3 = i * 3 by omega] using h1
      · rw [List.getElem?_append_right (by simp; omega)]
        simpa [show (i + 1) * 3 + 1 - 3 = i * 3 + 1 by omega] using h2
      · rw [List.getElem?_append_right (by simp; omega)]
        simpa [show (i + 1) * 3 + 2 - 3 = i * 3 + 2 by omega] using h3

/-- A list of events: where it lies, and its cells. -/
theorem own_evs {w : World} {base : Nat} {v : Value} {E : List Ev} (h : w.ownsRow base 99 3 v E.length (evs E)) {i : Nat} {e : Ev} (he : E[i]? = some e) :
    ∃ g cap, v = .slice (some ⟨g, 0, none⟩) E.length cap ∧ g < w.heap.size ∧ i < E.length ∧ w.cell? ⟨g, i * 3, none⟩ = some (.int .i64 e.t) ∧ w.cell? ⟨g, i * 3 + 1, none⟩ = some (.int .i64 e.r) ∧ w.cell? ⟨g, i * 3 + 2, none⟩ = some (.int .i64 e.l) := by
  have hi : i < E.length := by
    rcases Nat.lt_or_ge i E.length with h | h
    · exact h
    · rw [List.getElem?_eq_none h] at he; cases he
  rcases h.2 with ⟨_, h0⟩ | ⟨g, cap, cur, hv, hb, hh, h5, h6, h7, h8⟩
  · omega
  have hlt : g < w.heap.size := by
    rcases Nat.lt_or_ge g w.heap.size with h | h
    · exact h
    · rw [Array.getElem?_eq_none h] at hh; cases hh
  have hcell : ∀ j, j < E.length * 3 → w.cell? ⟨g, j, none⟩ = (evs E)[j]? := fun j hj => by
    have e1 : cur[j]? = (evs E)[j]? := by rw [← h8, List.getElem?_take, if_pos hj]; simp
    simp [World.cell?, hh, e1]
  obtain ⟨e1, e2, e3⟩ := evs_at E i e he
  exact ⟨g, cap, hv, hlt, hi, by rw [hcell _ (by omega), e1], by rw [hcell _ (by omega), e2], by rw [hcell _ (by omega), e3]⟩

/-- P7: the log from a number on, in a list of its own. -/
def LgP (E : List Ev) (x : Int) (w : World) (e : Ending) (w' : World) : Prop := ∃ v, e = .returned v ∧ w'.ownsRow w.heap.size 99 3 v (E.drop x.toNat).length (evs (E.drop x.toNat)) ∧ Below w.heap.size w w'

theorem own_none (w : World) (base : Nat) (t : TypeId) : w.ownsRow base t 3 (.slice none 0 0) 0 [] := ⟨rfl, Or.inl ⟨rfl, rfl⟩⟩

theorem own_len {w : World} {base : Nat} {e : TypeId} {size : Nat} {v : Value} {n : Nat} {xs : List Value} (h : w.ownsRow base e size v n xs) : ∃ a cap, v = .slice a n cap := by
  rcases h.2 with ⟨rfl, rfl⟩ | ⟨g, cap, cur, hv, _⟩
  · exact ⟨_, _, rfl⟩
  · exact ⟨_, _, hv⟩

end Go.Proofs.YtmofidaojmiepaaGreatDoor

/-
  MEMORY: the document's world, exactly: Begin.
-/
set_option linter.unusedVariables false
set_option linter.unusedSimpArgs false
namespace Go.Proofs.YtmofidaojmiepaaGreatDoor

open Go.RowKit

attribute [local go_sem ↓] Go.wp_at_zero Go.wp_at_succ

/-- P3: the case of a form. -/
def beginM (f : Frm) : Cs := Cs.settle f ⟨fun j => (f.C j).k, 0, true, fun _ => noSt, []⟩

theorem begin_fv {f : Frm} (hf : f.Ok) : FV f (fun j => (f.C j).k) := fun i hi hk => (hf.cells i hi).2.2.1.1 (Or.inl hk)

theorem beginM_ok {f : Frm} (hf : f.Ok) : (beginM f).Ok f := settle_ok hf (Int.le_refl _) (by show (0 : Int) ≤ _; omega) (begin_fv hf) (fun _ _ => ⟨Int.le_refl _, by show (0 : Int) ≤ _; omega, Int.le_refl _, by show (0 : Int) ≤ _; omega⟩) (fun e => by cases e)

theorem beginM_few {f : Frm} (hf : f.Ok) : Few 1 (beginM f) := by
  obtain ⟨_, _, k6, _, _⟩ := hf.sizes
  have h := settle_len f ⟨fun j => (f.C j).k, 0, true, fun _ => noSt, []⟩
  unfold Few beginM
  rw [settle_T]
  have e : (Cs.mk (fun j => (f.C j).k) 0 true (fun _ => noSt) []).E.length = 0 := rfl
  have e2 : (Cs.mk (fun j => (f.C j).k) 0 true (fun _ => noSt) []).T = 0 := rfl
  omega

end Go.Proofs.YtmofidaojmiepaaGreatDoor

/-
  MEMORY: the document's world, exactly: Fork.
-/
set_option linter.unusedVariables false
set_option linter.unusedSimpArgs false
namespace Go.Proofs.YtmofidaojmiepaaGreatDoor

open Go.RowKit

attribute [local go_sem ↓] Go.wp_at_zero Go.wp_at_succ

/-- A row that holds a list of events owns it. -/
theorem own_of_row {w : World} {b n : Nat} {E : List Ev} {t : TypeId} {g : Nat → Value} (hr : w.rowIs b t (n * 3) g) (hn : n = E.length) (hm : n ≤ maxLen) (hg : ∀ j, j < n * 3 → (evs E)[j]? = some (g j)) : w.ownsRow 0 t 3 (.slice (some ⟨b, 0, none⟩) n n) E.length (evs E) := by
  subst hn
  obtain ⟨c, h1, h2, h3⟩ := hr
  refine ⟨evs_length E, Or.inr ⟨b, E.length, c, rfl, Nat.zero_le _, h1, Nat.le_refl _, hm, h2, ?_⟩⟩
  apply List.ext_getElem?
  intro j
  by_cases hj : j < E.length * 3
  · rw [List.getElem?_take, if_pos hj, hg j hj]
    have := h3 j (by omega)
    simpa using this
  · rw [List.getElem?_eq_none (by simp; omega), List.getElem?_eq_none (by rw [evs_length]; omega)]

def evf (E : List Ev) (j : Nat) : Value := (evs E).getD j undef

theorem evf_one (E : List Ev) : ∀ j, j < E.length * 3 → (evf E j).oneCell' = true := by
  intro j hj
  have hi : j / 3 < E.length := by omega
  obtain ⟨e1, e2, e3⟩ := evs_at E (j / 3) (E[j / 3]) (List.getElem?_eq_getElem hi)
  unfold evf
  have hc : j = j / 3 * 3 ∨ j = j / 3 * 3 + 1 ∨ j = j / 3 * 3 + 2 := by omega
  rw [List.getD_eq_getElem?_getD]
  rcases hc with h | h | h
  · rw [h, e1]; rfl
  · rw [h, e2]; rfl
  · rw [h, e3]; rfl

theorem evf_at (E : List Ev) (j : Nat) (hj : j < E.length * 3) : (evs E)[j]? = some (evf E j) := by
  unfold evf
  rw [List.getD_eq_getElem?_getD, List.getElem?_eq_getElem (by rw [evs_length]; exact hj)]
  rfl

theorem sizeS : (Tryz.prog.info? 71).map (·.size) = some 4 := by kernel_rfl

theorem sizeE : (Tryz.prog.info? 99).map (·.size) = some 3 := by kernel_rfl

theorem stf_one (S : Nat → St) (j : Nat) : (stf S j).oneCell' = true := by
  unfold stf
  split
  · rfl
  split
  · rfl
  split <;> rfl

/-- Where a list of events lies. -/
theorem own_src {w : World} {base : Nat} {t : TypeId} {a : Option Addr} {cap : Nat} {E : List Ev} (h : w.ownsRow base t 3 (.slice a E.length cap) E.length (evs E)) : E.length * 3 = 0 ∨ ∃ b o, a = some ⟨b, o, none⟩ ∧ ∀ j, j < E.length * 3 → w.cell? ⟨b, o + j, none⟩ = some (evf E j) := by
  rcases h.2 with ⟨_, h0⟩ | ⟨g, cap', cur, hv, hb, hh, h5, h6, h7, h8⟩
  · exact Or.inl (by omega)
  · simp at hv
    refine Or.inr ⟨g, 0, hv.1, fun j hj => ?_⟩
    have e1 : cur[j]? = (evs E)[j]? := by rw [← h8, List.getElem?_take, if_pos hj]; simp
    rw [Nat.zero_add]
    simp [World.cell?, hh, e1, evf_at E j hj]

theorem ev_made {W : World} (n : Nat) : (W.alloc (.cells (madeCells #[.int .i64 0, .int .i64 0, .int .i64 0] (n * 3)) 99)).rowIs W.heap.size 99 (n * 3) (fun _ => .int .i64 0) := by
  have h := row_made (w := W) (z := .agg #[.int .i64 0, .int .i64 0, .int .i64 0]) (n := n) (sz := 3) (e := 99) rfl (fun _ => .int .i64 0) (fun j _ => by
    have hs : ((Value.agg #[.int .i64 0, .int .i64 0, .int .i64 0]).cells).size = 3 := rfl
    rw [hs]
    have hc : j % 3 = 0 ∨ j % 3 = 1 ∨ j % 3 = 2 := by omega
    rcases hc with e | e | e <;> simp only [e] <;> rfl)
  exact h

end Go.Proofs.YtmofidaojmiepaaGreatDoor
