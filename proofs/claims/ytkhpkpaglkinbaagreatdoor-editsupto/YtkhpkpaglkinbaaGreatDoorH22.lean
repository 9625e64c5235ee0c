/-
  MEMORY: the case's own copy of a form.
-/
import Derived.Test.YtkhpkpaglkinbaaGreatDoorH21
set_option linter.unusedVariables false
set_option linter.unusedSimpArgs false
namespace Go.Proofs.YtkhpkpaglkinbaaGreatDoor
open Go.RowKit
attribute [local go_sem ↓] Go.wp_at_zero Go.wp_at_succ

/-- An empty list that was just made owns its room. -/
theorem own_empty (w : World) (e : TypeId) (size : Nat) : (w.alloc (.cells #[] e)).ownsRow w.heap.size e size (.slice (some ⟨w.heap.size, 0, none⟩) 0 0) 0 [] := by
  refine ⟨by simp, Or.inr ⟨w.heap.size, 0, #[], rfl, Nat.le_refl _, ?_, ?_⟩⟩
  · show (w.heap.push _)[w.heap.size]? = _
    simp
  · simp

/-- A list is copied by an append onto an empty one: what comes out owns its room, and nothing that was there has turned. -/
theorem app_copy (w : World) (t ty e : TypeId) (i : TypeInfo) (z : Value) (size bytes : Nat) (ht : Tryz.prog.underlying t = some (.slice e)) (hi : Tryz.prog.info? e = some i) (hz : i.zero = some z)
    (hsize : i.size = size) (hby : i.bytes = bytes) (hzs : z.cells.size = size) (hsz : 0 < size) (ad : Addr) (m c : Nat) (news : List Value) (hl : news.length = m * size) (hnews : ∀ j u, news[j]? = some u → w.cell? (ad.add j) = some u) (h1 : ∀ u ∈ news, u.oneCell' = true)
    (hlt : ad.block < w.heap.size) (h63 : m ≤ maxLen) (hbytes : m * bytes ≤ 140737488355328) :
    ∃ g cap w', (Builtin.append_ #[t, t] ty #[.slice (some ⟨w.heap.size, 0, none⟩) 0 0, .slice (some ad) m c]).run Tryz.prog (w.alloc (.cells #[] e)) = .ok (.slice (some ⟨g, 0, none⟩) m cap) w' ∧
      w'.ownsRow w.heap.size e size (.slice (some ⟨g, 0, none⟩) m cap) m news ∧ Below w.heap.size w w' ∧ w.heap.size ≤ g ∧ g < w'.heap.size := by
  have hcell : ∀ j u, news[j]? = some u → (w.alloc (.cells #[] e)).cell? (ad.add j) = some u := fun j u hu => by
    rw [World.cell?_alloc_lt (h := by unfold Addr.add; split <;> exact hlt)]
    exact hnews j u hu
  obtain ⟨v', w', a1, a2, a3, a4, a5⟩ := run_append_own_at (P := Tryz.prog) (w.alloc (.cells #[] e)) w.heap.size t ty e i z size bytes ht hi hz hsize hby hzs hsz _ 0 [] (own_empty w e size) ad m c news hl hcell h1 (by omega) (by rw [Nat.zero_add]; exact hbytes) (by simp)
  rw [Nat.zero_add, List.nil_append] at a2
  have hne : v' ≠ .slice none 0 0 := fun h => by have := (a4.1 h).1; simp at this
  have b1 := a2
  obtain ⟨_, h2⟩ := b1
  rcases h2 with ⟨h2, _⟩ | ⟨g, cap, cur, h2, h3, h4, _⟩
  · exact absurd h2 hne
  · subst h2
    have hg : g < w'.heap.size := by
      rcases Nat.lt_or_ge g w'.heap.size with h | h
      · exact h
      · rw [Array.getElem?_eq_none h] at h4; cases h4
    refine ⟨g, cap, w', a1, a2, ?_, h3, hg⟩
    exact Below.grown ((Below.refl _ _).alloc (Nat.le_refl _) _) a3 (by simp) (fun g' hg' => by
      have : w.heap.size = g' := by simpa [Value.ownBlock] using hg'
      omega)

/-- A list that owns its room is a row. -/
theorem own_row {w : World} {base g m cap size : Nat} {e : TypeId} {xs : List Value} (h : w.ownsRow base e size (.slice (some ⟨g, 0, none⟩) m cap) m xs) : ∃ f N, w.rowIs g e N f ∧ m * size ≤ N ∧ ∀ j, j < m * size → some (f j) = xs[j]? := by
  obtain ⟨h1, h2⟩ := h
  rcases h2 with ⟨h2, _⟩ | ⟨g', cap', cur, h2, h3, h4, h5, h6, h7, h8⟩
  · simp at h2
  · simp at h2
    obtain ⟨rfl, _⟩ := h2
    have hsz : m * size ≤ cur.size := by
      have : xs.length ≤ cur.size := by rw [← h8]; simp; omega
      omega
    refine ⟨fun j => cur.getD j undef, cur.size, ⟨cur, h4, rfl, fun i hi => by simp [Array.getD, hi]⟩, hsz, fun j hj => ?_⟩
    rw [← h8, List.getElem?_take, if_pos hj]
    have : j < cur.size := by omega
    simp [Array.getD, this]

end Go.Proofs.YtkhpkpaglkinbaaGreatDoor
