/-
  MEMORY: copy, as a law on rows; a list with spare room.
-/
import Derived.Test.YtmofidaojmiepaaDoorGW19
import Derived.Laws.CopyOwn
set_option linter.unusedVariables false
set_option linter.unusedSimpArgs false
namespace Go.Proofs.YtmofidaojmiepaaDoor

open Go.RowKit

/-- copy from the start of a row's own room on: sLen elements of sz cells each. -/
theorem run_copy_is {P : Program} (w : World) (dT sT ty elem : TypeId) (sz g dLen dCap N : Nat) (t : TypeId) (f : Nat → Value) (sp : Option Addr) (sLen sCap : Nat) (h : Nat → Value)
    (hu : P.underlying dT = some (.slice elem)) (hs : (P.info? elem).map (·.size) = some sz) (hrow : w.rowIs g t N f) (hle : sLen ≤ dLen) (hfit : sLen * sz ≤ N)
    (hsrc : sLen * sz = 0 ∨ ∃ b o, sp = some ⟨b, o, none⟩ ∧ ∀ j, j < sLen * sz → w.cell? ⟨b, o + j, none⟩ = some (h j)) (h1 : ∀ j, j < sLen * sz → (h j).oneCell' = true) :
    ∃ w', (Builtin.copy_ #[dT, sT] ty #[.slice (some ⟨g, 0, none⟩) dLen dCap, .slice sp sLen sCap]).run P w = .ok (goInt sLen) w' ∧ w'.rowIs g t N (fun j => if j < sLen * sz then h j else f j) ∧ w'.heap.size = w.heap.size ∧ w'.os = w.os ∧ w'.tape = w.tape ∧ w'.output = w.output ∧ ∀ k, k ≠ g → w'.heap[k]? = w.heap[k]? := by
  obtain ⟨cur, hg, hcn, hcf⟩ := hrow
  cases hq : P.info? elem with
  | none => simp [hq] at hs
  | some i =>
    have hi : i.size = sz := by simpa [hq] using hs
    have hmin : Nat.min sLen dLen = sLen := Nat.min_eq_left hle
    by_cases h0 : sLen * sz = 0
    · refine ⟨w, ?_, ⟨cur, hg, hcn, fun j hj => by simp only [h0, Nat.not_lt_zero, if_false]; exact hcf j hj⟩, rfl, rfl, rfl, rfl, fun _ _ => rfl⟩
      have hl : ∀ (x : Addr), (loadCells x 0).run P w = .ok #[] w := fun x => by simpa using run_loadCells_list (P := P) w x [] (by simp)
      have h0' : sz * sLen = 0 := by rw [Nat.mul_comm]; exact h0
      cases sp <;> simp [Builtin.copy_, run_underlying hu, Builtin.lenOf, Builtin.firstCells, sizeOf, typeInfo, hq, hi, hmin, storeCells, hl, h0, h0']
    · obtain ⟨b, o, rfl, hsc⟩ : ∃ b o, sp = some ⟨b, o, none⟩ ∧ ∀ j, j < sLen * sz → w.cell? ⟨b, o + j, none⟩ = some (h j) := by
        rcases hsrc with e | e
        · exact (h0 e).elim
        · exact e
      let cs : List Value := (List.range (sLen * sz)).map h
      have hcl : cs.length = sLen * sz := by simp [cs]
      have hadd : ∀ j, (⟨b, o, none⟩ : Addr).add j = ⟨b, o + j, none⟩ := fun j => by unfold Addr.add; split <;> simp_all
      have hl := run_loadCells_list (P := P) w ⟨b, o, none⟩ cs (fun j v hv => by
        have hj : j < sLen * sz := by
          obtain ⟨hj, _⟩ := List.getElem?_eq_some_iff.1 hv
          rw [hcl] at hj; exact hj
        rw [hadd, hsc j hj]
        simp [cs, hj] at hv
        rw [hv])
      have hst := run_storeCells_at P g 0 t cs 0 cur w hg (by rw [hcl, hcn]; omega) (fun v hv => by
        obtain ⟨j, hj, rfl⟩ := List.mem_map.1 hv
        exact h1 j (List.mem_range.1 hj))
      simp only [Nat.zero_add, List.take_zero, List.nil_append] at hst
      generalize hX : (cs ++ cur.toList.drop cs.length).toArray = X at *
      refine ⟨w.setRow g X, ?_, ⟨X, setRow_heap w g cur X t _ hg, ?_, fun j hj => ?_⟩, by simp, rfl, rfl, rfl, fun k hk => setRow_other w g k _ hk⟩
      · rw [hcl] at hl
        have hl' : (loadCells ⟨b, o, none⟩ (sz * sLen)).run P w = .ok cs.toArray w := by rw [Nat.mul_comm]; exact hl
        simp [Builtin.copy_, run_underlying hu, Builtin.lenOf, Builtin.firstCells, sizeOf, typeInfo, hq, hi, hmin, hl, hl', hst]
      · rw [← hX]; simp [hcl, hcn]; omega
      · rw [← hX]; simp only [List.getElem?_toArray]
        by_cases hj2 : j < sLen * sz
        · rw [List.getElem?_append_left (by rw [hcl]; exact hj2), if_pos hj2]; simp [cs, hj2]
        · rw [List.getElem?_append_right (by rw [hcl]; omega), if_neg hj2, hcl, List.getElem?_drop, show sLen * sz + (j - sLen * sz) = j by omega]
          have := hcf j hj
          simpa using this

/-- A row of numbers with eight marked places behind it. -/
def intSp (l : List Int) (j : Nat) : Value := .int .i64 (if j < l.length then l.getD j 0 else -5)

/-- What ints answers. -/
def IntsPost (l : List Int) (w : World) (e : Ending) (w' : World) : Prop :=
  ∃ b, e = .returned (.slice (some ⟨b, 0, none⟩) l.length (l.length + 8)) ∧ w.heap.size ≤ b ∧ w'.rowIs b 3 (l.length + 8) (intSp l) ∧ Below w.heap.size w w'

theorem size3 : (Tryd.prog.info? 3).map (·.size) = some 1 := by kernel_rfl

end Go.Proofs.YtmofidaojmiepaaDoor
