/-
  MEMORY: a new case.
-/
import Derived.Test.YtkhpkpaglkinbaaGreatDoorH24
set_option linter.unusedVariables false
set_option linter.unusedSimpArgs false
namespace Go.Proofs.YtkhpkpaglkinbaaGreatDoor
open Go.RowKit
attribute [local go_sem ↓] Go.wp_at_zero Go.wp_at_succ

theorem irow_sp {w : World} {b : Nat} {l : List Int} (h : w.rowIs b 3 (l.length + 8) (intSp l)) : IRow w b l := ⟨_, _, h, by omega, fun j hj => intSp_at l j hj⟩

theorem cat_hand {w : World} {b n : Nat} {C : Nat → Cel} (h : w.rowIs b 76 ((n + 8) * 5) (cellSt C n 8)) : CAt w (some ⟨b, 0, none⟩) n C :=
  Or.inr ⟨b, 0, rfl, h.lt, fun m hm => by rw [Nat.zero_add]; exact cellSt_cel h hm (by omega)⟩

theorem rat_hand {w : World} {b k : Nat} {R : Nat → Rul} {bs : Nat → Nat} (h : w.rowIs b 80 ((k + 8) * 2) (ruleSt R bs k 8)) (hst : ∀ x, x < k → w.rowIs (bs x) 3 ((R x).steps.length + 8) (intSp (R x).steps)) (hsl : ∀ i, i < k → (R i).steps.length ≤ 1000000000) : RAt w (some ⟨b, 0, none⟩) k R :=
  Or.inr ⟨b, 0, rfl, h.lt, fun m hm => by
    rw [Nat.zero_add]
    exact ⟨by rw [h.cell (by omega), ruleSt0 hm], some ⟨bs m, 0, none⟩, (R m).steps.length + 8, by rw [h.cell (by omega), ruleSt1 hm], (irow_sp (hst m hm)).ints _, hsl m hm⟩⟩

/-- What New answers: the document's error and number, or a case in memory of its own. -/
def NewPost (C : Nat → Cel) (n : Nat) (R : Nat → Rul) (k : Nat) (week : Int) (hol : List Int) (w : World) (e : Ending) (w' : World) : Prop :=
  Below w.heap.size w w' ∧ ∃ er a, ChkRel C n R k week hol er a ∧ ((er ≠ 0 ∧ e = .returned (.tuple #[.pointer none, .int .i64 er, .int .i64 a])) ∨
    (er = 0 ∧ ∃ bp bc cC aR cR bh cH, e = .returned (.tuple #[.pointer (some ⟨bp, 0, none⟩), .int .i64 0, .int .i64 0]) ∧ KSt w.heap.size w'.heap.size w' bp bc C n cC aR k cR week (some ⟨bh, 0, none⟩) hol cH 0 false ∧ (∀ W, Up w.heap.size w' W → RAt W aR k R)))

set_option maxRecDepth 100000 in
set_option maxHeartbeats 1000000 in
theorem new_any (C : Nat → Cel) (R : Nat → Rul) (hol : List Int) (bC bR bH n k : Nat) (bs : Nat → Nat) (week : Int) (w : World) (ht : Tab w) (hn : n ≤ 1000000000) (hk : k ≤ 1000000000) (hhl : hol.length ≤ 1000000000) (hsl : ∀ i, i < k → (R i).steps.length ≤ 1000000000)
    (hrc : w.rowIs bC 76 ((n + 8) * 5) (cellSt C n 8)) (hrr : w.rowIs bR 80 ((k + 8) * 2) (ruleSt R bs k 8)) (hrh : w.rowIs bH 3 (hol.length + 8) (intSp hol)) (hst : ∀ x, x < k → w.rowIs (bs x) 3 ((R x).steps.length + 8) (intSp (R x).steps)) :
    Calls Tryz.prog 10 #[.agg #[.slice (some ⟨bC, 0, none⟩) n (n + 8), .slice (some ⟨bR, 0, none⟩) k (k + 8), .int .i64 week, .slice (some ⟨bH, 0, none⟩) hol.length (hol.length + 8)]] w fun e w' => NewPost C n R k week hol w e w' := by
  have HB : Hid (∀ o, Below w.heap.size w (w.alloc o)) := fun o => (Below.refl _ _).alloc (Nat.le_refl _) _
  have FORM : Hid (∀ o, Calls Tryz.prog 36 #[.agg #[.slice (some ⟨bC, 0, none⟩) n (n + 8), .slice (some ⟨bR, 0, none⟩) k (k + 8), .int .i64 week, .slice (some ⟨bH, 0, none⟩) hol.length (hol.length + 8)]] (w.alloc o) fun e w' => ChkPost C n R k week hol (w.alloc o) e w') := fun o =>
    form_any C R hol _ _ _ n (n + 8) k (k + 8) (hol.length + 8) week _ (ht.below (HB.out o) (Nat.le_refl _)) hn hk hhl ((cat_hand hrc).below (HB.out o)) ((rat_hand hrr hst hsl).below (HB.out o)) (((irow_sp hrh).ints _).below (HB.out o) (Nat.le_refl _))
  have HRC := hid hrc
  have HRR := hid hrr
  have HRH := hid hrh
  have HST := hid hst
  have HSL := hid hsl
  have HBX := hid (Below.refl (w.heap.size + 1) (w.alloc (.cells #[.slice (some ⟨bC, 0, none⟩) n (n + 8), .slice (some ⟨bR, 0, none⟩) k (k + 8), .int .i64 week, .slice (some ⟨bH, 0, none⟩) hol.length (hol.length + 8)] 26)))
  clear hrc hrr hrh hst hsl ht
  go_enter Tryz.func10, Tryz.ntmps10
  go_wp2_with fail
  refine (FORM.out _).mono ?_
  rintro e1 w1 ⟨er, a, rfl, hrel, hb1⟩
  have REL := hid hrel
  have B1 : Hid (Below (w.heap.size + 1) (w.alloc (.cells #[.slice (some ⟨bC, 0, none⟩) n (n + 8), .slice (some ⟨bR, 0, none⟩) k (k + 8), .int .i64 week, .slice (some ⟨bH, 0, none⟩) hol.length (hol.length + 8)] 26)) w1) := by have h := hb1; rw [World.size_alloc] at h; exact h
  have B0 := hid (boxed_below B1.out)
  clear hb1 hrel FORM HBX
  by_cases e0 : er = 0
  · subst e0
    obtain ⟨rfl, hfo⟩ := REL.out.ok
    obtain ⟨n1, hn', hk', _, _⟩ := hfo.sizes
    have hhl' : hol.length ≤ 20 := hfo.hol.1
    clear hfo
    have f0 := boxed B1.out 0
    have f1 := boxed B1.out 1
    have f2 := boxed B1.out 2
    have f3 := boxed B1.out 3
    simp at f0 f1 f2 f3
    go_wp2_with fail
    refine (copyForm_any C R hol bC bR bH n k bs week w1 hn' hk' hhl' HSL.out (HRC.out.of_block (B0.out.block _ HRC.out.lt)) (HRR.out.of_block (B0.out.block _ HRR.out.lt)) (HRH.out.of_block (B0.out.block _ HRH.out.lt)) (fun x hx => (HST.out x hx).of_block (B0.out.block _ (HST.out x hx).lt))).mono ?_
    rintro e2 w2 ⟨bc, cC, aR, cR, bh, cH, rfl, q1, q2, q3, q4, q5, hb2⟩
    have Q : Hid (NewPost C n R k week hol w (.returned (.tuple #[.pointer (some ⟨w2.heap.size, 0, none⟩), .int .i64 0, .int .i64 0])) (w2.alloc (.cells #[.slice (some ⟨bc, 0, none⟩) n cC, .slice aR k cR, .int .i64 week, .slice (some ⟨bh, 0, none⟩) hol.length cH, .int .i64 0, .bool false] 85))) := by
      have hs1 := B0.out.size
      have hs2 := hb2.size
      have lc := q2.lt
      have lh := q4.lt
      refine ⟨(B0.out.trans (hb2.mono hs1)).alloc (by omega) _, 0, 0, REL.out, Or.inr ⟨rfl, w2.heap.size, bc, cC, aR, cR, bh, cH, rfl, ⟨?_, by omega, by simp, ?_, by omega, by simp; omega, ?_⟩, ?_⟩⟩
      · exact World.rowIs_alloc w2 _ 85 _ (fun i hi => by
          have hi' : i = 0 ∨ i = 1 ∨ i = 2 ∨ i = 3 ∨ i = 4 ∨ i = 5 := by simp at hi; omega
          rcases hi' with rfl | rfl | rfl | rfl | rfl | rfl <;> rfl)
      · exact q2.of_block (Below.heap_alloc _ _ _ lc)
      · obtain ⟨f, N, r1, r2, r3⟩ := q4
        exact Or.inr ⟨bh, f, N, rfl, r1.alloc _, r2, r3, by omega, by simp; omega⟩
      · intro W hW
        exact q5 W (((Up.alloc _ _ _).trans ⟨hW.1, fun j h1 h2 => hW.2 j (by omega) h2⟩))
    clear q1 q2 q3 q4 q5 hb2 f0 f1 f2 f3
    go_wp2
    exact bodyPost_ret (v := .tuple #[.pointer (some ⟨w2.heap.size, 0, none⟩), .int .i64 0, .int .i64 0]) (by simp [results, Tryz.results10, go_sem]) rfl Q.out
  · have Q : Hid (NewPost C n R k week hol w (.returned (.tuple #[.pointer none, .int .i64 er, .int .i64 a])) w1) := ⟨B0.out, er, a, REL.out, Or.inl ⟨e0, rfl⟩⟩
    go_wp2
    exact bodyPost_ret (v := .tuple #[.pointer none, .int .i64 er, .int .i64 a]) (by simp [results, Tryz.results10, go_sem]) rfl Q.out

end Go.Proofs.YtkhpkpaglkinbaaGreatDoor
