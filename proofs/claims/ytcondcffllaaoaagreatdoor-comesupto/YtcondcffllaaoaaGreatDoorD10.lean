/-
  MEMORY: the document's world, exactly: Rule, Log.
-/
import Derived.Test.YtcondcffllaaoaaGreatDoorD9
import Derived.OwnWalk
set_option linter.unusedVariables false
set_option linter.unusedSimpArgs false
namespace Go.Proofs.YtcondcffllaaoaaGreatDoor
open Go.RowKit
attribute [local go_sem ↓] Go.wp_at_zero Go.wp_at_succ

theorem stopH {p : Prop} (h : Hid p) : p := h.out

set_option maxRecDepth 100000 in
set_option maxHeartbeats 2000000 in
theorem dRule_any {Q : Nat → Prop} {f : Frm} {p : Pl} {m : Cs} {vE : Value} {w : World} (r : Int) (hS : DAt Q f p m vE w) :
    Calls Tryz.prog 55 #[.pointer (some ⟨p.bw, 0, none⟩), .int .i64 r] w fun e w' => RAns f m r w e w' := by
  have hD : DSt Q f p m.F m.T m.op m.S vE m.E w := hS
  have zb := hD.row.lt
  have zS := hD.sta.lt
  have BW : Hid (∀ o, Below w.heap.size w (w.alloc o)) := fun o => (Below.refl _ _).alloc (Nat.le_refl _) _
  have r7 := (hD.drop (BW.out (.cells #[.bool false, .int .i64 0, .int .i64 0, .bool false] 94))).row.cell (i := 7) (by omega)
  simp [wf] at r7
  by_cases c0 : r < 0
  · have NO : Hid (∀ w', Below w.heap.size w w' → RAns f m r w (.returned (.tuple #[.agg #[.bool false, .int .i64 0, .int .i64 0, .bool false], .int .i64 6])) w') := fun w' h => rans_no (by omega) h
    clear hS hD
    go_enter Tryz.func55, Tryz.ntmps55
    go_wp2
    exact bodyPost_ret (v := .tuple #[.agg #[.bool false, .int .i64 0, .int .i64 0, .bool false], .int .i64 6]) (by simp [results, Tryz.results55, go_sem]) rfl (NO.out _ (by first | exact (Below.refl _ _).alloc (Nat.le_refl _) _ | exact (((((Below.refl _ _).alloc (Nat.le_refl _) _).setCell (Nat.le_refl _) _).setCell (Nat.le_refl _) _).setCell (Nat.le_refl _) _).setCell (Nat.le_refl _) _))
  by_cases c1 : (f.k : Int) ≤ r
  · have NO : Hid (∀ w', Below w.heap.size w w' → RAns f m r w (.returned (.tuple #[.agg #[.bool false, .int .i64 0, .int .i64 0, .bool false], .int .i64 6])) w') := fun w' h => rans_no (by omega) h
    clear hS hD
    go_enter Tryz.func55, Tryz.ntmps55
    go_wp2
    exact bodyPost_ret (v := .tuple #[.agg #[.bool false, .int .i64 0, .int .i64 0, .bool false], .int .i64 6]) (by simp [results, Tryz.results55, go_sem]) rfl (NO.out _ (by first | exact (Below.refl _ _).alloc (Nat.le_refl _) _ | exact (((((Below.refl _ _).alloc (Nat.le_refl _) _).setCell (Nat.le_refl _) _).setCell (Nat.le_refl _) _).setCell (Nat.le_refl _) _).setCell (Nat.le_refl _) _))
  obtain ⟨i, rfl⟩ := Int.eq_ofNat_of_zero_le (show 0 ≤ r by omega)
  have i1 : i < f.k := by omega
  have hA := hD.drop (BW.out (.cells #[.bool false, .int .i64 0, .int .i64 0, .bool false] 94))
  have s0 := hA.sta.cell (i := i * 4) (by omega)
  have s1 := hA.sta.cell (i := i * 4 + 1) (by omega)
  have s2 := hA.sta.cell (i := i * 4 + 2) (by omega)
  have s3 := hA.sta.cell (i := i * 4 + 3) (by omega)
  rw [stf0] at s0
  rw [stf1] at s1
  rw [stf2] at s2
  rw [stf3] at s3
  have YES : Hid (∀ w', Below w.heap.size w w' → RAns f m i w (.returned (.tuple #[.agg #[.bool (m.S i).lit, .int .i64 (m.S i).since, .int .i64 (m.S i).level, .bool (m.S i).acked], .int .i64 0])) w') := fun w' h => rans_yes i1 h
  clear hS hD hA
  go_enter Tryz.func55, Tryz.ntmps55
  go_wp2
  exact bodyPost_ret (v := .tuple #[.agg #[.bool (m.S i).lit, .int .i64 (m.S i).since, .int .i64 (m.S i).level, .bool (m.S i).acked], .int .i64 0]) (by simp [results, Tryz.results55, go_sem]) rfl (YES.out _ (by first | exact (Below.refl _ _).alloc (Nat.le_refl _) _ | exact (((((Below.refl _ _).alloc (Nat.le_refl _) _).setCell (Nat.le_refl _) _).setCell (Nat.le_refl _) _).setCell (Nat.le_refl _) _).setCell (Nat.le_refl _) _))

theorem own_alloc0 {w : World} {base : Nat} {e : TypeId} {size : Nat} {v : Value} {n : Nat} {xs : List Value} (h : w.ownsRow base e size v n xs) (o : Obj) : (w.alloc o).ownsRow base e size v n xs :=
  own_of_block h (fun g _ hlt => Below.heap_alloc w o g hlt)
theorem news3' (w : World) (a b c : Value) (t : TypeId) : ∀ j u, [a, b, c][j]? = some u → (w.alloc (.cells #[a, b, c] t)).cell? ((⟨w.heap.size, 0, none⟩ : Addr).add j) = some u :=
  World.news_of_block (cs := #[a, b, c]) (t := t) (fr := (0, 0)) (by show (w.heap.push _)[w.heap.size]? = _; simp)
theorem grow_below0 {B : Nat} {w1 w2 : World} {o : Obj} {row : Option Nat} (hg : (w1.alloc o).grownBy w2 row) (hB : B ≤ w1.heap.size) (hr : ∀ g, row = some g → B ≤ g) : Below B w1 w2 :=
  Below.grown ((Below.refl B w1).alloc hB o) hg (by show B ≤ (w1.heap.push o).size; simp; omega) hr

theorem evs_at : ∀ (E : List Ev) (i : Nat) (e : Ev), E[i]? = some e → (evs E)[i * 3]? = some (.int .i64 e.t) ∧ (evs E)[i * 3 + 1]? = some (.int .i64 e.r) ∧ (evs E)[i * 3 + 2]? = some (.int .i64 e.l) := by
  intro E
  induction E with
  | nil => intro i e h; simp at h
  | cons a E ih =>
    intro i e h
    rw [evs_cons]
    cases i with
    | zero =>
      simp at h
      subst h
      exact ⟨rfl, rfl, rfl⟩
    | succ i =>
      have h' : E[i]? = some e := by simpa using h
      obtain ⟨h1, h2, h3⟩ := ih i e h'
      refine ⟨?_, ?_, ?_⟩
      · rw [List.getElem?_append_right (by simp; omega)]
        simpa [show (i + 1) * 3 - 3 = i * 3 by omega] using h1
      · rw [List.getElem?_append_right (by simp; omega)]
        simpa [show (i + 1) * 3 + 1 - 3 = i * 3 + 1 by omega] using h2
      · rw [List.getElem?_append_right (by simp; omega)]
        simpa [show (i + 1) * 3 + 2 - 3 = i * 3 + 2 by omega] using h3

/-- A list of events: where it lies, and its cells. -/
theorem own_evs {w : World} {base : Nat} {v : Value} {E : List Ev} (h : w.ownsRow base 103 3 v E.length (evs E)) {i : Nat} {e : Ev} (he : E[i]? = some e) :
    ∃ g cap, v = .slice (some ⟨g, 0, none⟩) E.length cap ∧ g < w.heap.size ∧ i < E.length ∧ w.cell? ⟨g, i * 3, none⟩ = some (.int .i64 e.t) ∧ w.cell? ⟨g, i * 3 + 1, none⟩ = some (.int .i64 e.r) ∧ w.cell? ⟨g, i * 3 + 2, none⟩ = some (.int .i64 e.l) := by
  have hi : i < E.length := by
    rcases Nat.lt_or_ge i E.length with h | h
    · exact h
    · rw [List.getElem?_eq_none h] at he; cases he
  rcases h.2 with ⟨_, h0⟩ | ⟨g, cap, cur, hv, hb, hh, h5, h6, h7, h8⟩
  · omega
  have hlt : g < w.heap.size := by
    rcases Nat.lt_or_ge g w.heap.size with h | h
    · exact h
    · rw [Array.getElem?_eq_none h] at hh; cases hh
  have hcell : ∀ j, j < E.length * 3 → w.cell? ⟨g, j, none⟩ = (evs E)[j]? := fun j hj => by
    have e1 : cur[j]? = (evs E)[j]? := by rw [← h8, List.getElem?_take, if_pos hj]; simp
    simp [World.cell?, hh, e1]
  obtain ⟨e1, e2, e3⟩ := evs_at E i e he
  exact ⟨g, cap, hv, hlt, hi, by rw [hcell _ (by omega), e1], by rw [hcell _ (by omega), e2], by rw [hcell _ (by omega), e3]⟩

/-- P7: the log from a number on, in a list of its own. -/
def LgP (E : List Ev) (x : Int) (w : World) (e : Ending) (w' : World) : Prop := ∃ v, e = .returned v ∧ w'.ownsRow w.heap.size 103 3 v (E.drop x.toNat).length (evs (E.drop x.toNat)) ∧ Below w.heap.size w w'

theorem own_none (w : World) (base : Nat) (t : TypeId) : w.ownsRow base t 3 (.slice none 0 0) 0 [] := ⟨rfl, Or.inl ⟨rfl, rfl⟩⟩

theorem own_len {w : World} {base : Nat} {e : TypeId} {size : Nat} {v : Value} {n : Nat} {xs : List Value} (h : w.ownsRow base e size v n xs) : ∃ a cap, v = .slice a n cap := by
  rcases h.2 with ⟨rfl, rfl⟩ | ⟨g, cap, cur, hv, _⟩
  · exact ⟨_, _, rfl⟩
  · exact ⟨_, _, hv⟩

set_option maxRecDepth 100000 in
set_option maxHeartbeats 2000000 in
theorem dLog_any {Q : Nat → Prop} {f : Frm} {p : Pl} {m : Cs} {vE : Value} {w : World} (x : Int) (hS : DAt Q f p m vE w) (hE : m.E.length ≤ 1000000000000) :
    Calls Tryz.prog 82 #[.pointer (some ⟨p.bw, 0, none⟩), .int .i64 x] w fun e w' => LgP m.E x w e w' := by
  obtain ⟨i, hi, hz⟩ := Option.map_eq_some_iff.1 info101
  simp only [Prod.mk.injEq] at hz
  obtain ⟨hz0, hz1, hz2⟩ := hz
  have HI := hid hi
  have HZ0 := hid hz0
  have HZ1 := hid hz1
  have HZ2 := hid hz2
  clear hi hz0 hz1 hz2
  have HS := hid (show DSt Q f p m.F m.T m.op m.S vE m.E w from hS)
  have B0 := hid (Below.refl w.heap.size w)
  have N0 : Hid (w.ownsRow w.heap.size 103 3 (.slice none 0 0) 0 (evs ((m.E.drop x.toNat).take 0))) := own_none _ _ _
  clear hS
  have KEY : ∃ a : Nat, a = x.toNat ∧ ((x < 0 ∧ a = 0) ∨ x = a) := ⟨_, rfl, by omega⟩
  obtain ⟨a, ha, hx⟩ := KEY
  rw [← ha] at N0
  have HD : Hid (∀ v W, W.ownsRow w.heap.size 103 3 v (m.E.drop a).length (evs (m.E.drop a)) → Below w.heap.size w W → LgP m.E x w (.returned v) W) := fun v W h1 h2 => ⟨v, rfl, by rw [← ha]; exact h1, h2⟩
  have DL : Hid ((m.E.drop a).length = m.E.length - a) := by show _ = _; simp
  clear ha
  have hx' : (x < 0 ∧ Hid (a = 0)) ∨ x = a := hx
  clear hx
  rcases hx' with ⟨x0, a0⟩ | rfl
  all_goals (
    go_enter Tryz.func82, Tryz.ntmps82
    go_wp2
    go_loopw [5, 6] (fun tv ti wr => ∃ (j q : Nat) (v : Value), j ≤ (m.E.drop a).length ∧ q = a + j ∧ ti = .int .i64 (q : Int) ∧ v = tv ∧ Hid (wr.ownsRow w.heap.size 103 3 v j (evs ((m.E.drop a).take j))) ∧ Hid (DSt Q f p m.F m.T m.op m.S vE m.E wr) ∧ Hid (Below w.heap.size w wr)) (fun _ ti _ => m.E.length - (intOf ti).toNat)
    case atStart => exact ⟨0, a, .slice none 0 0, by omega, by omega, by first | rfl | (rw [a0.out]; rfl), rfl, N0, HS, B0⟩
    case round =>
      clear N0 B0
      obtain ⟨j, q, v, j1, hq0, rfl, rfl, hv, hs, hb⟩ := hrel
      have HQ := hid hq0
      have bq := DL.out
      have jE : q < m.E.length ↔ j < (m.E.drop a).length := by omega
      have jF : j ≤ 1000000000000 := by omega
      clear bq hq0
      have r8 := hs.out.row.cell (i := 8) (by omega)
      simp [wf] at r8
      have zb := hs.out.row.lt
      by_cases hj : j < (m.E.drop a).length
      · obtain ⟨ee, he⟩ : ∃ ee, m.E[q]? = some ee := ⟨m.E[q]'(jE.2 hj), List.getElem?_eq_getElem (jE.2 hj)⟩
        obtain ⟨g, cap, rfl, hg, hi, y0, y1, y2⟩ := own_evs hs.out.ev he
        have TK : Hid ((m.E.drop a).take (j + 1) = (m.E.drop a).take j ++ [ee]) := by
          show _ = _
          rw [List.take_succ_eq_append_getElem hj]
          congr 2
          have : (m.E.drop a)[j]? = some ee := by rw [List.getElem?_drop, ← HQ.out]; exact he
          rw [List.getElem?_eq_getElem hj] at this
          simpa using this
        have lt' : (q : Int) < (m.E.length : Int) := by omega
        have jG : j < 1000000000000 := by have := DL.out; omega
        clear he jE
        go_wp2_with (at_builtin; refine wpList_append_lies _ rfl (.tmp 19) (.tmp 27) 63 rfl w.heap.size 103 i _ 3 24 Tryz.underlying63 HI.out HZ0.out HZ1.out HZ2.out rfl (by omega) v j (evs ((m.E.drop a).take j)) (by rfl) (own_alloc0 hv.out _) ⟨wr.heap.size, 0, none⟩ 1 1 [.int .i64 ee.t, .int .i64 ee.r, .int .i64 ee.l] (by rfl) (by rfl) (news3' _ _ _ _ _) (by simp [Value.oneCell']) (by omega) (by unfold maxLen; omega) (by omega) (by have := hb.out.size; simp; omega) (wr.heap.size + 1) (by simp) ?_; intro g2 cap2 w4 hown2 hgrow hat hlt; refine stopH ?_)
        have hbb := hb.out.size
        have hr : ∀ g, v.ownBlock = some g → w.heap.size ≤ g := fun g h => own_base hv.out h
        have C1 := hid (grow_below0 hgrow hbb hr)
        have C3 : Hid (w4.ownsRow w.heap.size 103 3 (.slice (some ⟨g2, 0, none⟩) (j + 1) cap2) (j + 1) (evs ((m.E.drop a).take (j + 1)))) := by
          show World.ownsRow _ _ _ _ _ _ _
          rw [TK.out, evs_snoc]
          exact hown2
        have C4 : Hid (Below w.heap.size w w4) := hb.out.trans C1.out
        have C2 := hid (HS.out.drop C4.out)
        clear hown2 hgrow hat hlt hr C1
        refine hid ?_
        go_wp2
        go_roundw
        case rel => exact ⟨j + 1, q + 1, _, by omega, by have := HQ.out; omega, by go_num, rfl, C3, C2, C4⟩
        case measure => simp [intOf]; omega
      · have e : j = (m.E.drop a).length := by omega
        have R : Hid (LgP m.E _ w (.returned v) wr) := HD.out v wr (by have := hv.out; rw [e, List.take_length] at this; exact this) hb.out
        obtain ⟨ae, ce, rfl⟩ := own_len hs.out.ev
        have ge : ¬ ((q : Int) < (m.E.length : Int)) := by have := DL.out; have := HQ.out; omega
        clear e jE
        go_wp2
        go_ret
        exact R.out)

end Go.Proofs.YtcondcffllaaoaaGreatDoor
