/-
  THE WALKS: the code's reader of texts: the calendar.
-/
import Derived.Test.YtmofidaojmiepaaGreatDoorGY5
set_option linter.unusedVariables false
set_option linter.unusedSimpArgs false
namespace Go.Proofs.YtmofidaojmiepaaGreatDoor

open Go.RowKit

open Go.Lib (itoa decDigits nDigits)

attribute [local go_sem ↓] Go.wp_at_zero Go.wp_at_succ

/-- What calendar leaves. -/
def CaP (br : Nat) (s : ByteArray) (k : Nat) (w : World) (e : Ending) (w' : World) : Prop :=
  (∃ (g : Int) (a : Option Addr) (c : Nat) (l : List Int) (k' : Nat), e = .returned (.tuple #[.agg #[.slice none 0 0, .slice none 0 0, .int .i64 g, .slice a l.length c], .bool true]) ∧ rest s k = 119 :: (numsT (g :: l) ++ 10 :: rest s k') ∧ (∀ x ∈ g :: l, N10 x) ∧ w'.ownsRow w.heap.size 3 1 (.slice a l.length c) l.length (ints l) ∧ Rd br s k' w' ∧ Chg (· = br) w w') ∨
  (∃ (g : Int) (k' : Nat), e = .returned (.tuple #[.agg #[.slice none 0 0, .slice none 0 0, .int .i64 g, .slice none 0 0], .bool false]) ∧ ((k' = k ∧ Not 119 (rest s k)) ∨ ∃ r, rest s k = 119 :: r ∧ LineNo r (rest s k')) ∧ Rd br s k' w' ∧ Chg (· = br) w w')

theorem put4 {br k : Nat} {s : ByteArray} {w W : World} (hr : Rd br s k W) (hc : Chg (· = br) w W) (zb : br < w.heap.size) (a b c d : Value) :
    Rd br s k ((((W.setCell ⟨w.heap.size, 0, none⟩ a).setCell ⟨w.heap.size, 1, none⟩ b).setCell ⟨w.heap.size, 2, none⟩ c).setCell ⟨w.heap.size, 3, none⟩ d) ∧ Chg (· = br) w ((((W.setCell ⟨w.heap.size, 0, none⟩ a).setCell ⟨w.heap.size, 1, none⟩ b).setCell ⟨w.heap.size, 2, none⟩ c).setCell ⟨w.heap.size, 3, none⟩ d) := by
  refine ⟨(((hr.far (by omega) _ _).far (by omega) _ _).far (by omega) _ _).far (by omega) _ _, hc.trans (Y := fun j => w.heap.size ≤ j) ?_ (fun j hj hx => by omega)⟩
  exact ((((Chg.of (X := fun j => w.heap.size ≤ j) (Below.refl _ _)).setCell _ _ (Nat.le_refl _)).setCell _ _ (Nat.le_refl _)).setCell _ _ (Nat.le_refl _)).setCell _ _ (Nat.le_refl _)

set_option maxRecDepth 100000 in
set_option maxHeartbeats 2000000 in
theorem calendar_any {br k : Nat} {s : ByteArray} {w : World} (h : Rd br s k w) :
    Calls Tryz.prog 60 #[.pointer (some ⟨br, 0, none⟩)] w fun e w' => CaP br s k w e w' := by
  have zb := h.row.lt
  have B0 : Below w.heap.size w (w.alloc (.cells #[.slice none 0 0, .slice none 0 0, .int .i64 0, .slice none 0 0] 26)) := (Below.refl _ _).alloc (Nat.le_refl _) _
  have RD0 := hid (h.keep B0)
  have CH0 : Hid (Chg (· = br) w (w.alloc (.cells #[.slice none 0 0, .slice none 0 0, .int .i64 0, .slice none 0 0] 26))) := Chg.of B0
  have RW0 : Hid ((w.alloc (.cells #[.slice none 0 0, .slice none 0 0, .int .i64 0, .slice none 0 0] 26)).rowIs w.heap.size 26 4 (fun j => if j = 2 then .int .i64 0 else .slice none 0 0)) := World.rowIs_alloc w #[.slice none 0 0, .slice none 0 0, .int .i64 0, .slice none 0 0] 26 _ (fun i hi => by
    have : i = 0 ∨ i = 1 ∨ i = 2 ∨ i = 3 := by simp at hi; omega
    rcases this with rfl | rfl | rfl | rfl <;> rfl)
  have TK := hid (take_any RD0.out 119 119 (by decide))
  clear h B0
  go_enter Tryz.func60, Tryz.ntmps60
  go_wp2_with fail
  refine TK.out.mono ?_
  rintro e wt (⟨kt, rfl, rd, ch, hkt, hrt⟩ | ⟨rfl, rd, ch, hrt⟩)
  · clear hkt
    have RWt := hid (RW0.out.of_block (ch.block _ RW0.out.lt (by omega)))
    have CHt : Hid (Chg (· = br) w wt) := CH0.out.trans ch (fun _ _ x => x)
    have HRT := hid hrt
    have NM := hid (number_any rd)
    clear rd ch hrt TK RD0 CH0 RW0
    go_wp2_with fail
    refine NM.out.mono ?_
    rintro e w1 (⟨n, k1, rfl, ok, rd, ch⟩ | ⟨n, k1, rfl, no, rd, ch⟩)
    · have RW1 := hid (RWt.out.of_block (ch.block _ RWt.out.lt (by omega)))
      have CH1 : Hid (Chg (· = br) w w1) := CHt.out.trans ch (fun _ _ x => x)
      have OK := hid ok
      have NS := hid (numbers_any rd)
      clear ok rd ch NM CHt RWt
      go_wp2_with fail
      refine NS.out.mono ?_
      rintro e w2 (⟨v, l, k2, rfl, hr, few, own, rd, ch⟩ | ⟨l, r1, k2, rfl, hr, few, mu, n10, no, rd, ch⟩)
      · obtain ⟨a, c, rfl⟩ := own_len own
        have zw1 := RW1.out.lt
        have row2 := RW1.out.of_block (ch.block _ zw1 (by omega))
        have z0 : w2.cell? ⟨w.heap.size, 0, none⟩ = some (.slice none 0 0) := row2.cell (i := 0) (by omega)
        have z1 : w2.cell? ⟨w.heap.size, 1, none⟩ = some (.slice none 0 0) := row2.cell (i := 1) (by omega)
        have z2 : w2.cell? ⟨w.heap.size, 2, none⟩ = some (.int .i64 0) := row2.cell (i := 2) (by omega)
        have z3 : w2.cell? ⟨w.heap.size, 3, none⟩ = some (.slice none 0 0) := row2.cell (i := 3) (by omega)
        have fz : ∀ j, w2.frozen? ⟨w.heap.size, j, none⟩ = false := fun j => row2.frozen j
        have zz := row2.lt
        have R : Hid (CaP br s k w (.returned (.tuple #[.agg #[.slice none 0 0, .slice none 0 0, .int .i64 n, .slice a l.length c], .bool true])) ((((w2.setCell ⟨w.heap.size, 0, none⟩ (.slice none 0 0)).setCell ⟨w.heap.size, 1, none⟩ (.slice none 0 0)).setCell ⟨w.heap.size, 2, none⟩ (.int .i64 n)).setCell ⟨w.heap.size, 3, none⟩ (.slice a l.length c))) := by
          obtain ⟨p1, p2⟩ := put4 rd (CH1.out.trans ch (fun _ _ x => x)) zb (.slice none 0 0) (.slice none 0 0) (.int .i64 n) (.slice a l.length c)
          have nb := own_not own zw1
          refine Or.inl ⟨n, a, c, l, k2, rfl, ?_, ?_, own_monoY (ownsRow_setCell_other (ownsRow_setCell_other (ownsRow_setCell_other (ownsRow_setCell_other own nb _) nb _) nb _) nb _) (by omega), p1, p2⟩
          · rw [HRT.out, OK.out.eq, hr, numsT_cons]; simp
          · intro x hx
            rcases List.mem_cons.1 hx with rfl | hx
            · exact OK.out.few
            · exact few x hx
        clear row2 own few hr rd ch NS RW1 CH1 OK HRT
        go_wp2
        exact bodyPost_ret (v := .tuple #[.agg #[.slice none 0 0, .slice none 0 0, .int .i64 n, .slice a l.length c], .bool true]) (by simp [results, Tryz.results60, go_sem, *]) rfl R.out
      · have zw1 := RW1.out.lt
        have row2 := RW1.out.of_block (ch.block _ zw1 (by omega))
        have z0 : w2.cell? ⟨w.heap.size, 0, none⟩ = some (.slice none 0 0) := row2.cell (i := 0) (by omega)
        have z1 : w2.cell? ⟨w.heap.size, 1, none⟩ = some (.slice none 0 0) := row2.cell (i := 1) (by omega)
        have z2 : w2.cell? ⟨w.heap.size, 2, none⟩ = some (.int .i64 0) := row2.cell (i := 2) (by omega)
        have z3 : w2.cell? ⟨w.heap.size, 3, none⟩ = some (.slice none 0 0) := row2.cell (i := 3) (by omega)
        have fz : ∀ j, w2.frozen? ⟨w.heap.size, j, none⟩ = false := fun j => row2.frozen j
        have zz := row2.lt
        have R : Hid (CaP br s k w (.returned (.tuple #[.agg #[.slice none 0 0, .slice none 0 0, .int .i64 n, .slice none 0 0], .bool false])) ((((w2.setCell ⟨w.heap.size, 0, none⟩ (.slice none 0 0)).setCell ⟨w.heap.size, 1, none⟩ (.slice none 0 0)).setCell ⟨w.heap.size, 2, none⟩ (.int .i64 n)).setCell ⟨w.heap.size, 3, none⟩ (.slice none 0 0))) := by
          obtain ⟨p1, p2⟩ := put4 rd (CH1.out.trans ch (fun _ _ x => x)) zb (.slice none 0 0) (.slice none 0 0) (.int .i64 n) (.slice none 0 0)
          exact Or.inr ⟨n, k2, rfl, Or.inr ⟨_, HRT.out, line_no OK.out hr few mu n10 no⟩, p1, p2⟩
        clear row2 few hr mu n10 no rd ch NS RW1 CH1 OK HRT
        go_wp2
        exact bodyPost_ret (v := .tuple #[.agg #[.slice none 0 0, .slice none 0 0, .int .i64 n, .slice none 0 0], .bool false]) (by simp [results, Tryz.results60, go_sem, *]) rfl R.out
    · have row2 := RWt.out.of_block (ch.block _ RWt.out.lt (by omega))
      have z0 : w1.cell? ⟨w.heap.size, 0, none⟩ = some (.slice none 0 0) := row2.cell (i := 0) (by omega)
      have z1 : w1.cell? ⟨w.heap.size, 1, none⟩ = some (.slice none 0 0) := row2.cell (i := 1) (by omega)
      have z2 : w1.cell? ⟨w.heap.size, 2, none⟩ = some (.int .i64 0) := row2.cell (i := 2) (by omega)
      have z3 : w1.cell? ⟨w.heap.size, 3, none⟩ = some (.slice none 0 0) := row2.cell (i := 3) (by omega)
      have fz : ∀ j, w1.frozen? ⟨w.heap.size, j, none⟩ = false := fun j => row2.frozen j
      have zz := row2.lt
      have R : Hid (CaP br s k w (.returned (.tuple #[.agg #[.slice none 0 0, .slice none 0 0, .int .i64 0, .slice none 0 0], .bool false])) ((((w1.setCell ⟨w.heap.size, 0, none⟩ (.slice none 0 0)).setCell ⟨w.heap.size, 1, none⟩ (.slice none 0 0)).setCell ⟨w.heap.size, 2, none⟩ (.int .i64 0)).setCell ⟨w.heap.size, 3, none⟩ (.slice none 0 0))) := by
        obtain ⟨p1, p2⟩ := put4 rd (CHt.out.trans ch (fun _ _ x => x)) zb (.slice none 0 0) (.slice none 0 0) (.int .i64 0) (.slice none 0 0)
        exact Or.inr ⟨0, k1, rfl, Or.inr ⟨_, HRT.out, [], _, rfl, fun x hx => by simp at hx, mu_nil _, fun h => absurd rfl h, no⟩, p1, p2⟩
      clear row2 no rd ch NM CHt RWt HRT
      go_wp2
      exact bodyPost_ret (v := .tuple #[.agg #[.slice none 0 0, .slice none 0 0, .int .i64 0, .slice none 0 0], .bool false]) (by simp [results, Tryz.results60, go_sem, *]) rfl R.out
  · have row2 := RW0.out.of_block (ch.block _ RW0.out.lt (by omega))
    have z0 : wt.cell? ⟨w.heap.size, 0, none⟩ = some (.slice none 0 0) := row2.cell (i := 0) (by omega)
    have z1 : wt.cell? ⟨w.heap.size, 1, none⟩ = some (.slice none 0 0) := row2.cell (i := 1) (by omega)
    have z2 : wt.cell? ⟨w.heap.size, 2, none⟩ = some (.int .i64 0) := row2.cell (i := 2) (by omega)
    have z3 : wt.cell? ⟨w.heap.size, 3, none⟩ = some (.slice none 0 0) := row2.cell (i := 3) (by omega)
    have fz : ∀ j, wt.frozen? ⟨w.heap.size, j, none⟩ = false := fun j => row2.frozen j
    have zz := row2.lt
    have R : Hid (CaP br s k w (.returned (.tuple #[.agg #[.slice none 0 0, .slice none 0 0, .int .i64 0, .slice none 0 0], .bool false])) ((((wt.setCell ⟨w.heap.size, 0, none⟩ (.slice none 0 0)).setCell ⟨w.heap.size, 1, none⟩ (.slice none 0 0)).setCell ⟨w.heap.size, 2, none⟩ (.int .i64 0)).setCell ⟨w.heap.size, 3, none⟩ (.slice none 0 0))) := by
      obtain ⟨p1, p2⟩ := put4 rd (CH0.out.trans ch (fun _ _ x => x)) zb (.slice none 0 0) (.slice none 0 0) (.int .i64 0) (.slice none 0 0)
      exact Or.inr ⟨0, k, rfl, Or.inl ⟨rfl, hrt⟩, p1, p2⟩
    clear row2 hrt rd ch TK RD0 CH0 RW0
    go_wp2
    exact bodyPost_ret (v := .tuple #[.agg #[.slice none 0 0, .slice none 0 0, .int .i64 0, .slice none 0 0], .bool false]) (by simp [results, Tryz.results60, go_sem, *]) rfl R.out

end Go.Proofs.YtmofidaojmiepaaGreatDoor

/-
  THE WALKS: the code's kinds: which bear a K.
-/
set_option linter.unusedVariables false
set_option linter.unusedSimpArgs false
namespace Go.Proofs.YtmofidaojmiepaaGreatDoor

open Go.RowKit

open Go.Lib (itoa decDigits nDigits)

attribute [local go_sem ↓] Go.wp_at_zero Go.wp_at_succ

theorem Tab.chg {br : Nat} {w w' : World} (h : Tab w) (hb : 0 < br) (hc : Chg (· = br) w w') : Tab w' := by
  refine ⟨by have := hc.size; have := h.1; omega, fun i hi => ?_⟩
  have := h.2 i hi
  have e : w'.heap[0]? = w.heap[0]? := hc.block 0 h.1 (by omega)
  unfold World.cell? at this ⊢
  rw [e]
  exact this

theorem need_want {kd : Nat} (h : kd ≤ 12) : need0 (kd : Int) = needsN kd := by
  unfold need0 needsN M.needs
  rw [if_pos (by omega)]

set_option maxRecDepth 100000 in
set_option maxHeartbeats 1000000 in
theorem hask_any (k : Int) (w : World) : Calls Tryz.prog 59 #[.int .i64 k] w fun e w' => e = .returned (.bool (hasKB k)) ∧ w' = w := by
  by_cases h0 : k = 0
  · subst h0
    go_enter Tryz.func59, Tryz.ntmps59
    go_wp2
    go_ret
    exact ⟨rfl, rfl⟩
  by_cases h1 : k = 1
  · subst h1
    go_enter Tryz.func59, Tryz.ntmps59
    go_wp2
    go_ret
    exact ⟨rfl, rfl⟩
  by_cases h2 : k = 11
  · subst h2
    go_enter Tryz.func59, Tryz.ntmps59
    go_wp2
    go_ret
    exact ⟨rfl, rfl⟩
  by_cases h3 : k = 12
  · subst h3
    go_enter Tryz.func59, Tryz.ntmps59
    go_wp2
    go_ret
    exact ⟨rfl, rfl⟩
  · have e : hasKB k = false := decide_eq_false (by omega)
    rw [e]
    have d0 : (k == 0) = false := beq_eq_false_iff_ne.2 h0
    have d1 : (k == 1) = false := beq_eq_false_iff_ne.2 h1
    have d2 : (k == 11) = false := beq_eq_false_iff_ne.2 h2
    have d3 : (k == 12) = false := beq_eq_false_iff_ne.2 h3
    clear e h0 h1 h2 h3
    go_enter Tryz.func59, Tryz.ntmps59
    go_wp2
    go_ret
    exact ⟨rfl, rfl⟩

end Go.Proofs.YtmofidaojmiepaaGreatDoor
