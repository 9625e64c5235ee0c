/-
  THE LAW: two forms that are the same.
-/
import Derived.Test.YtcondcffllaaoaaDoorGH3
import Derived.Test.YtcondcffllaaoaaDoorGR10
set_option linter.unusedVariables false
set_option linter.unusedSimpArgs false
namespace Go.Proofs.YtcondcffllaaoaaDoor
open Go.RowKit
attribute [local go_sem ↓] Go.wp_at_zero Go.wp_at_succ
attribute [local go_sem] eq76

def Drew (w w' : World) : Prop := ∃ m, w' = w.drewN m
theorem Drew.more {w w' : World} (h : Drew w w') (n : Nat) : Drew w (w'.drewN n) := by
  obtain ⟨m, rfl⟩ := h
  exact ⟨m + n, by rw [World.drewN_drewN]⟩
theorem Drew.below {w w' : World} (h : Drew w w') : Below w.heap.size w w' := by
  obtain ⟨m, rfl⟩ := h
  exact below_drewN (Below.refl _ _) m

set_option maxHeartbeats 1000000 in
theorem sameInts_any (l : List Int) (a a' : Option Addr) (c c' : Nat) (w : World) (hl : l.length ≤ 1000000000) (h : IntsAt w (.slice a l.length c) l) (h' : IntsAt w (.slice a' l.length c') l) :
    Calls Tryd.prog 27 #[.slice a l.length c, .slice a' l.length c'] w fun e w' => e = .returned (.bool true) ∧ ∃ m, w' = w.drewN m := by
  have HA := hid h
  have HB := hid h'
  have D0 : Hid (Drew w w) := ⟨0, rfl⟩
  have t0 : ((l.length : Int) != (l.length : Int)) = false := by simp
  clear h h'
  go_enter Tryd.func27, Tryd.ntmps27
  go_wp2
  go_loopw [5] (fun t wr => ∃ i : Nat, i ≤ l.length ∧ t = .int .i64 i ∧ Hid (Drew w wr)) (fun t _ => l.length - (intOf t).toNat)
  case atStart => exact ⟨0, by omega, rfl, D0⟩
  case round =>
    obtain ⟨i, i1, rfl, hd⟩ := hrel
    by_cases hit : i < l.length
    · rcases IntsAt.cases (SlAt.below HA.out hd.out.below (Nat.le_refl _)) with h0 | ⟨b, o, ea, hb, hc⟩
      · omega
      rcases IntsAt.cases (SlAt.below HB.out hd.out.below (Nat.le_refl _)) with h0 | ⟨b', o', ea', hb', hc'⟩
      · omega
      subst ea ea'
      have x0 := hc i hit
      have y0 := hc' i hit
      generalize l.getD i 0 = x at *
      have t1 : (x != x) = false := by simp
      clear hc hc'
      go_wp2
      go_quiet (fail)
      go_wp2
      go_roundw
      case rel => exact ⟨i + 1, by omega, by go_num, hd.out.more _⟩
      case measure => simp [intOf]; omega
    · go_wp2
      go_ret
      exact ⟨rfl, hd.out⟩

set_option maxRecDepth 100000 in
set_option maxHeartbeats 2000000 in
theorem sameForm_any (f : Frm) (aC aR aH aC' aR' aH' : Option Addr) (cC cR cH cC' cR' cH' : Nat) (w : World) (hn : f.n ≤ 1000000000) (hk : f.k ≤ 1000000000) (hh : f.hol.length ≤ 1000000000)
    (h1 : CAt w aC f.n f.C) (h2 : RAt w aR f.k f.R) (h3 : IntsAt w (.slice aH f.hol.length cH) f.hol) (h1' : CAt w aC' f.n f.C) (h2' : RAt w aR' f.k f.R) (h3' : IntsAt w (.slice aH' f.hol.length cH') f.hol) :
    Calls Tryd.prog 13 #[.agg #[.slice aC f.n cC, .slice aR f.k cR, .int .i64 f.week, .slice aH f.hol.length cH], .agg #[.slice aC' f.n cC', .slice aR' f.k cR', .int .i64 f.week, .slice aH' f.hol.length cH']] w fun e w' => e = .returned (.bool true) ∧ Below w.heap.size w w' := by
  have H1 := hid h1
  have H2 := hid h2
  have H3 := hid h3
  have K1 := hid h1'
  have K2 := hid h2'
  have K3 := hid h3'
  clear h1 h2 h3 h1' h2' h3'
  have t0 : (f.week != f.week) = false := by simp
  have t1 : ((f.n : Int) != (f.n : Int)) = false := by simp
  have t2 : ((f.k : Int) != (f.k : Int)) = false := by simp
  have hm := m76
  go_enter Tryd.func13, Tryd.ntmps13
  go_wp2
  go_loopw [5] (fun t wr => ∃ i : Nat, i ≤ f.n ∧ t = .int .i64 i ∧ Hid (Below (w.heap.size + 1 + 1) ((w.alloc (.cells #[.slice aC f.n cC, .slice aR f.k cR, .int .i64 f.week, .slice aH f.hol.length cH] 26)).alloc (.cells #[.slice aC' f.n cC', .slice aR' f.k cR', .int .i64 f.week, .slice aH' f.hol.length cH'] 26)) wr)) (fun t _ => f.n - (intOf t).toNat)
  case atStart => exact ⟨0, by omega, rfl, Below.refl _ _⟩
  case round =>
    obtain ⟨i, i1, rfl, hb⟩ := hrel
    have hbw := hid (two_boxes_below hb.out)
    have f0 := two_boxes hb.out 0
    simp at f0
    obtain ⟨f0, g0⟩ := f0
    by_cases hit : i < f.n
    · rcases H1.out with h0 | ⟨bC, oC, ea, hbC, hcc⟩
      · omega
      rcases K1.out with h0 | ⟨bC', oC', ea', hbC', hcc'⟩
      · omega
      subst ea ea'
      obtain ⟨u0, u1, u2, u3, u4⟩ := (hcc i hit).below hbw.out hbC
      obtain ⟨v0, v1, v2, v3, v4⟩ := (hcc' i hit).below hbw.out hbC'
      clear hcc hcc'
      rcases hC : f.C i with ⟨kd, ca, cb, cc, ck⟩
      rw [hC] at u0 u1 u2 u3 u4 v0 v1 v2 v3 v4
      simp only at u0 u1 u2 u3 u4 v0 v1 v2 v3 v4
      clear hC
      have lt2 : (i : Int) < (f.n : Int) := by omega
      have lt3 : (0 : Int) ≤ (i : Int) := by omega
      go_wp2
      go_quiet (fail)
      go_wp2
      go_roundw
      case rel => exact ⟨i + 1, by omega, by go_num, below_drewN hb.out _⟩
      case measure => simp [intOf]; omega
    · obtain rfl : i = f.n := by omega
      generalize wr = wo at *
      go_wp2
      go_loopw [6] (fun t wr => ∃ y : Nat, y ≤ f.k ∧ t = .int .i64 y ∧ Hid (Below (w.heap.size + 1 + 1) ((w.alloc (.cells #[.slice aC f.n cC, .slice aR f.k cR, .int .i64 f.week, .slice aH f.hol.length cH] 26)).alloc (.cells #[.slice aC' f.n cC', .slice aR' f.k cR', .int .i64 f.week, .slice aH' f.hol.length cH'] 26)) wr)) (fun t _ => f.k - (intOf t).toNat)
      case atStart => exact ⟨0, by omega, rfl, hb⟩
      case round =>
        clear hb hbw f0 g0 i1 hit
        obtain ⟨y, y1, rfl, hb⟩ := hrel
        have hbw := hid (two_boxes_below hb.out)
        have f1 := two_boxes hb.out 1
        simp at f1
        obtain ⟨f1, g1⟩ := f1
        by_cases hyt : y < f.k
        · rcases H2.out with h0 | ⟨bR, oR, ea, hbR, hrr⟩
          · omega
          rcases K2.out with h0 | ⟨bR', oR', ea', hbR', hrr'⟩
          · omega
          subst ea ea'
          obtain ⟨u0, ast, caps, u1, u2, u3⟩ := (hrr y hyt).below hbw.out hbR (Nat.le_refl _)
          obtain ⟨v0, ast', caps', v1, v2, v3⟩ := (hrr' y hyt).below hbw.out hbR' (Nat.le_refl _)
          have HU2 := hid u2
          have HV2 := hid v2
          clear u2 v2 hrr hrr'
          have lt2 : (y : Int) < (f.k : Int) := by omega
          have lt3 : (0 : Int) ≤ (y : Int) := by omega
          have t3 : ((f.R y).guard != (f.R y).guard) = false := by simp
          have QC : Hid (∀ q, Calls Tryd.prog 27 #[.slice ast (f.R y).steps.length caps, .slice ast' (f.R y).steps.length caps'] (wr.drewN q) fun e w' => e = .returned (.bool true) ∧ ∃ m, w' = (wr.drewN q).drewN m) := fun q => sameInts_any (f.R y).steps ast ast' caps caps' (wr.drewN q) u3 (SlAt.below HU2.out (below_drewN (Below.refl _ _) q) (Nat.le_refl _)) (SlAt.below HV2.out (below_drewN (Below.refl _ _) q) (Nat.le_refl _))
          go_wp2
          go_quiet ((go_at_call 27; exact Calls.quiet_of (QC.out _)))
          go_wp2
          go_quiet (fail)
          go_wp2
          go_roundw
          case rel => exact ⟨y + 1, by omega, by go_num, below_drewN hb.out _⟩
          case measure => simp [intOf]; omega
        · have e3 := two_boxes hb.out 3
          simp at e3
          obtain ⟨e3, f3⟩ := e3
          go_wp2_with fail
          refine (sameInts_any f.hol aH aH' cH cH' _ hh (SlAt.below H3.out hbw.out (Nat.le_refl _)) (SlAt.below K3.out hbw.out (Nat.le_refl _))).mono ?_
          rintro e w1 ⟨rfl, m, rfl⟩
          go_wp2
          go_ret
          exact ⟨rfl, below_drewN hbw.out _⟩

end Go.Proofs.YtcondcffllaaoaaDoor

/-
  THE LAW: the owner writes over the lists of a form that came out.
-/
set_option linter.unusedVariables false
set_option linter.unusedSimpArgs false
namespace Go.Proofs.YtcondcffllaaoaaDoor
open Go.RowKit
attribute [local go_sem ↓] Go.wp_at_zero Go.wp_at_succ

/-- A list of numbers that has room of its own. -/
def RowV (v : Value) (w : World) : Prop := v = .slice none 0 0 ∨ ∃ g m cap F, v = .slice (some ⟨g, 0, none⟩) m cap ∧ m ≤ cap ∧ cap ≤ maxLen ∧ w.rowIs g 3 cap F
/-- A number stands in all of it. -/
def FilV (v : Value) (x : Int) (w : World) : Prop := v = .slice none 0 0 ∨ ∃ g m cap, v = .slice (some ⟨g, 0, none⟩) m cap ∧ m ≤ cap ∧ cap ≤ maxLen ∧ w.rowIs g 3 cap (fun _ => .int .i64 x)

theorem own_rowT {w : World} {B g m cap size : Nat} {e : TypeId} {xs : List Value} (h : w.ownsRow B e size (.slice (some ⟨g, 0, none⟩) m cap) m xs) : ∃ F, w.rowIs g e (cap * size) F ∧ m ≤ cap ∧ cap ≤ maxLen := by
  rcases h.2 with ⟨e, _⟩ | ⟨g', cap', cur, e1, a1, a2, a3, a4, a5, a6⟩
  · cases e
  · simp at e1
    obtain ⟨rfl, rfl⟩ := e1
    exact ⟨fun j => cur.getD j (.bool false), ⟨cur, a2, a5, fun j hj => by show cur[j]? = some (cur.getD j (.bool false)); simp [Array.getD, show j < cur.size by omega]⟩, a3, a4⟩
theorem own_rowV {w : World} {B m : Nat} {v : Value} {xs : List Value} (h : w.ownsRow B 3 1 v m xs) : RowV v w := by
  rcases h.2 with ⟨e, _⟩ | ⟨g, cap, cur, e1, _⟩
  · exact Or.inl e
  · subst e1
    obtain ⟨F, r, h1, h2⟩ := own_rowT h
    exact Or.inr ⟨g, m, cap, F, rfl, h1, h2, by simpa using r⟩
theorem RowV.keep {v : Value} {w w' : World} (h : RowV v w) (hb : ∀ g, v.ownBlock = some g → w'.heap[g]? = w.heap[g]?) : RowV v w' := by
  rcases h with h | ⟨g, m, cap, F, rfl, h1, h2, r⟩
  · exact Or.inl h
  · exact Or.inr ⟨g, m, cap, F, rfl, h1, h2, r.of_block (hb g rfl)⟩
theorem FilV.keep {v : Value} {x : Int} {w w' : World} (h : FilV v x w) (hb : ∀ g, v.ownBlock = some g → w'.heap[g]? = w.heap[g]?) : FilV v x w' := by
  rcases h with h | ⟨g, m, cap, rfl, h1, h2, r⟩
  · exact Or.inl h
  · exact Or.inr ⟨g, m, cap, rfl, h1, h2, r.of_block (hb g rfl)⟩

/-- What fill leaves. -/
def FiP (v : Value) (x : Int) (w : World) (e : Ending) (w' : World) : Prop := e = .returned (.tuple #[]) ∧ FilV v x w' ∧ Chg (fun b => v.ownBlock = some b) w w'

set_option maxRecDepth 100000 in
set_option maxHeartbeats 1000000 in
theorem fill_any {v : Value} {w : World} (h : RowV v w) (x : Int) : Calls Tryd.prog 28 #[v, .int .i64 x] w fun e w' => FiP v x w e w' := by
  rcases h with rfl | ⟨g, m, cap, F, rfl, h1, h2, r⟩
  · have R : Hid (FiP (.slice none 0 0) x w (.returned (.tuple #[])) w) := ⟨rfl, Or.inl rfl, Chg.refl _ _⟩
    go_enter Tryd.func28, Tryd.ntmps28
    go_wp2
    go_loopw [4] (fun t wr => t = .int .i64 0 ∧ wr = w) (fun _ _ => 0)
    case atStart => exact ⟨rfl, rfl⟩
    case round =>
      obtain ⟨rfl, rfl⟩ := hrel
      go_wp2
      go_end0
      exact R.out
  · unfold maxLen at h2
    have R0 : Hid (w.rowIs g 3 cap (fun j => if j < 0 then .int .i64 x else F j)) := r
    have C0 : Hid (Chg (· = g) w w) := Chg.refl _ _
    clear r
    go_enter Tryd.func28, Tryd.ntmps28
    go_wp2
    go_loopw [4] (fun t wr => ∃ i : Nat, i ≤ cap ∧ t = .int .i64 i ∧ Hid (wr.rowIs g 3 cap (fun j => if j < i then .int .i64 x else F j)) ∧ Hid (Chg (· = g) w wr)) (fun t _ => cap - (intOf t).toNat)
    case atStart => exact ⟨0, by omega, rfl, R0, C0⟩
    case round =>
      clear R0 C0
      obtain ⟨i, i1, rfl, hr, hc⟩ := hrel
      by_cases hit : i < cap
      · obtain ⟨u, hu⟩ : ∃ u, wr.cell? ⟨g, i, none⟩ = some u := ⟨_, hr.out.cell hit⟩
        have fz := hr.out.frozen i
        have zg := hr.out.lt
        have R1 : Hid ((wr.setCell ⟨g, i, none⟩ (.int .i64 x)).rowIs g 3 cap (fun j => if j < i + 1 then .int .i64 x else F j)) := (hr.out.set i _).congr (fun j hj => by
          by_cases e : j = i
          · subst e; rw [if_pos rfl, if_pos (by omega)]
          · rw [if_neg e]
            by_cases e2 : j < i
            · rw [if_pos e2, if_pos (by omega)]
            · rw [if_neg e2, if_neg (by omega)])
        have C1 : Hid (Chg (· = g) w (wr.setCell ⟨g, i, none⟩ (.int .i64 x))) := hc.out.setCell _ _ rfl
        clear hr hc
        go_wp2
        go_roundw
        case rel => exact ⟨i + 1, by omega, by go_num, R1, C1⟩
        case measure => simp [intOf]; omega
      · obtain rfl : i = cap := by omega
        have R : Hid (FiP (.slice (some ⟨g, 0, none⟩) m i) x w (.returned (.tuple #[])) wr) :=
          ⟨rfl, Or.inr ⟨g, m, i, rfl, h1, h2, hr.out.congr (fun j hj => if_pos hj)⟩, hc.out.mono (fun j _ e => by rw [e]; rfl)⟩
        clear hr hc
        go_wp2
        go_end0
        exact R.out

set_option maxRecDepth 100000 in
set_option maxHeartbeats 1000000 in
theorem filled_any {v : Value} {w : World} {x : Int} (h : FilV v x w) : Calls Tryd.prog 29 #[v, .int .i64 x] w fun e w' => e = .returned (.bool true) ∧ w' = w := by
  have t0 : (x != x) = false := by simp
  rcases h with rfl | ⟨g, m, cap, rfl, h1, h2, r⟩
  · go_enter Tryd.func29, Tryd.ntmps29
    go_wp2
    go_loopw [5] (fun t wr => t = .int .i64 0 ∧ wr = w) (fun _ _ => 0)
    case atStart => exact ⟨rfl, rfl⟩
    case round =>
      obtain ⟨rfl, rfl⟩ := hrel
      go_wp2
      go_ret
      exact ⟨rfl, rfl⟩
  · unfold maxLen at h2
    have HR := hid r
    clear r
    go_enter Tryd.func29, Tryd.ntmps29
    go_wp2
    go_loopw [5] (fun t wr => ∃ i : Nat, i ≤ cap ∧ t = .int .i64 i ∧ w = wr) (fun t _ => cap - (intOf t).toNat)
    case atStart => exact ⟨0, by omega, rfl, rfl⟩
    case round =>
      obtain ⟨i, i1, rfl, rfl⟩ := hrel
      by_cases hit : i < cap
      · have u0 : w.cell? ⟨g, i, none⟩ = some (.int .i64 x) := HR.out.cell hit
        go_wp2
        go_roundw
        case rel => exact ⟨i + 1, by omega, by go_num, trivial⟩
        case measure => simp [intOf]; omega
      · obtain rfl : i = cap := by omega
        go_wp2
        go_ret
        exact ⟨rfl, rfl⟩

end Go.Proofs.YtcondcffllaaoaaDoor
