/-
  THE WALKS: docketkeep's look, and whether two show the same.
-/
import Derived.Test.YtmofidaojmiepaaGreatDoorGE3
import Derived.Test.YtmofidaojmiepaaGreatDoorGK10
import Derived.Test.YtmofidaojmiepaaGreatDoorGK8
set_option linter.unusedVariables false
set_option linter.unusedSimpArgs false
namespace Go.Proofs.YtmofidaojmiepaaGreatDoor

open Go.RowKit

attribute [local go_sem ↓] Go.wp_at_zero Go.wp_at_succ

def intsV (V : Nat → Int) (n : Nat) : List Value := (List.range n).map (fun i => Value.int .i64 (V i))

theorem intsV_more (V : Nat → Int) (n : Nat) : intsV V (n + 1) = intsV V n ++ [.int .i64 (V n)] := by unfold intsV; rw [List.range_succ, List.map_append]; rfl

def stas4 (S : Nat → St) (n : Nat) : List Value := (List.range (n * 4)).map (stf S)

theorem stas4_more (S : Nat → St) (n : Nat) : stas4 S (n + 1) = stas4 S n ++ [.bool (S n).lit, .int .i64 (S n).since, .int .i64 (S n).level, .bool (S n).acked] := by
  unfold stas4
  rw [show (n + 1) * 4 = n * 4 + 1 + 1 + 1 + 1 by omega, List.range_succ, List.range_succ, List.range_succ, List.range_succ]
  simp only [List.map_append, List.map_cons, List.map_nil, List.append_assoc, List.cons_append, List.nil_append]
  rw [show n * 4 + 1 + 1 = n * 4 + 2 by omega, show n * 4 + 2 + 1 = n * 4 + 3 by omega, stf0, stf1, stf2, stf3]

theorem news4k (w : World) (a b c d : Value) (t : TypeId) {N : Nat} (hN : N = w.heap.size) : ∀ j u, [a, b, c, d][j]? = some u → (w.alloc (.cells #[a, b, c, d] t)).cell? ((⟨N, 0, none⟩ : Addr).add j) = some u := by
  subst hN
  exact World.news_of_block (cs := #[a, b, c, d]) (t := t) (fr := (0, 0)) (by show (w.heap.push _)[w.heap.size]? = _; simp)

theorem own_typeL {w : World} {base : Nat} {e : TypeId} {size : Nat} {v : Value} {n : Nat} {xs : List Value} (h : w.ownsRow base e size v n xs) {g : Nat} (hg : v.ownBlock = some g) : ∃ cur, w.heap[g]? = some (.cells cur e) := by
  rcases h.2 with ⟨rfl, _⟩ | ⟨g', cap, cur, rfl, _, h4, _⟩
  · cases hg
  · have : g' = g := by simpa [Value.ownBlock] using hg
    subst this
    exact ⟨cur, h4⟩

theorem own_monoL {w : World} {b1 b2 : Nat} {e : TypeId} {size : Nat} {v : Value} {n : Nat} {xs : List Value} (h : w.ownsRow b1 e size v n xs) (hb : b2 ≤ b1) : w.ownsRow b2 e size v n xs := by
  refine ⟨h.1, ?_⟩
  rcases h.2 with h2 | ⟨g, cap, cur, a1, a2, a3⟩
  · exact Or.inl h2
  · exact Or.inr ⟨g, cap, cur, a1, by omega, a3⟩

/-- What a case shows, in lists of their own from B on. -/
structure LookAt (B : Nat) (f : Frm) (m : Cs) (v : Value) (w : World) : Prop where
  ex : ∃ vV vS vL, v = .agg #[.int .i64 m.T, vV, vS, vL, .bool true] ∧ w.ownsRow B 3 1 vV f.n (intsV (f.vals m.F m.T) f.n) ∧ w.ownsRow B 71 4 vS f.k (stas4 m.S f.k) ∧ w.ownsRow B 99 3 vL m.E.length (evs m.E)

theorem LookAt.below {B B2 : Nat} {f : Frm} {m : Cs} {v : Value} {w w' : World} (h : LookAt B f m v w) (hb : Below w.heap.size w w') : LookAt B f m v w' := by
  obtain ⟨vV, vS, vL, rfl, h1, h2, h3⟩ := h.ex
  exact ⟨vV, vS, vL, rfl, own_of_block h1 (fun g _ hlt => hb.block g hlt), own_of_block h2 (fun g _ hlt => hb.block g hlt), own_of_block h3 (fun g _ hlt => hb.block g hlt)⟩

/-- The places of a look. -/
def lkf (T : Int) (vV vS vL : Value) (ok : Bool) (j : Nat) : Value := if j = 0 then .int .i64 T else if j = 1 then vV else if j = 2 then vS else if j = 3 then vL else .bool ok

theorem lkf_c {T T' : Int} {vV vS vL vV' vS' vL' : Value} {ok ok' : Bool} {i : Nat} {x : Value} (h : ∀ j, j = 0 ∨ j = 1 ∨ j = 2 ∨ j = 3 ∨ j = 4 → (if j = i then x else lkf T vV vS vL ok j) = lkf T' vV' vS' vL' ok' j) (j : Nat) (hj : j < 5) : (if j = i then x else lkf T vV vS vL ok j) = lkf T' vV' vS' vL' ok' j := h j (by omega)

theorem info46 : True := trivial

/-- What look answers. -/
def LoP (f : Frm) (m : Cs) (w : World) (e : Ending) (w' : World) : Prop := ∃ v, e = .returned v ∧ LookAt w.heap.size f m v w' ∧ Below w.heap.size w w'

set_option maxRecDepth 100000 in
set_option maxHeartbeats 4000000 in
theorem klookL_any {Q : Nat → Prop} {f : Frm} {p : KPl} {m : Cs} {vE : Value} {w : World} {b : Nat} {fv : Value} (hS : KAt Q f p m vE w) (hf : f.Ok) (hm : m.Ok f) (hE : Few b m) (hb : b ≤ 10000000000) (hfv : ∃ aC cC aR cR aH cH, fv = .agg #[.slice aC f.n cC, .slice aR f.k cR, .int .i64 f.week, .slice aH f.hol.length cH]) :
    Calls Tryz.prog 12 #[.pointer (some ⟨p.bp, 0, none⟩), fv] w fun e w' => LoP f m w e w' := by
  obtain ⟨n1, hn, hk, _, _⟩ := hf.sizes
  have hlen : m.E.length ≤ 999999999000 := few_len hm hE hb
  obtain ⟨i3, y3, y4⟩ := Option.map_eq_some_iff.1 info3
  obtain ⟨iS, y5, y6⟩ := Option.map_eq_some_iff.1 info92
  simp only [Prod.mk.injEq] at y4 y6
  have I3 := hid y3
  have Z3 := hid y4
  have IS := hid y5
  have ZS := hid y6
  clear y3 y4 y5 y6
  obtain ⟨aC, cC, aR, cR, aH, cH, rfl⟩ := hfv
  have NW := hid (fun W (hW : Below w.heap.size w W) => now_any (show KAt Q f p m vE W from KSt.drop hS hW))
  have VL := hid (fun W (hW : Below w.heap.size w W) (i : Nat) (hi : i < f.n) => (kValue_any (i : Int) (show KAt Q f p m vE W from KSt.drop hS hW) hf hm).mono (fun e w' (g : VAns f m.F m.T (i : Int) W e w') => (show e = .returned (.tuple #[.int .i64 (f.vals m.F m.T i), .int .i64 0]) ∧ Below W.heap.size W w' from by
    obtain ⟨g1, g2⟩ := g
    unfold valV valE at g1
    rw [if_pos (by omega), if_pos (by omega)] at g1
    exact ⟨g1, g2⟩)))
  have RL := hid (fun W (hW : Below w.heap.size w W) (i : Nat) (hi : i < f.k) => (kRule_any (i : Int) (show KAt Q f p m vE W from KSt.drop hS hW)).mono (fun e w' (g : RAns f m (i : Int) W e w') => (show e = .returned (.tuple #[.agg #[.bool (m.S i).lit, .int .i64 (m.S i).since, .int .i64 (m.S i).level, .bool (m.S i).acked], .int .i64 0]) ∧ Below W.heap.size W w' from by
    obtain ⟨g1, g2⟩ := g
    unfold rulS rulE at g1
    rw [if_pos (by omega), if_pos (by omega)] at g1
    exact ⟨g1, g2⟩)))
  have LG := hid (fun W (hW : Below w.heap.size w W) => (kLog_any 0 (show KAt Q f p m vE W from KSt.drop hS hW) (by omega)).mono (fun e w' (g : LgP m.E 0 W e w') => (show ∃ v, e = .returned v ∧ w'.ownsRow W.heap.size 99 3 v m.E.length (evs m.E) ∧ Below W.heap.size W w' from g)))
  clear hS hf hm hE
  have B0 := hid (Below.refl (w.heap.size + 1 + 1) ((w.alloc (.cells #[.slice aC f.n cC, .slice aR f.k cR, .int .i64 f.week, .slice aH f.hol.length cH] 26)).alloc (.cells #[.int .i64 0, .slice none 0 0, .slice none 0 0, .slice none 0 0, .bool false] 41)))
  have G0 : Hid ((((w.alloc (.cells #[.slice aC f.n cC, .slice aR f.k cR, .int .i64 f.week, .slice aH f.hol.length cH] 26)).alloc (.cells #[.int .i64 0, .slice none 0 0, .slice none 0 0, .slice none 0 0, .bool false] 41)).alloc (.cells #[.int .i64 0, .slice none 0 0, .slice none 0 0, .slice none 0 0, .bool false] 41)).rowIs (w.heap.size + 1 + 1) 41 5 (lkf 0 (.slice none 0 0) (.slice none 0 0) (.slice none 0 0) false)) := by
    have := World.rowIs_alloc ((w.alloc (.cells #[.slice aC f.n cC, .slice aR f.k cR, .int .i64 f.week, .slice aH f.hol.length cH] 26)).alloc (.cells #[.int .i64 0, .slice none 0 0, .slice none 0 0, .slice none 0 0, .bool false] 41)) #[.int .i64 0, .slice none 0 0, .slice none 0 0, .slice none 0 0, .bool false] 41 (lkf 0 (.slice none 0 0) (.slice none 0 0) (.slice none 0 0) false) (fun i hi => by
      have hi' : i = 0 ∨ i = 1 ∨ i = 2 ∨ i = 3 ∨ i = 4 := by simp at hi; omega
      rcases hi' with rfl | rfl | rfl | rfl | rfl <;> rfl)
    simp only [World.size_alloc] at this
    exact this
  have B1 : Hid (Below (w.heap.size + 1 + 1) ((w.alloc (.cells #[.slice aC f.n cC, .slice aR f.k cR, .int .i64 f.week, .slice aH f.hol.length cH] 26)).alloc (.cells #[.int .i64 0, .slice none 0 0, .slice none 0 0, .slice none 0 0, .bool false] 41)) (((w.alloc (.cells #[.slice aC f.n cC, .slice aR f.k cR, .int .i64 f.week, .slice aH f.hol.length cH] 26)).alloc (.cells #[.int .i64 0, .slice none 0 0, .slice none 0 0, .slice none 0 0, .bool false] 41)).alloc (.cells #[.int .i64 0, .slice none 0 0, .slice none 0 0, .slice none 0 0, .bool false] 41))) := B0.out.alloc (by simp) _
  go_enter Tryz.func12, Tryz.ntmps12
  go_wp2_with fail
  refine (NW.out _ (two_boxes_below B1.out)).mono ?_
  rintro e w1 ⟨rfl, hw⟩
  rw [hw]
  clear hw w1
  generalize (((w.alloc (.cells #[.slice aC f.n cC, .slice aR f.k cR, .int .i64 f.week, .slice aH f.hol.length cH] 26)).alloc (.cells #[.int .i64 0, .slice none 0 0, .slice none 0 0, .slice none 0 0, .bool false] 41)).alloc (.cells #[.int .i64 0, .slice none 0 0, .slice none 0 0, .slice none 0 0, .bool false] 41)) = W1 at *
  have d0 := G0.out.cell (i := 0) (by omega)
  have d4 := G0.out.cell (i := 4) (by omega)
  have dz : ∀ j, W1.frozen? ⟨w.heap.size + 1 + 1, j, none⟩ = false := fun j => G0.out.frozen j
  have z1 := G0.out.lt
  simp [lkf] at d0 d4
  have G2 : Hid (((W1.setCell ⟨w.heap.size + 1 + 1, 0, none⟩ (.int .i64 m.T)).setCell ⟨w.heap.size + 1 + 1, 4, none⟩ (.bool true)).rowIs (w.heap.size + 1 + 1) 41 5 (lkf m.T (.slice none 0 0) (.slice none 0 0) (.slice none 0 0) true)) := ((G0.out.set 0 _).set 4 _).congr (fun j hj => by
    have : j = 0 ∨ j = 1 ∨ j = 2 ∨ j = 3 ∨ j = 4 := by omega
    rcases this with rfl | rfl | rfl | rfl | rfl <;> rfl)
  have B2 : Hid (Below (w.heap.size + 1 + 1) ((w.alloc (.cells #[.slice aC f.n cC, .slice aR f.k cR, .int .i64 f.week, .slice aH f.hol.length cH] 26)).alloc (.cells #[.int .i64 0, .slice none 0 0, .slice none 0 0, .slice none 0 0, .bool false] 41)) ((W1.setCell ⟨w.heap.size + 1 + 1, 0, none⟩ (.int .i64 m.T)).setCell ⟨w.heap.size + 1 + 1, 4, none⟩ (.bool true))) := (B1.out.setCell (Nat.le_refl _) _).setCell (Nat.le_refl _) _
  go_wp2
  go_loopw [6] (fun t wr => ∃ (i : Nat) (v : Value), i ≤ f.n ∧ t = .int .i64 i ∧ w.heap.size + 1 + 1 < wr.heap.size ∧ Hid (Below (w.heap.size + 1 + 1) ((w.alloc (.cells #[.slice aC f.n cC, .slice aR f.k cR, .int .i64 f.week, .slice aH f.hol.length cH] 26)).alloc (.cells #[.int .i64 0, .slice none 0 0, .slice none 0 0, .slice none 0 0, .bool false] 41)) wr) ∧ Hid (wr.rowIs (w.heap.size + 1 + 1) 41 5 (lkf m.T v (.slice none 0 0) (.slice none 0 0) true)) ∧ Hid (wr.ownsRow (w.heap.size + 1 + 1 + 1) 3 1 v i (intsV (f.vals m.F m.T) i))) (fun t _ => f.n - (intOf t).toNat)
  case atStart => exact ⟨0, .slice none 0 0, by omega, rfl, G2.out.lt, B2, G2, ⟨rfl, Or.inl ⟨rfl, rfl⟩⟩⟩
  case round =>
    clear G0 B0 B1 G2 B2 d0 d4 dz z1
    obtain ⟨i, v, i1, rfl, hsz, hb, hg, hown⟩ := hrel
    have hbw := hid (two_boxes_below hb.out)
    have f0 := (two_boxes hb.out 0).1
    have f1 := (two_boxes hb.out 1).1
    simp at f0 f1
    by_cases hit : i < f.n
    · have lt' : (i : Int) < (f.n : Int) := by omega
      go_wp2_with fail
      refine (VL.out _ hbw.out i hit).mono ?_
      rintro e w5 ⟨rfl, hb5⟩
      have s5 := hb5.size
      have z5 : w.heap.size + 1 + 1 < w5.heap.size := by omega
      have K1 := hid (hb.out.trans (hb5.mono (by omega)))
      have K2 := hid (hg.out.of_block (hb5.block _ hsz))
      have K3 := hid (own_of_block hown.out (w' := w5) (fun g _ hlt => hb5.block g hlt))
      have MR := hid (intsV_more (f.vals m.F m.T) i)
      generalize f.vals m.F m.T i = vx at *
      clear hb5 hb hg hown hbw f0 f1
      have d1 := K2.out.cell (i := 1) (by omega)
      have d4 := K2.out.cell (i := 4) (by omega)
      have dz : ∀ j, w5.frozen? ⟨w.heap.size + 1 + 1, j, none⟩ = false := fun j => K2.out.frozen j
      simp [lkf] at d1 d4
      have d1a : ∀ o, (w5.alloc o).cell? ⟨w.heap.size + 1 + 1, 1, none⟩ = some v := fun o => by rw [World.cell?_alloc_lt (h := z5)]; exact d1
      go_wp2_with (at_builtin; refine wpList_append_lies _ rfl (.tmp 30) (.tmp 32) 24 rfl (w.heap.size + 1 + 1 + 1) 3 i3 _ 1 8 Tryz.underlying24 I3.out Z3.out.1 Z3.out.2.1 Z3.out.2.2 rfl (by omega) v i (intsV (f.vals m.F m.T) i) (by rfl) (own_alloc0 K3.out _) ⟨w5.heap.size, 0, none⟩ 1 1 [.int .i64 vx] (by rfl) (by rfl) (news1k _ _ _) (by simp [Value.oneCell']) (by omega) (by unfold maxLen; omega) (by omega) (by simp; omega) (w5.heap.size + 1) (by simp) ?_; intro g cap w6 hown2 hgrow hat hlt; refine stopH ?_)
      have NE : v.ownBlock ≠ some (w.heap.size + 1 + 1) := fun e => by have := own_base K3.out e; omega
      have hbk : w6.heap[w.heap.size + 1 + 1]? = w5.heap[w.heap.size + 1 + 1]? := ev_far0 w5 _ hgrow z5 NE
      have R6 := K2.out.of_block hbk
      have e1 := R6.cell (i := 1) (by omega)
      have e4 := R6.cell (i := 4) (by omega)
      have ez : ∀ j, w6.frozen? ⟨w.heap.size + 1 + 1, j, none⟩ = false := fun j => R6.frozen j
      simp [lkf] at e1 e4
      have B6 : Below (w.heap.size + 1 + 1) w5 w6 := grow_below0 hgrow (by omega) (fun g hg' => by have := own_base K3.out hg'; omega)
      have s6 := B6.size
      have N1 := hid (((K1.out.trans B6).setCell (p := ⟨w.heap.size + 1 + 1, 1, none⟩) (Nat.le_refl _) (.slice (some ⟨g, 0, none⟩) (i + 1) cap)).setCell (p := ⟨w.heap.size + 1 + 1, 4, none⟩) (Nat.le_refl _) (.bool true))
      have N2 : Hid (((w6.setCell ⟨w.heap.size + 1 + 1, 1, none⟩ (.slice (some ⟨g, 0, none⟩) (i + 1) cap)).setCell ⟨w.heap.size + 1 + 1, 4, none⟩ (.bool true)).rowIs (w.heap.size + 1 + 1) 41 5 (lkf m.T (.slice (some ⟨g, 0, none⟩) (i + 1) cap) (.slice none 0 0) (.slice none 0 0) true)) := ((R6.set 1 _).set 4 _).congr (fun j hj => by
        have : j = 0 ∨ j = 1 ∨ j = 2 ∨ j = 3 ∨ j = 4 := by omega
        rcases this with rfl | rfl | rfl | rfl | rfl <;> rfl)
      have N3 : Hid (((w6.setCell ⟨w.heap.size + 1 + 1, 1, none⟩ (.slice (some ⟨g, 0, none⟩) (i + 1) cap)).setCell ⟨w.heap.size + 1 + 1, 4, none⟩ (.bool true)).ownsRow (w.heap.size + 1 + 1 + 1) 3 1 (.slice (some ⟨g, 0, none⟩) (i + 1) cap) (i + 1) (intsV (f.vals m.F m.T) (i + 1))) := by
        rw [MR.out]
        exact ownsRow_setCell_below (ownsRow_setCell_below hown2 (show w.heap.size + 1 + 1 < w.heap.size + 1 + 1 + 1 by omega) _) (show w.heap.size + 1 + 1 < w.heap.size + 1 + 1 + 1 by omega) _
      have N4 : Hid (w.heap.size + 1 + 1 < ((w6.setCell ⟨w.heap.size + 1 + 1, 1, none⟩ (.slice (some ⟨g, 0, none⟩) (i + 1) cap)).setCell ⟨w.heap.size + 1 + 1, 4, none⟩ (.bool true)).heap.size) := by show _ < _; simp; omega
      clear hbk B6 hown2 hgrow hat hlt K1 K2 K3 d1 d1a d4 dz MR R6
      refine hid ?_
      go_wp2
      go_roundw
      case rel => exact ⟨i + 1, .slice (some ⟨g, 0, none⟩) (i + 1) cap, by omega, by go_num, N4.out, N1, N2, N3⟩
      case measure => simp [intOf]; omega
    · obtain rfl : i = f.n := by omega
      have T1 := hb
      have T2 := hg
      have T3 := hown
      have T4 := hid hsz
      clear hb hg hown hbw
      go_wp2
      go_loopw [9] (fun t wr => ∃ (j : Nat) (v2 : Value), j ≤ f.k ∧ t = .int .i64 j ∧ w.heap.size + 1 + 1 < wr.heap.size ∧ Hid (Below (w.heap.size + 1 + 1) ((w.alloc (.cells #[.slice aC f.n cC, .slice aR f.k cR, .int .i64 f.week, .slice aH f.hol.length cH] 26)).alloc (.cells #[.int .i64 0, .slice none 0 0, .slice none 0 0, .slice none 0 0, .bool false] 41)) wr) ∧ Hid (wr.rowIs (w.heap.size + 1 + 1) 41 5 (lkf m.T v v2 (.slice none 0 0) true)) ∧ Hid (wr.ownsRow (w.heap.size + 1 + 1 + 1) 3 1 v f.n (intsV (f.vals m.F m.T) f.n)) ∧ Hid (wr.ownsRow (w.heap.size + 1 + 1 + 1) 71 4 v2 j (stas4 m.S j))) (fun t _ => f.k - (intOf t).toNat)
      case atStart => exact ⟨0, .slice none 0 0, by omega, rfl, T4.out, T1, T2, T3, ⟨rfl, Or.inl ⟨rfl, rfl⟩⟩⟩
      case round =>
        clear T1 T2 T3 T4 f0 f1 hsz hit i1
        obtain ⟨j, v2, j1, rfl, hsz, hb, hg, hown, hsta⟩ := hrel
        have hbw := hid (two_boxes_below hb.out)
        have f1 := (two_boxes hb.out 1).1
        simp at f1
        by_cases hjt : j < f.k
        · have lt' : (j : Int) < (f.k : Int) := by omega
          go_wp2_with fail
          refine (RL.out _ hbw.out j hjt).mono ?_
          rintro e w5 ⟨rfl, hb5⟩
          have s5 := hb5.size
          have z5 : w.heap.size + 1 + 1 < w5.heap.size := by omega
          have K1 := hid (hb.out.trans (hb5.mono (by omega)))
          have K2 := hid (hg.out.of_block (hb5.block _ hsz))
          have K3 := hid (own_of_block hown.out (w' := w5) (fun g _ hlt => hb5.block g hlt))
          have K4 := hid (own_of_block hsta.out (w' := w5) (fun g _ hlt => hb5.block g hlt))
          have MR := hid (stas4_more m.S j)
          generalize m.S j = st at *
          clear hb5 hb hg hown hsta hbw f1
          have d2 := K2.out.cell (i := 2) (by omega)
          have d4 := K2.out.cell (i := 4) (by omega)
          have dz : ∀ x, w5.frozen? ⟨w.heap.size + 1 + 1, x, none⟩ = false := fun x => K2.out.frozen x
          simp [lkf] at d2 d4
          have d2a : ∀ o, (w5.alloc o).cell? ⟨w.heap.size + 1 + 1, 2, none⟩ = some v2 := fun o => by rw [World.cell?_alloc_lt (h := z5)]; exact d2
          go_wp2_with (at_builtin; refine wpList_append_lies _ rfl (.tmp 56) (.tmp 58) 38 rfl (w.heap.size + 1 + 1 + 1) 71 iS _ 4 32 underlyingE IS.out ZS.out.1 ZS.out.2.1 ZS.out.2.2 rfl (by omega) v2 j (stas4 m.S j) (by rfl) (own_alloc0 (own_alloc0 K4.out _) _) ⟨w5.heap.size + 1, 0, none⟩ 1 1 [.bool st.lit, .int .i64 st.since, .int .i64 st.level, .bool st.acked] (by rfl) (by rfl) (news4k _ _ _ _ _ _ (by simp)) (by simp [Value.oneCell']) (by omega) (by unfold maxLen; omega) (by omega) (by simp; omega) (w5.heap.size + 1 + 1) (by simp) ?_; intro g cap w6 hown2 hgrow hat hlt; refine stopH ?_)
          have NE : v2.ownBlock ≠ some (w.heap.size + 1 + 1) := fun e => by have := own_base K4.out e; omega
          have far : ∀ x, x < w5.heap.size → v2.ownBlock ≠ some x → w6.heap[x]? = w5.heap[x]? := fun x hx hne => (hgrow.block x (by simp; omega) (fun e => hne e.symm)).trans ((Below.heap_alloc _ _ x (by simp; omega)).trans (Below.heap_alloc w5 _ x hx))
          have hbk := far _ z5 NE
          have R6 := K2.out.of_block hbk
          have e2 := R6.cell (i := 2) (by omega)
          have e4 := R6.cell (i := 4) (by omega)
          have ez : ∀ x, w6.frozen? ⟨w.heap.size + 1 + 1, x, none⟩ = false := fun x => R6.frozen x
          simp [lkf] at e2 e4
          have s6 := hgrow.size
          simp at s6
          have B6 : Below (w.heap.size + 1 + 1) w5 w6 := ⟨hgrow.os, hgrow.tape, hgrow.output, by omega, fun x hx => far x (by omega) (fun e => by have := own_base K4.out e; omega)⟩
          have lo : w.heap.size + 1 + 1 < w.heap.size + 1 + 1 + 1 := by omega
          have KV : w6.ownsRow (w.heap.size + 1 + 1 + 1) 3 1 v f.n (intsV (f.vals m.F m.T) f.n) := own_of_block K3.out (fun g hv hlt => far g hlt (fun e => by
            obtain ⟨c1, k1⟩ := own_typeL K3.out hv
            obtain ⟨c2, k2⟩ := own_typeL K4.out e
            rw [k1] at k2
            injection k2 with k2
            injection k2 with _ k3 _
            exact absurd k3 (by decide)))
          have N1 := hid (((K1.out.trans B6).setCell (p := ⟨w.heap.size + 1 + 1, 2, none⟩) (Nat.le_refl _) (.slice (some ⟨g, 0, none⟩) (j + 1) cap)).setCell (p := ⟨w.heap.size + 1 + 1, 4, none⟩) (Nat.le_refl _) (.bool true))
          have N2 : Hid (((w6.setCell ⟨w.heap.size + 1 + 1, 2, none⟩ (.slice (some ⟨g, 0, none⟩) (j + 1) cap)).setCell ⟨w.heap.size + 1 + 1, 4, none⟩ (.bool true)).rowIs (w.heap.size + 1 + 1) 41 5 (lkf m.T v (.slice (some ⟨g, 0, none⟩) (j + 1) cap) (.slice none 0 0) true)) := ((R6.set 2 _).set 4 _).congr (fun x hx => by
            have : x = 0 ∨ x = 1 ∨ x = 2 ∨ x = 3 ∨ x = 4 := by omega
            rcases this with rfl | rfl | rfl | rfl | rfl <;> rfl)
          have N3 : Hid (((w6.setCell ⟨w.heap.size + 1 + 1, 2, none⟩ (.slice (some ⟨g, 0, none⟩) (j + 1) cap)).setCell ⟨w.heap.size + 1 + 1, 4, none⟩ (.bool true)).ownsRow (w.heap.size + 1 + 1 + 1) 3 1 v f.n (intsV (f.vals m.F m.T) f.n)) := ownsRow_setCell_below (ownsRow_setCell_below KV lo _) lo _
          have N5 : Hid (((w6.setCell ⟨w.heap.size + 1 + 1, 2, none⟩ (.slice (some ⟨g, 0, none⟩) (j + 1) cap)).setCell ⟨w.heap.size + 1 + 1, 4, none⟩ (.bool true)).ownsRow (w.heap.size + 1 + 1 + 1) 71 4 (.slice (some ⟨g, 0, none⟩) (j + 1) cap) (j + 1) (stas4 m.S (j + 1))) := by
            rw [MR.out]
            exact ownsRow_setCell_below (ownsRow_setCell_below hown2 lo _) lo _
          have N4 : Hid (w.heap.size + 1 + 1 < ((w6.setCell ⟨w.heap.size + 1 + 1, 2, none⟩ (.slice (some ⟨g, 0, none⟩) (j + 1) cap)).setCell ⟨w.heap.size + 1 + 1, 4, none⟩ (.bool true)).heap.size) := by show _ < _; simp; omega
          clear hbk far B6 KV hown2 hgrow hat hlt K1 K2 K3 K4 d2 d2a d4 dz MR R6
          refine hid ?_
          go_wp2
          go_roundw
          case rel => exact ⟨j + 1, .slice (some ⟨g, 0, none⟩) (j + 1) cap, by omega, by go_num, N4.out, N1, N2, N3, N5⟩
          case measure => simp [intOf]; omega
        · obtain rfl : j = f.k := by omega
          go_wp2_with fail
          refine (LG.out _ hbw.out).mono ?_
          rintro e w5 ⟨vl, rfl, hvl, hb5⟩
          have s5 := hb5.size
          have z5 : w.heap.size + 1 + 1 < w5.heap.size := by omega
          have K1 := hid (hb.out.trans (hb5.mono (by omega)))
          have K2 := hid (hg.out.of_block (hb5.block _ hsz))
          have K3 := hid (own_of_block hown.out (w' := w5) (fun g _ hlt => hb5.block g hlt))
          have K4 := hid (own_of_block hsta.out (w' := w5) (fun g _ hlt => hb5.block g hlt))
          have VLL : Hid (w5.ownsRow (w.heap.size + 1 + 1 + 1) 99 3 vl m.E.length (evs m.E)) := own_monoL hvl (by omega)
          clear hb5 hb hg hown hsta hbw f1 hvl
          obtain ⟨av, cv, rfl⟩ := own_len K3.out
          obtain ⟨a2, c2, rfl⟩ := own_len K4.out
          obtain ⟨a3, c3, rfl⟩ := own_len VLL.out
          obtain ⟨_, F2⟩ := two_rows K1.out (gCopy (.slice aC f.n cC) (.slice aH f.hol.length cH) f.week (.slice aR f.k cR)) (lkf 0 (.slice none 0 0) (.slice none 0 0) (.slice none 0 0) false) (fun i hi => by
            have hi' : i = 0 ∨ i = 1 ∨ i = 2 ∨ i = 3 := by simp at hi; omega
            rcases hi' with rfl | rfl | rfl | rfl <;> rfl) (fun i hi => by
            have hi' : i = 0 ∨ i = 1 ∨ i = 2 ∨ i = 3 ∨ i = 4 := by simp at hi; omega
            rcases hi' with rfl | rfl | rfl | rfl | rfl <;> rfl)
          have F2' : w5.rowIs (w.heap.size + 1) 41 5 (lkf 0 (.slice none 0 0) (.slice none 0 0) (.slice none 0 0) false) := F2
          have d0 := K2.out.cell (i := 0) (by omega)
          have d1 := K2.out.cell (i := 1) (by omega)
          have d2 := K2.out.cell (i := 2) (by omega)
          have d3 := K2.out.cell (i := 3) (by omega)
          have d4 := K2.out.cell (i := 4) (by omega)
          have dz : ∀ x, w5.frozen? ⟨w.heap.size + 1 + 1, x, none⟩ = false := fun x => K2.out.frozen x
          simp [lkf] at d0 d1 d2 d3 d4
          have r0 := F2'.cell (i := 0) (by omega)
          have r1 := F2'.cell (i := 1) (by omega)
          have r2 := F2'.cell (i := 2) (by omega)
          have r3 := F2'.cell (i := 3) (by omega)
          have r4 := F2'.cell (i := 4) (by omega)
          have rz : ∀ x, w5.frozen? ⟨w.heap.size + 1, x, none⟩ = false := fun x => F2'.frozen x
          simp [lkf] at r0 r1 r2 r3 r4
          have hx : ∃ FW, FW = ((((((w5.setCell ⟨w.heap.size + 1 + 1, 3, none⟩ (.slice a3 m.E.length c3)).setCell ⟨w.heap.size + 1, 0, none⟩ (.int .i64 m.T)).setCell ⟨w.heap.size + 1, 1, none⟩ (.slice av f.n cv)).setCell ⟨w.heap.size + 1, 2, none⟩ (.slice a2 f.k c2)).setCell ⟨w.heap.size + 1, 3, none⟩ (.slice a3 m.E.length c3)).setCell ⟨w.heap.size + 1, 4, none⟩ (.bool true)) := ⟨_, rfl⟩
          obtain ⟨FW, hFW⟩ := hx
          have P0 : Hid (FW.rowIs (w.heap.size + 1) 41 5 (fun x => if x = 4 then .bool true else if x = 3 then .slice a3 m.E.length c3 else if x = 2 then .slice a2 f.k c2 else if x = 1 then .slice av f.n cv else if x = 0 then .int .i64 m.T else lkf 0 (.slice none 0 0) (.slice none 0 0) (.slice none 0 0) false x)) := by
            rw [hFW]
            exact (((((F2'.setOther (by show w.heap.size + 1 ≠ w.heap.size + 1 + 1; omega) _).set _ _).set _ _).set _ _).set _ _).set _ _
          have lo : w.heap.size + 1 + 1 < w.heap.size + 1 + 1 + 1 := by omega
          have l1 : w.heap.size + 1 < w.heap.size + 1 + 1 + 1 := by omega
          have MV : ∀ e sz v nn xs, w5.ownsRow (w.heap.size + 1 + 1 + 1) e sz v nn xs → FW.ownsRow w.heap.size e sz v nn xs := fun e sz v nn xs h => by
            rw [hFW]
            exact own_monoL (ownsRow_setCell_below (ownsRow_setCell_below (ownsRow_setCell_below (ownsRow_setCell_below (ownsRow_setCell_below (ownsRow_setCell_below h lo _) l1 _) l1 _) l1 _) l1 _) l1 _) (by omega)
          have P2 : Below w.heap.size w FW := by
            rw [hFW]
            exact ((((((two_boxes_below K1.out).setCell (by show _ ≤ w.heap.size + 1 + 1; omega) _).setCell (by show _ ≤ w.heap.size + 1; omega) _).setCell (by show _ ≤ w.heap.size + 1; omega) _).setCell (by show _ ≤ w.heap.size + 1; omega) _).setCell (by show _ ≤ w.heap.size + 1; omega) _).setCell (by show _ ≤ w.heap.size + 1; omega) _
          have Q9 : Hid (LoP f m w (.returned (.agg #[.int .i64 m.T, .slice av f.n cv, .slice a2 f.k c2, .slice a3 m.E.length c3, .bool true])) FW) := ⟨_, rfl, ⟨_, _, _, rfl, MV _ _ _ _ _ K3.out, MV _ _ _ _ _ K4.out, MV _ _ _ _ _ VLL.out⟩, P2⟩
          have HFW := hid hFW
          clear hFW P2 MV K1 K3 K4 VLL F2
          go_wp2
          rw [← HFW.out]
          have x0 := P0.out.cell (i := 0) (by omega)
          have x1 := P0.out.cell (i := 1) (by omega)
          have x2 := P0.out.cell (i := 2) (by omega)
          have x3 := P0.out.cell (i := 3) (by omega)
          have x4 := P0.out.cell (i := 4) (by omega)
          simp at x0 x1 x2 x3 x4
          exact bodyPost_ret (v := .agg #[.int .i64 m.T, .slice av f.n cv, .slice a2 f.k c2, .slice a3 m.E.length c3, .bool true]) (by simp [results, Tryz.results12, go_sem, x0, x1, x2, x3, x4]) rfl Q9.out

theorem klook_any {Q : Nat → Prop} {f : Frm} {p : KPl} {m : Cs} {vE : Value} {w : World} {b : Nat} {fv : Value} (hS : KAt Q f p m vE w) (hf : f.Ok) (hm : m.Ok f) (hE : Few b m) (hb : b ≤ 10000000000) (hfv : FAt w f fv) :
    Calls Tryz.prog 12 #[.pointer (some ⟨p.bp, 0, none⟩), fv] w fun e w' => LoP f m w e w' := by
  obtain ⟨aC, cC, aR, cR, aH, cH, e, _, _, _⟩ := hfv
  exact klookL_any hS hf hm hE hb ⟨aC, cC, aR, cR, aH, cH, e⟩

end Go.Proofs.YtmofidaojmiepaaGreatDoor

/-
  THE WALKS: docketkeep: whether two show the same.
-/
set_option linter.unusedVariables false
set_option linter.unusedSimpArgs false
namespace Go.Proofs.YtmofidaojmiepaaGreatDoor

open Go.RowKit

attribute [local go_sem ↓] Go.wp_at_zero Go.wp_at_succ

/-- It is so, and nothing that was there has turned. -/
def TPost (w : World) (e : Ending) (w' : World) : Prop := e = .returned (.bool true) ∧ Below w.heap.size w w'

theorem hE : Tryz.prog.stoodInHeld 99 = false := by kernel_rfl

theorem uE : Tryz.prog.underlying 99 = some (.struct (Tryz.prog.fieldsOf 99)) := by simp only [Program.fieldsOf, Tryz.underlying99]

theorem gE : Tryz.prog.eqGuardType Tryz.prog.depth 99 = false := by kernel_rfl

theorem hSt' : Tryz.prog.stoodInHeld 71 = false := by kernel_rfl

theorem uSt : Tryz.prog.underlying 71 = some (.struct (Tryz.prog.fieldsOf 71)) := by simp only [Program.fieldsOf, Tryz.underlying71]

theorem gSt : Tryz.prog.eqGuardType Tryz.prog.depth 71 = false := by kernel_rfl

theorem eqE (a b c : Int) (W : World) : (Op.equalIn 10000 99 (.agg #[.int .i64 a, .int .i64 b, .int .i64 c]) (.agg #[.int .i64 a, .int .i64 b, .int .i64 c])).run Tryz.prog W = .ok true W := by
  rw [run_equalIn_agg W _ 99 _ _ uE hE]
  simp [Program.fieldsOf, Tryz.underlying99, Op.eqFields, go_sem, Tryz.underlying3]

theorem eqSt (a : Bool) (b c : Int) (d : Bool) (W : World) : (Op.equalIn 10000 71 (.agg #[.bool a, .int .i64 b, .int .i64 c, .bool d]) (.agg #[.bool a, .int .i64 b, .int .i64 c, .bool d])).run Tryz.prog W = .ok true W := by
  rw [run_equalIn_agg W _ 71 _ _ uSt hSt']
  simp [Program.fieldsOf, Tryz.underlying71, Op.eqFields, go_sem, Tryz.underlying3, Tryz.underlying4]

attribute [local go_sem] eqE eqSt

theorem own_cell {w : World} {base : Nat} {e : TypeId} {size : Nat} {v : Value} {n : Nat} {xs : List Value} (h : w.ownsRow base e size v n xs) (hn : 0 < n) : ∃ g c, v = .slice (some ⟨g, 0, none⟩) n c ∧ g < w.heap.size ∧ ∀ j, j < n * size → w.cell? ⟨g, j, none⟩ = xs[j]? := by
  obtain ⟨h1, h2⟩ := h
  rcases h2 with ⟨h2, rfl⟩ | ⟨g, cap, cur, h2, h3, h4, h5, h6, h7, h8⟩
  · omega
  · refine ⟨g, cap, h2, ?_, fun j hj => ?_⟩
    · rcases Nat.lt_or_ge g w.heap.size with h | h
      · exact h
      · rw [Array.getElem?_eq_none h] at h4; cases h4
    · have e1 : cur[j]? = xs[j]? := by rw [← h8, List.getElem?_take, if_pos hj]; simp
      simp [World.cell?, h4, e1]

set_option maxRecDepth 100000 in
set_option maxHeartbeats 2000000 in
theorem ksameEv_any {L : List Ev} {ba bb : Nat} {va vb : Value} {w : World} (ha : w.ownsRow ba 99 3 va L.length (evs L)) (hb : w.ownsRow bb 99 3 vb L.length (evs L)) (hL : L.length ≤ 1000000000000) :
    Calls Tryz.prog 33 #[va, vb] w fun e w' => TPost w e w' := by
  obtain ⟨aa, ca, rfl⟩ := own_len ha
  obtain ⟨ab, cb, rfl⟩ := own_len hb
  have HA := hid ha
  have HB := hid hb
  clear ha hb
  go_enter Tryz.func33, Tryz.ntmps33
  go_wp2
  have hm := gE
  go_loopw [5] (fun t wr => ∃ i : Nat, i ≤ L.length ∧ t = .int .i64 i ∧ Hid (Below w.heap.size w wr)) (fun t _ => L.length - (intOf t).toNat)
  case atStart => exact ⟨0, by omega, rfl, Below.refl _ _⟩
  case round =>
    obtain ⟨i, i1, rfl, hb⟩ := hrel
    by_cases hit : i < L.length
    · have lt' : (i : Int) < (L.length : Int) := by omega
      have ha2 := own_of_block HA.out (w' := wr) (fun g _ hlt => hb.out.block g hlt)
      have hb2 := own_of_block HB.out (w' := wr) (fun g _ hlt => hb.out.block g hlt)
      obtain ⟨ga, ca', e1, za, _, x0, x1, x2⟩ := own_evs ha2 (List.getElem?_eq_getElem hit)
      obtain ⟨gb, cb', e2, zb, _, y0, y1, y2⟩ := own_evs hb2 (List.getElem?_eq_getElem hit)
      simp at e1 e2
      obtain ⟨rfl, rfl⟩ := e1
      obtain ⟨rfl, rfl⟩ := e2
      clear ha2 hb2
      generalize L[i] = ee at *
      go_wp2
      go_region
      go_wp2
      go_roundw
      case rel => exact ⟨i + 1, by omega, by go_num, hb.out.drew⟩
      case measure => simp [intOf]; omega
    · have R : Hid (TPost w (.returned (.bool true)) wr) := ⟨rfl, hb.out⟩
      go_wp2
      go_ret
      exact R.out

def SIP (n : Nat) (V V' : Nat → Int) (w : World) (e : Ending) (w' : World) : Prop := ∃ r, e = .returned (.bool r) ∧ (r = true ↔ ∀ i, i < n → V i = V' i) ∧ Below w.heap.size w w'

set_option maxRecDepth 100000 in
set_option maxHeartbeats 1000000 in
theorem ksameInts_any {n ba bb : Nat} {V V' : Nat → Int} {va vb : Value} {w : World} (ha : w.ownsRow ba 3 1 va n (intsV V n)) (hb : w.ownsRow bb 3 1 vb n (intsV V' n)) (hn : n ≤ 20) :
    Calls Tryz.prog 23 #[va, vb] w fun e w' => SIP n V V' w e w' := by
  obtain ⟨aa, ca, rfl⟩ := own_len ha
  obtain ⟨ab, cb, rfl⟩ := own_len hb
  have HA := hid ha
  have HB := hid hb
  clear ha hb
  go_enter Tryz.func23, Tryz.ntmps23
  go_wp2
  go_loopw [5] (fun t wr => ∃ i : Nat, i ≤ n ∧ t = .int .i64 i ∧ Hid (∀ j, j < i → V j = V' j) ∧ Hid (Below w.heap.size w wr)) (fun t _ => n - (intOf t).toNat)
  case atStart => exact ⟨0, by omega, rfl, fun j hj => by omega, Below.refl _ _⟩
  case round =>
    obtain ⟨i, i1, rfl, hq, hb⟩ := hrel
    by_cases hit : i < n
    · have lt' : (i : Int) < (n : Int) := by omega
      obtain ⟨ga, ca', e1, za, x⟩ := own_cell (own_of_block HA.out (w' := wr) (fun g _ hlt => hb.out.block g hlt)) (by omega)
      obtain ⟨gb, cb', e2, zb, y⟩ := own_cell (own_of_block HB.out (w' := wr) (fun g _ hlt => hb.out.block g hlt)) (by omega)
      simp at e1 e2
      obtain ⟨rfl, rfl⟩ := e1
      obtain ⟨rfl, rfl⟩ := e2
      have x0 := x i (by omega)
      have y0 := y i (by omega)
      simp [intsV, hit] at x0 y0
      clear x y
      by_cases e : V i = V' i
      · have A : Hid (∀ j, j < i + 1 → V j = V' j) := fun j hj => by
          by_cases e' : j = i
          · subst e'; exact e
          · exact hq.out j (by omega)
        rw [← e] at y0
        clear e
        go_wp2
        go_region
        go_wp2
        go_roundw
        case rel => exact ⟨i + 1, by omega, by go_num, A, hb.out.drew⟩
        case measure => simp [intOf]; omega
      · have d : (V i != V' i) = true := by simp [e]
        have R : Hid (∀ W, Below w.heap.size w W → SIP n V V' w (.returned (.bool false)) W) := fun W h => ⟨false, rfl, ⟨fun e => (by cases e), fun g => (e (g i hit)).elim⟩, h⟩
        clear e
        go_wp2
        go_region
        go_wp2
        go_ret
        exact R.out _ hb.out.drew
    · have R : Hid (SIP n V V' w (.returned (.bool true)) wr) := ⟨true, rfl, ⟨fun _ j hj => hq.out j (by omega), fun _ => rfl⟩, hb.out⟩
      go_wp2
      go_ret
      exact R.out

set_option maxRecDepth 100000 in
set_option maxHeartbeats 1000000 in
theorem ksameSt_any {n ba bb : Nat} {S : Nat → St} {va vb : Value} {w : World} (ha : w.ownsRow ba 71 4 va n (stas4 S n)) (hb : w.ownsRow bb 71 4 vb n (stas4 S n)) (hn : n ≤ 6) :
    Calls Tryz.prog 32 #[va, vb] w fun e w' => TPost w e w' := by
  obtain ⟨aa, ca, rfl⟩ := own_len ha
  obtain ⟨ab, cb, rfl⟩ := own_len hb
  have HA := hid ha
  have HB := hid hb
  clear ha hb
  go_enter Tryz.func32, Tryz.ntmps32
  go_wp2
  have hm := gSt
  go_loopw [5] (fun t wr => ∃ i : Nat, i ≤ n ∧ t = .int .i64 i ∧ Hid (Below w.heap.size w wr)) (fun t _ => n - (intOf t).toNat)
  case atStart => exact ⟨0, by omega, rfl, Below.refl _ _⟩
  case round =>
    obtain ⟨i, i1, rfl, hb⟩ := hrel
    by_cases hit : i < n
    · have lt' : (i : Int) < (n : Int) := by omega
      obtain ⟨ga, ca', e1, za, x⟩ := own_cell (own_of_block HA.out (w' := wr) (fun g _ hlt => hb.out.block g hlt)) (by omega)
      obtain ⟨gb, cb', e2, zb, y⟩ := own_cell (own_of_block HB.out (w' := wr) (fun g _ hlt => hb.out.block g hlt)) (by omega)
      simp at e1 e2
      obtain ⟨rfl, rfl⟩ := e1
      obtain ⟨rfl, rfl⟩ := e2
      have at' : ∀ j, j < n * 4 → (stas4 S n)[j]? = some (stf S j) := fun j hj => by simp [stas4, hj]
      have x0 := x (i * 4) (by omega)
      have x1 := x (i * 4 + 1) (by omega)
      have x2 := x (i * 4 + 2) (by omega)
      have x3 := x (i * 4 + 3) (by omega)
      have y0 := y (i * 4) (by omega)
      have y1 := y (i * 4 + 1) (by omega)
      have y2 := y (i * 4 + 2) (by omega)
      have y3 := y (i * 4 + 3) (by omega)
      rw [at' _ (by omega), stf0] at x0 y0
      rw [at' _ (by omega), stf1] at x1 y1
      rw [at' _ (by omega), stf2] at x2 y2
      rw [at' _ (by omega), stf3] at x3 y3
      clear x y at'
      generalize S i = st at *
      go_wp2
      go_region
      go_wp2
      go_roundw
      case rel => exact ⟨i + 1, by omega, by go_num, hb.out.drew⟩
      case measure => simp [intOf]; omega
    · have R : Hid (TPost w (.returned (.bool true)) wr) := ⟨rfl, hb.out⟩
      go_wp2
      go_ret
      exact R.out

/-- Both show the same. -/
theorem kalike_any {f g : Frm} {m m' : Cs} {Ba Bb : Nat} {va vb : Value} {w : World} (ha : LookAt Ba f m va w) (hb : LookAt Bb g m' vb w) (hn : f.n = g.n) (hk : f.k = g.k) (hT : m.T = m'.T) (hV : ∀ i, i < f.n → f.vals m.F m.T i = g.vals m'.F m'.T i) (hS : ∀ i, i < f.k → m.S i = m'.S i) (hE : m.E = m'.E) (n20 : f.n ≤ 20) (k6 : f.k ≤ 6) (hl : m.E.length ≤ 1000000000000) :
    Calls Tryz.prog 13 #[va, vb] w fun e w' => TPost w e w' := by
  obtain ⟨vV, vS, vL, rfl, a1, a2, a3⟩ := ha.ex
  obtain ⟨uV, uS, uL, rfl, b1, b2, b3⟩ := hb.ex
  have b2' : w.ownsRow Bb 71 4 uS f.k (stas4 m.S f.k) := by
    have e : stas4 m.S f.k = stas4 m'.S g.k := by
      rw [← hk]
      unfold stas4
      refine List.map_congr_left (fun j hj => ?_)
      have hj' : j < f.k * 4 := List.mem_range.1 hj
      exact stf_congr hS j hj'
    rw [e, hk]
    exact b2
  rw [← hE] at b3
  rw [← hn] at b1
  rw [← hT]
  have SI := hid (fun W (hW : Below w.heap.size w W) => ksameInts_any (own_of_block a1 (w' := W) (fun g _ hlt => hW.block g hlt)) (own_of_block b1 (w' := W) (fun g _ hlt => hW.block g hlt)) n20)
  have SS := hid (fun W (hW : Below w.heap.size w W) => ksameSt_any (own_of_block a2 (w' := W) (fun g _ hlt => hW.block g hlt)) (own_of_block b2' (w' := W) (fun g _ hlt => hW.block g hlt)) k6)
  have SE := hid (fun W (hW : Below w.heap.size w W) => ksameEv_any (own_of_block a3 (w' := W) (fun g _ hlt => hW.block g hlt)) (own_of_block b3 (w' := W) (fun g _ hlt => hW.block g hlt)) hl)
  have HV := hid hV
  clear a1 a2 a3 b1 b2 b2' b3 ha hb hV hS hE hT hn hk
  have BX := hid (Below.refl (w.heap.size + 1 + 1) ((w.alloc (.cells #[.int .i64 m.T, vV, vS, vL, .bool true] 41)).alloc (.cells #[.int .i64 m.T, uV, uS, uL, .bool true] 41)))
  have p1 := two_boxes BX.out 1
  simp at p1
  obtain ⟨p1, q1⟩ := p1
  go_enter Tryz.func13, Tryz.ntmps13
  go_wp2_with fail
  refine (SI.out _ (two_boxes_below BX.out)).mono ?_
  rintro e w1 ⟨r, rfl, hr, hb1⟩
  have er : r = true := hr.2 HV.out
  subst er
  have B1 : Hid (Below (w.heap.size + 1 + 1) ((w.alloc (.cells #[.int .i64 m.T, vV, vS, vL, .bool true] 41)).alloc (.cells #[.int .i64 m.T, uV, uS, uL, .bool true] 41)) w1) := by have h := hb1; simp only [World.size_alloc] at h; exact h
  clear hr hb1 BX
  have p2 := two_boxes B1.out 2
  simp at p2
  obtain ⟨p2, q2⟩ := p2
  go_wp2_with fail
  refine (SS.out _ (two_boxes_below B1.out)).mono ?_
  rintro e w2 ⟨rfl, hb2⟩
  have B2 := hid (B1.out.trans (hb2.mono (by have := B1.out.size; simpa using this)))
  clear hb2 B1
  have p3 := two_boxes B2.out 3
  simp at p3
  obtain ⟨p3, q3⟩ := p3
  go_wp2_with fail
  refine (SE.out _ (two_boxes_below B2.out)).mono ?_
  rintro e w3 ⟨rfl, hb3⟩
  have B3 := hid (B2.out.trans (hb3.mono (by have := B2.out.size; simpa using this)))
  clear hb3 B2
  have p0 := two_boxes B3.out 0
  have p4 := two_boxes B3.out 4
  simp at p0 p4
  obtain ⟨p0, q0⟩ := p0
  obtain ⟨p4, q4⟩ := p4
  have R : Hid (TPost w (.returned (.bool true)) w3) := ⟨rfl, two_boxes_below B3.out⟩
  clear B3
  go_wp2
  go_ret
  exact R.out

end Go.Proofs.YtmofidaojmiepaaGreatDoor
