/-
  THE CODE: a case settles.
-/
import Derived.Test.YtmofidaojmiepaaGreatDoorGK4
set_option linter.unusedVariables false
set_option linter.unusedSimpArgs false
namespace Go.Proofs.YtmofidaojmiepaaGreatDoor

open Go.RowKit

attribute [local go_sem ↓] Go.wp_at_zero Go.wp_at_succ

/-- What has turned, and the log's room. -/
def KGone (p : KPl) (vE vE' : Value) (w w' : World) : Prop := Chg (KOwn p vE) w w' ∧ Grew w vE vE'

theorem KOwn.grew {w : World} {p : KPl} {v v' : Value} (g : Grew w v v') : ∀ j, j < w.heap.size → KOwn p v' j → KOwn p v j := fun j hj hx => by
  rcases hx with h | h | h | h
  · exact Or.inl h
  · exact Or.inr (Or.inl h)
  · exact Or.inr (Or.inr (Or.inl h))
  · rcases g j h with e | e
    · exact Or.inr (Or.inr (Or.inr e))
    · omega

theorem KGone.refl (p : KPl) (vE : Value) (w : World) : KGone p vE vE w w := ⟨Chg.refl _ _, Grew.refl _ _⟩

theorem KGone.low {p : KPl} {vE vE' : Value} {w w1 w2 : World} (h : KGone p vE vE' w w1) (g : Below w1.heap.size w1 w2) : KGone p vE vE' w w2 := ⟨h.1.low g, h.2⟩

theorem KGone.setS {p : KPl} {vE vE' : Value} {w w1 : World} (h : KGone p vE vE' w w1) (q : Nat) (v : Value) : KGone p vE vE' w (w1.setCell ⟨p.bS, q, none⟩ v) := ⟨h.1.setCell _ _ (Or.inr (Or.inr (Or.inl rfl))), h.2⟩

theorem KGone.setC {p : KPl} {vE vE' : Value} {w w1 : World} (h : KGone p vE vE' w w1) (q : Nat) (v : Value) : KGone p vE vE' w (w1.setCell ⟨p.bc, q, none⟩ v) := ⟨h.1.setCell _ _ (Or.inr (Or.inl rfl)), h.2⟩

theorem KGone.setP {p : KPl} {vE vE' : Value} {w w1 : World} (h : KGone p vE vE' w w1) (q : Nat) (v : Value) : KGone p vE vE' w (w1.setCell ⟨p.bp, q, none⟩ v) := ⟨h.1.setCell _ _ (Or.inl rfl), h.2⟩

theorem KGone.drew {p : KPl} {vE vE' : Value} {w w1 : World} (h : KGone p vE vE' w w1) : KGone p vE vE' w w1.drew := ⟨h.1.drew, h.2⟩

theorem KGone.trans {p : KPl} {vE vE' vE2 : Value} {w w1 w2 : World} (h : KGone p vE vE' w w1) (g : KGone p vE' vE2 w1 w2) : KGone p vE vE2 w w2 := ⟨h.1.trans g.1 (KOwn.grew h.2), h.2.trans g.2 h.1.size⟩

theorem KGone.row {p : KPl} {vE vE' : Value} {w w1 : World} (h : KGone p vE vE' w w1) {b t l : Nat} {g : Nat → Value} (hr : w.rowIs b t l g) (hb : ¬ KOwn p vE b) : w1.rowIs b t l g := hr.of_block (h.1.block b hr.lt hb)

/-- An event more, in place. -/
theorem KSt.event {Q : Nat → Prop} {f : Frm} {p : KPl} {F : Nat → Int} {T : Int} {op : Bool} {S : Nat → St} {vE : Value} {E : List Ev} {w w1 : World} {o : Obj} {r : Nat} {l : Int} {g cap : Nat} (h : KSt Q f p F T op S vE E w)
    (h1 : w1.ownsRow 0 99 3 (.slice (some ⟨g, 0, none⟩) (E.length + 1) cap) (E.length + 1) (evs E ++ [.int .i64 T, .int .i64 r, .int .i64 l])) (hg : ((w.alloc o).drew).grownBy w1 vE.ownBlock) (hat : vE.ownBlock = some g ∨ g = w.heap.size + 1) :
    KSt Q f p F T op S (.slice (some ⟨g, 0, none⟩) (E.length + 1) cap) (E ++ [⟨T, r, l⟩]) (w1.setCell ⟨p.bp, 7, none⟩ (.slice (some ⟨g, 0, none⟩) (E.length + 1) cap)) ∧ KGone p vE (.slice (some ⟨g, 0, none⟩) (E.length + 1) cap) w (w1.setCell ⟨p.bp, 7, none⟩ (.slice (some ⟨g, 0, none⟩) (E.length + 1) cap)) := by
  obtain ⟨q, N, f1, f2, f3⟩ := h.cel
  obtain ⟨n1, n2, n3, n4, n5, n6⟩ := h.nbp
  have hsz := hg.size
  simp at hsz
  have zp := h.row.lt
  have hgr : Grew w vE (.slice (some ⟨g, 0, none⟩) (E.length + 1) cap) := fun j hj => by
    have : g = j := by simpa [Value.ownBlock] using hj
    subst this
    rcases hat with h | h
    · exact Or.inl h
    · exact Or.inr (by omega)
  have ch : Chg (KOwn p vE) w (w1.setCell ⟨p.bp, 7, none⟩ (.slice (some ⟨g, 0, none⟩) (E.length + 1) cap)) := ⟨hg.os, hg.tape, hg.output, by simp; omega, fun j hj hx => by
    rw [Below.heap_setCell _ _ _ _ (fun e => hx (Or.inl e))]
    exact ev_far w o hg hj (fun e => hx (Or.inr (Or.inr (Or.inr e))))⟩
  have gne : (Value.slice (some ⟨g, 0, none⟩) (E.length + 1) cap).ownBlock ≠ some p.bp := by
    intro e
    rcases hgr _ e with h | h
    · exact n4 h
    · omega
  refine ⟨⟨h.base.move (ch.stand (fun j hj hx => ?_)), fun j hj => by have := h.qlt j hj; have := ch.size; omega, fun j hj => ?_, ((h.row.of_block (ev_far w o hg zp n4)).set 7 _).congr (fun j hj => kf_set7 j hj), ⟨q, N, (f1.of_block (ev_far w o hg f1.lt n5)).setOther n1 _, f2, f3⟩, (h.sta.of_block (ev_far w o hg h.sta.lt n6)).setOther n2 _, ?_⟩, ch, hgr⟩
  · obtain ⟨a1, a2, a3, a4⟩ := h.dis j hj
    rcases hx with hx | hx | hx | hx
    · exact a1 hx
    · exact a2 hx
    · exact a3 hx
    · exact a4 hx
  · obtain ⟨a1, a2, a3, a4⟩ := h.dis j hj
    refine ⟨a1, a2, a3, fun hx => ?_⟩
    rcases hgr j hx with hx | hx
    · exact a4 hx
    · have := h.qlt j hj; omega
  · rw [evs_snoc, List.length_append]
    exact ownsRow_setCell_other h1 gne _

theorem low_alloc {W w : World} {o : Obj} (h : W.heap.size ≤ w.heap.size) (g : ∀ b j, b < W.heap.size → w.cell? ⟨b, j, none⟩ = W.cell? ⟨b, j, none⟩) : W.heap.size ≤ (w.alloc o).heap.size ∧ ∀ b j, b < W.heap.size → (w.alloc o).cell? ⟨b, j, none⟩ = W.cell? ⟨b, j, none⟩ :=
  ⟨by simp; omega, fun b j hb => by rw [World.cell?_alloc_lt (h := show b < w.heap.size by omega)]; exact g b j hb⟩

theorem low_set {W w : World} {p : Addr} {v : Value} (h : W.heap.size ≤ w.heap.size) (g : ∀ b j, b < W.heap.size → w.cell? ⟨b, j, none⟩ = W.cell? ⟨b, j, none⟩) (hp : W.heap.size ≤ p.block) : W.heap.size ≤ (w.setCell p v).heap.size ∧ ∀ b j, b < W.heap.size → (w.setCell p v).cell? ⟨b, j, none⟩ = W.cell? ⟨b, j, none⟩ :=
  ⟨by simpa using h, fun b j hb => by rw [World.cell?_setCell_far _ _ _ _ (show p.block ≠ b by omega)]; exact g b j hb⟩

theorem low_below {W w w' : World} (h : W.heap.size ≤ w.heap.size) (g : ∀ b j, b < W.heap.size → w.cell? ⟨b, j, none⟩ = W.cell? ⟨b, j, none⟩) (hb : Below w.heap.size w w') : W.heap.size ≤ w'.heap.size ∧ ∀ b j, b < W.heap.size → w'.cell? ⟨b, j, none⟩ = W.cell? ⟨b, j, none⟩ :=
  ⟨Nat.le_trans h hb.size, fun b j hl => by rw [hb.cell (p := ⟨b, j, none⟩) (show b < w.heap.size by omega)]; exact g b j hl⟩

def Lo (W w : World) : Prop := W.heap.size ≤ w.heap.size ∧ ∀ b j, b < W.heap.size → w.cell? ⟨b, j, none⟩ = W.cell? ⟨b, j, none⟩

theorem Lo.drew0 (W : World) : Lo W W.drew := ⟨Nat.le_refl _, fun _ _ _ => rfl⟩

theorem Lo.drewM {W w : World} (h : Lo W w) : Lo W w.drew := h

theorem Lo.alloc {W w : World} (h : Lo W w) (o : Obj) : Lo W (w.alloc o) := low_alloc h.1 h.2

theorem Lo.set {W w : World} (h : Lo W w) {p : Addr} (hp : W.heap.size ≤ p.block) (v : Value) : Lo W (w.setCell p v) := low_set h.1 h.2 hp

theorem Lo.below {W w w' : World} (h : Lo W w) (hb : Below w.heap.size w w') : Lo W w' := low_below h.1 h.2 hb

/-- The low blocks stand, and so nine cells of them. -/
theorem nine {W w' : World} {b1 b2 b3 b4 o4 i : Nat} {v0 v1 v2 v3 v4 v5 v6 v7 v8 : Value} (x0 : W.cell? ⟨b1, 0, none⟩ = some v0) (x1 : W.cell? ⟨b1, 1, none⟩ = some v1) (x2 : W.cell? ⟨b2, 6, none⟩ = some v2) (x3 : W.cell? ⟨b2, 4, none⟩ = some v3) (x4 : W.cell? ⟨b3, i * 4, none⟩ = some v4) (x5 : W.cell? ⟨b3, i * 4 + 1, none⟩ = some v5) (x6 : W.cell? ⟨b3, i * 4 + 2, none⟩ = some v6) (x7 : W.cell? ⟨b3, i * 4 + 3, none⟩ = some v7) (x8 : W.cell? ⟨b4, o4, none⟩ = some v8)
    (z1 : b1 < W.heap.size) (z2 : b2 < W.heap.size) (z3 : b3 < W.heap.size) (z4 : b4 < W.heap.size) (h : Lo W w') :
    Lo W w' ∧ w'.cell? ⟨b1, 0, none⟩ = some v0 ∧ w'.cell? ⟨b1, 1, none⟩ = some v1 ∧ w'.cell? ⟨b2, 6, none⟩ = some v2 ∧ w'.cell? ⟨b2, 4, none⟩ = some v3 ∧ w'.cell? ⟨b3, i * 4, none⟩ = some v4 ∧ w'.cell? ⟨b3, i * 4 + 1, none⟩ = some v5 ∧ w'.cell? ⟨b3, i * 4 + 2, none⟩ = some v6 ∧ w'.cell? ⟨b3, i * 4 + 3, none⟩ = some v7 ∧ w'.cell? ⟨b4, o4, none⟩ = some v8 :=
  ⟨h, (h.2 _ _ z1).trans x0, (h.2 _ _ z1).trans x1, (h.2 _ _ z2).trans x2, (h.2 _ _ z2).trans x3, (h.2 _ _ z3).trans x4, (h.2 _ _ z3).trans x5, (h.2 _ _ z3).trans x6, (h.2 _ _ z3).trans x7, (h.2 _ _ z4).trans x8⟩

theorem box_row {w w5 : World} (hb : Below ((w.alloc (.cells #[.bool false, .int .i64 0, .int .i64 0, .bool false] 71)).drew).heap.size ((w.alloc (.cells #[.bool false, .int .i64 0, .int .i64 0, .bool false] 71)).drew) w5) : w5.rowIs w.heap.size 71 4 (stf (fun _ => noSt)) := by
  have h1 : (w.alloc (.cells #[.bool false, .int .i64 0, .int .i64 0, .bool false] 71)).rowIs w.heap.size 71 4 (stf (fun _ => noSt)) := World.rowIs_alloc w #[.bool false, .int .i64 0, .int .i64 0, .bool false] 71 (stf (fun _ => noSt)) (fun i hi => by
    have hi' : i = 0 ∨ i = 1 ∨ i = 2 ∨ i = 3 := by simp at hi; omega
    rcases hi' with rfl | rfl | rfl | rfl <;> rfl)
  exact h1.drew.of_block (hb.block _ h1.lt)

theorem box_frozen {w w5 : World} (hb : Below ((w.alloc (.cells #[.bool false, .int .i64 0, .int .i64 0, .bool false] 71)).drew).heap.size ((w.alloc (.cells #[.bool false, .int .i64 0, .int .i64 0, .bool false] 71)).drew) w5) : ∀ j, w5.frozen? ⟨w.heap.size, j, none⟩ = false := fun j => (box_row hb).frozen j

theorem box_cells {w w5 : World} (hb : Below ((w.alloc (.cells #[.bool false, .int .i64 0, .int .i64 0, .bool false] 71)).drew).heap.size ((w.alloc (.cells #[.bool false, .int .i64 0, .int .i64 0, .bool false] 71)).drew) w5) : w5.cell? ⟨w.heap.size, 0, none⟩ = some (.bool false) ∧ w5.cell? ⟨w.heap.size, 1, none⟩ = some (.int .i64 0) ∧ w5.cell? ⟨w.heap.size, 2, none⟩ = some (.int .i64 0) ∧ w5.cell? ⟨w.heap.size, 3, none⟩ = some (.bool false) :=
  ⟨(box_row hb).cell (by omega), (box_row hb).cell (by omega), (box_row hb).cell (by omega), (box_row hb).cell (by omega)⟩

/-- A state in a box of its own. -/
structure Boxed (Wb : World) (bx : Nat) (st : St) (X : World) : Prop where
  bel : Below Wb.heap.size Wb X
  low : Wb.heap.size ≤ bx
  row : X.rowIs bx 71 4 (stf (fun _ => st))

theorem boxA {Wb w5 : World} (hb : Below Wb.heap.size Wb.drew w5) (st : St) : Boxed Wb w5.heap.size st (w5.alloc (.cells #[.bool st.lit, .int .i64 st.since, .int .i64 st.level, .bool st.acked] 71)) := by
  have hb' : Below Wb.heap.size Wb w5 := ⟨hb.os, hb.tape, hb.output, hb.size, hb.block⟩
  exact ⟨hb'.alloc hb'.size _, hb'.size, World.rowIs_alloc w5 #[.bool st.lit, .int .i64 st.since, .int .i64 st.level, .bool st.acked] 71 (stf (fun _ => st)) (fun i hi => by
    have hi' : i = 0 ∨ i = 1 ∨ i = 2 ∨ i = 3 := by simp at hi; omega
    rcases hi' with rfl | rfl | rfl | rfl <;> rfl)⟩

theorem boxB {Wb w5 : World} (hb : Below ((Wb.alloc (.cells #[.bool false, .int .i64 0, .int .i64 0, .bool false] 71)).drew).heap.size ((Wb.alloc (.cells #[.bool false, .int .i64 0, .int .i64 0, .bool false] 71)).drew) w5) (st : St) :
    Boxed Wb Wb.heap.size st ((((w5.setCell ⟨Wb.heap.size, 0, none⟩ (.bool st.lit)).setCell ⟨Wb.heap.size, 1, none⟩ (.int .i64 st.since)).setCell ⟨Wb.heap.size, 2, none⟩ (.int .i64 st.level)).setCell ⟨Wb.heap.size, 3, none⟩ (.bool st.acked)) := by
  have h1 := box_row hb
  have hb' : Below Wb.heap.size Wb w5 := (((Below.refl _ _).alloc (Nat.le_refl _) _).drew).trans (hb.mono (by simp))
  refine ⟨(((hb'.setCell (Nat.le_refl _) _).setCell (Nat.le_refl _) _).setCell (Nat.le_refl _) _).setCell (Nat.le_refl _) _, Nat.le_refl _, ((((h1.set 0 _).set 1 _).set 2 _).set 3 _).congr (fun i hi => ?_)⟩
  have hi' : i = 0 ∨ i = 1 ∨ i = 2 ∨ i = 3 := by omega
  rcases hi' with rfl | rfl | rfl | rfl <;> rfl

/-- What settle leaves. -/
def KsP (Q : Nat → Prop) (f : Frm) (p : KPl) (F : Nat → Int) (T : Int) (S : Nat → St) (vE : Value) (E : List Ev) (w : World) (e : Ending) (w' : World) : Prop :=
  ∃ vE', e = .returned (.tuple #[]) ∧ KSt Q f p F T true (setS f (f.vals F T) T S) vE' (E ++ setE f (f.vals F T) T S) w' ∧ KGone p vE vE' w w'

theorem ksp_of {Q : Nat → Prop} {f : Frm} {p : KPl} {F : Nat → Int} {T : Int} {S S' : Nat → St} {vE vE' : Value} {E E' : List Ev} {w w' : World} (h : Par f (f.vals F T) T S E f.k S' E') (hs : KSt Q f p F T true S' vE' E' w') (hc : KGone p vE vE' w w') : KsP Q f p F T S vE E w (.returned (.tuple #[])) w' := by
  refine ⟨vE', rfl, ?_, hc⟩
  obtain ⟨h1, rfl⟩ := h
  refine hs.congrS (fun i hi => ?_)
  rw [h1, if_pos hi]
  unfold setS
  rw [if_pos hi]

set_option maxRecDepth 100000 in
set_option maxHeartbeats 3000000 in
theorem ksettle_any {Q : Nat → Prop} {f : Frm} {p : KPl} {F : Nat → Int} {T : Int} {S : Nat → St} {vE : Value} {E : List Ev} {w : World} {bv : Nat} (hS : KSt Q f p F T true S vE E w) (hf : f.Ok) (hSt : ∀ i, i < f.k → StOk (S i)) (hE : E.length ≤ 999999999000) (hv : w.rowIs bv 3 f.n (fun i => .int .i64 (f.vals F T i))) (hnb : ¬ KOwn p vE bv) :
    Calls Tryz.prog 48 #[.pointer (some ⟨p.bp, 0, none⟩), .slice (some ⟨bv, 0, none⟩) f.n f.n] w fun e w' => KsP Q f p F T S vE E w e w' := by
  obtain ⟨i9, hi9, hz⟩ := Option.map_eq_some_iff.1 info101
  simp only [Prod.mk.injEq] at hz
  obtain ⟨hz0, hz1, hz2⟩ := hz
  have HI := hid hi9
  have HZ0 := hid hz0
  have HZ1 := hid hz1
  have HZ2 := hid hz2
  clear hi9 hz0 hz1 hz2
  obtain ⟨n1, hn, hk, wk1, wk2⟩ := hf.sizes
  have r1 := hS.row.cell (i := 1) (by omega)
  have r5 := hS.row.cell (i := 5) (by omega)
  simp [kf] at r1 r5
  have HS := hid hS
  have HST := hid hSt
  have HR := hid hf.rules
  have HV := hid hv
  have NBV : Hid (¬ KOwn p vE bv) := hnb
  have HP0 := hid (Par.start f (f.vals F T) T S E)
  have G0 := hid (KGone.refl p vE w)
  clear hS hSt hf hv hnb
  go_enter Tryz.func48, Tryz.ntmps48
  go_wp2
  go_loopw [18] (fun t wr => ∃ (i : Nat) (S' : Nat → St) (vE' : Value) (E' : List Ev), i ≤ f.k ∧ t = .int .i64 i ∧ E'.length ≤ E.length + i ∧ Hid (Par f (f.vals F T) T S E i S' E') ∧ Hid (KSt Q f p F T true S' vE' E' wr) ∧ Hid (wr.rowIs bv 3 f.n (fun j => .int .i64 (f.vals F T j))) ∧ Hid (KGone p vE vE' w wr) ∧ Hid (¬ KOwn p vE' bv)) (fun t _ => f.k - (intOf t).toNat)
  case atStart => exact ⟨0, S, vE, E, by omega, rfl, by omega, HP0, HS, HV, G0, NBV⟩
  case round =>
    clear HV G0 HS HP0 NBV r1 r5
    obtain ⟨i, S', vE', E', i1, rfl, hnE, hpar, hs, hv, hbw, hnb⟩ := hrel
    by_cases hit : i < f.k
    · obtain ⟨bR, oR, haO, hbR, hrr⟩ : ∃ b off, p.aR = some ⟨b, off, none⟩ ∧ b < wr.heap.size ∧ ∀ m, m < f.k → RuleIs wr b (off + m * 2) (f.R m) := by
        rcases hs.out.base.now.2.1 with h | h
        · omega
        · exact h
      obtain ⟨u0, ast, caps, u1, u2, u3⟩ := hrr i hit
      have lt' : (i : Int) < (f.k : Int) := by omega
      have SOK : StOk (S' i) := by rw [hpar.out.here]; exact HST.out i hit
      have WB0 : Hid (Below wr.heap.size wr (wr.alloc (.cells #[.int .i64 (f.R i).guard, .slice ast (f.R i).steps.length caps] 51))) := (Below.refl _ _).alloc (Nat.le_refl _) _
      have SL := hid (fun W (h : Below wr.heap.size wr W) (g t : Int) => rsettle_any (HR.out i hit) SOK (w := W) (SlAt.below u2 h (Nat.le_refl _)) g t)
      unfold SlP at SL
      unfold St.val at SL
      rw [haO]
      clear u2 hrr haO SOK
      go_upto_region 4 with (fail)
      have x0 := boxed (Below.refl (wr.heap.size + 1) (wr.alloc (.cells #[.int .i64 (f.R i).guard, .slice ast (f.R i).steps.length caps] 51))) 0
      have x1 := boxed (Below.refl (wr.heap.size + 1) (wr.alloc (.cells #[.int .i64 (f.R i).guard, .slice ast (f.R i).steps.length caps] 51))) 1
      have zx : wr.heap.size < (wr.alloc (.cells #[.int .i64 (f.R i).guard, .slice ast (f.R i).steps.length caps] 51)).heap.size := by simp
      generalize (wr.alloc (.cells #[.int .i64 (f.R i).guard, .slice ast (f.R i).steps.length caps] 51)) = Wb at *
      simp at x0 x1
      have hs2 := hid (hs.out.drop WB0.out)
      have hv2 := hid (hv.out.of_block (WB0.out.block _ hv.out.lt))
      have hb3 : Hid (KGone p vE vE' w Wb) := hbw.out.low WB0.out
      have NB := hid (fun W (h : Below Wb.heap.size Wb W) => SL.out W (WB0.out.trans (h.mono WB0.out.size)))
      clear hs hv hbw u0 u1 SL WB0
      obtain ⟨g0, g1, _, _⟩ := HR.out i hit
      obtain ⟨gx, hgx⟩ := Int.eq_ofNat_of_zero_le g0
      have hgn : gx < f.n := by omega
      have HG : Hid (grd f.R (f.vals F T) i = f.vals F T gx) := by show f.vals F T (f.R i).guard.toNat = _; rw [hgx]; rfl
      rw [hgx] at x0 NB
      clear hgx g0 g1
      have vx := hv2.out.cell (i := gx) hgn
      have y4 := hs2.out.row.cell (i := 4) (by omega)
      have y6 := hs2.out.row.cell (i := 6) (by omega)
      simp [kf] at y4 y6
      have s0 := hs2.out.sta.cell (i := i * 4) (by omega)
      have s1 := hs2.out.sta.cell (i := i * 4 + 1) (by omega)
      have s2 := hs2.out.sta.cell (i := i * 4 + 2) (by omega)
      have s3 := hs2.out.sta.cell (i := i * 4 + 3) (by omega)
      rw [stf0] at s0
      rw [stf1] at s1
      rw [stf2] at s2
      rw [stf3] at s3
      have zS := hs2.out.sta.lt
      have zP := hs2.out.row.lt
      have zV := hv2.out.lt
      have NX := hid (hpar.out.next ⟨rfl, se_ev _ _ _ _ _⟩)
      rw [HG.out] at NX
      generalize hst : stepSt (f.R i) (S' i) (f.vals F T gx) T = st at *
      generalize hse : seB (f.R i) (S' i) (f.vals F T gx) T = fires at *
      have NC := hid (fun W (h : Below Wb.heap.size Wb W) => NB.out W h (f.vals F T gx) T)
      rw [hst, hse] at NC
      clear hst hse NB
      have L0 := Lo.drew0 Wb
      go_region_held3 (fun w' => Lo Wb w' ∧ w'.cell? ⟨wr.heap.size, 0, none⟩ = some (.int .i64 gx) ∧ w'.cell? ⟨wr.heap.size, 1, none⟩ = some (.slice ast (f.R i).steps.length caps) ∧ w'.cell? ⟨p.bp, 6, none⟩ = some (.slice (some ⟨p.bS, 0, none⟩) f.k p.cS) ∧ w'.cell? ⟨p.bp, 4, none⟩ = some (.int .i64 T) ∧ w'.cell? ⟨p.bS, i * 4, none⟩ = some (.bool (S' i).lit) ∧ w'.cell? ⟨p.bS, i * 4 + 1, none⟩ = some (.int .i64 (S' i).since) ∧ w'.cell? ⟨p.bS, i * 4 + 2, none⟩ = some (.int .i64 (S' i).level) ∧ w'.cell? ⟨p.bS, i * 4 + 3, none⟩ = some (.bool (S' i).acked) ∧ w'.cell? ⟨bv, gx, none⟩ = some (.int .i64 (f.vals F T gx)))
        ((refine nine x0 x1 y6 y4 s0 s1 s2 s3 vx zx zP zS zV ?_; repeat (first | assumption | exact Lo.drew0 _ | exact ⟨Nat.le_refl _, fun _ _ _ => rfl⟩ | refine Lo.alloc ?_ _ | refine Lo.set ?_ (by first | exact Nat.le_refl _ | assumption | (have := hb5.size; simp at this ⊢; omega)) _ | refine Lo.below (w := Wb.drew) ?_ hb5 | refine Lo.below (w := (Wb.alloc _).drew) ?_ hb5 | refine Lo.drewM ?_)))
        ((go_at_call 66; refine (NC.out _ (by repeat' (first | exact Below.refl _ _ | refine Below.drew ?_ | refine Below.alloc ?_ (by first | exact Nat.le_refl _ | (simp; done) | (simp; omega)) _))).mono ?_; rintro e w5 ⟨rfl, hb5⟩; try (have fz5 : ∀ j, w5.frozen? ⟨Wb.heap.size, j, none⟩ = false := box_frozen hb5); try (have fc5 := box_cells hb5; obtain ⟨fc0, fc1, fc2, fc3⟩ := fc5)))
      all_goals (first
        | (have BX := hid (boxA (Wb := Wb) hb5 st)
           generalize (w5.alloc (.cells #[.bool st.lit, .int .i64 st.since, .int .i64 st.level, .bool st.acked] 71)) = X at *
           have HBX : ∃ b, b = w5.heap.size := ⟨_, rfl⟩
           obtain ⟨bx, hbx⟩ := HBX
           rw [← hbx]
           rw [← hbx] at BX
           clear hbx)
        | (have BX := hid (boxB (Wb := Wb) hb5 st)
           generalize ((((w5.setCell ⟨Wb.heap.size, 0, none⟩ (.bool st.lit)).setCell ⟨Wb.heap.size, 1, none⟩ (.int .i64 st.since)).setCell ⟨Wb.heap.size, 2, none⟩ (.int .i64 st.level)).setCell ⟨Wb.heap.size, 3, none⟩ (.bool st.acked)) = X at *
           have HBX : ∃ b, Hid (b = Wb.heap.size) := ⟨_, rfl⟩
           obtain ⟨bx, hbx⟩ := HBX
           rw [← hbx.out]
           have BX2 : Hid (Boxed Wb bx st X) := by show Boxed _ _ _ _; rw [hbx.out]; exact BX.out
           clear BX hbx
           have BX := BX2
           clear BX2))
      all_goals (
        clear hb5 x0 x1 y4 y6 s0 s1 s2 s3 vx L0 NC HG
        try clear fz5
        try clear fc0 fc1 fc2 fc3
        have hs3 := hid (hs2.out.drop BX.out.bel)
        have hv3 := hid (hv2.out.of_block (BX.out.bel.block _ hv2.out.lt))
        have hb4 : Hid (KGone p vE vE' w X) := hb3.out.low BX.out.bel
        have zb : Wb.heap.size ≤ bx := BX.out.low
        have RB := hid BX.out.row
        have nS : bx ≠ p.bS := by omega
        have nP : bx ≠ p.bp := by omega
        have nV : bv ≠ p.bS := fun e => hnb.out (Or.inr (Or.inr (Or.inl e)))
        clear hs2 hv2 hb3 BX zx zS zP zV
        have y6 := hs3.out.row.cell (i := 6) (by omega)
        simp [kf] at y6
        have p0 := RB.out.cell (i := 0) (by omega)
        have p1 := RB.out.cell (i := 1) (by omega)
        have p2 := RB.out.cell (i := 2) (by omega)
        have p3 := RB.out.cell (i := 3) (by omega)
        simp [stf] at p0 p1 p2 p3
        have c0 := hs3.out.sta.cell (i := i * 4) (by omega)
        have c1 := hs3.out.sta.cell (i := i * 4 + 1) (by omega)
        have c2 := hs3.out.sta.cell (i := i * 4 + 2) (by omega)
        have c3 := hs3.out.sta.cell (i := i * 4 + 3) (by omega)
        have cz : ∀ j, X.frozen? ⟨p.bS, j, none⟩ = false := fun j => hs3.out.sta.frozen j
        have zS := hs3.out.sta.lt
        have zP := hs3.out.row.lt
        have zB := RB.out.lt
        have A1 := hid ((hs3.out.set4 i st.lit st.since st.level st.acked).drew)
        have A3 : Hid (((((X.setCell ⟨p.bS, i * 4, none⟩ (.bool st.lit)).setCell ⟨p.bS, i * 4 + 1, none⟩ (.int .i64 st.since)).setCell ⟨p.bS, i * 4 + 2, none⟩ (.int .i64 st.level)).setCell ⟨p.bS, i * 4 + 3, none⟩ (.bool st.acked)).drew.rowIs bv 3 f.n (fun j => .int .i64 (f.vals F T j))) := ((((hv3.out.setOther nV _).setOther nV _).setOther nV _).setOther nV _).drew
        have A4 : Hid (KGone p vE vE' w ((((X.setCell ⟨p.bS, i * 4, none⟩ (.bool st.lit)).setCell ⟨p.bS, i * 4 + 1, none⟩ (.int .i64 st.since)).setCell ⟨p.bS, i * 4 + 2, none⟩ (.int .i64 st.level)).setCell ⟨p.bS, i * 4 + 3, none⟩ (.bool st.acked)).drew) := ((((hb4.out.setS _ _).setS _ _).setS _ _).setS _ _).drew
        have A5 : Hid (((((X.setCell ⟨p.bS, i * 4, none⟩ (.bool st.lit)).setCell ⟨p.bS, i * 4 + 1, none⟩ (.int .i64 st.since)).setCell ⟨p.bS, i * 4 + 2, none⟩ (.int .i64 st.level)).setCell ⟨p.bS, i * 4 + 3, none⟩ (.bool st.acked)).drew.rowIs bx 71 4 (stf (fun _ => st))) := ((((RB.out.setOther nS _).setOther nS _).setOther nS _).setOther nS _).drew
        clear hs3 hv3 hb4 RB
        cases fires
        · rw [if_neg (by simp), List.append_nil] at NX
          go_wp2
          go_region
          go_wp2
          go_roundw
          case rel => exact ⟨i + 1, upd S' i st, vE', E', by omega, by go_num, by omega, NX, A1, A3, A4, hnb⟩
          case measure => simp [intOf]; omega
        · rw [if_pos rfl] at NX
          go_wp2
          go_region
          go_wp2_with fail
          generalize ((((X.setCell ⟨p.bS, i * 4, none⟩ (.bool st.lit)).setCell ⟨p.bS, i * 4 + 1, none⟩ (.int .i64 st.since)).setCell ⟨p.bS, i * 4 + 2, none⟩ (.int .i64 st.level)).setCell ⟨p.bS, i * 4 + 3, none⟩ (.bool st.acked)).drew = Wf at *
          clear y6 p0 p1 p2 p3 c0 c1 c2 c3 cz zS zP zB
          have y7 := A1.out.row.cell (i := 7) (by omega)
          have y4 := A1.out.row.cell (i := 4) (by omega)
          simp [kf] at y7 y4
          have l2 := A5.out.cell (i := 2) (by omega)
          simp [stf] at l2
          have f7 := A1.out.row.frozen 7
          have zP := A1.out.row.lt
          have zB := A5.out.lt
          have y7a : ∀ o, (Wf.alloc o).cell? ⟨p.bp, 7, none⟩ = some vE' := fun o => by rw [World.cell?_alloc_lt (h := zP)]; exact y7
          have OWN := hid A1.out.ev
          have NE : Hid (vE'.ownBlock ≠ some p.bp) := A1.out.nbp.2.2.2.1
          have hE9 : E'.length ≤ 999999999006 := by omega
          go_region_law ((refine step_append_lies _ (by rfl) (.tmp 56) (.tmp 65) 39 (by rfl) 0 99 i9 _ 3 24 Tryz.underlying39 HI.out HZ0.out HZ1.out HZ2.out (by rfl) (by omega) vE' E'.length (evs E') (by simp [Act.eval, Act.put]) (by exact own_alloc_drew OWN.out _) ⟨Wf.heap.size, 0, none⟩ 1 1 [.int .i64 T, .int .i64 i, .int .i64 st.level] (by simp [Act.eval, Act.put]) (by rfl) (by exact news3 _ _ _ _ _) (by simp [Value.oneCell']) (by omega) (by unfold maxLen; omega) (by omega) (by omega) (Wf.heap.size + 1) (by simp) ?_; intro g cap w1 hown1 hgrow hat hlt; have hbk : w1.heap[p.bp]? = Wf.heap[p.bp]? := ev_far Wf _ hgrow (by omega) NE.out; have e8 : w1.cell? ⟨p.bp, 7, none⟩ = some vE' := (by rw [World.cell?_of_block (w := Wf) hbk]; exact y7); have e9 : w1.frozen? ⟨p.bp, 7, none⟩ = false := (by rw [World.frozen?_of_block (w := Wf) hbk]; exact f7)))
          all_goals (
            obtain ⟨z1, z2⟩ := A1.out.event hown1 hgrow hat
            have Z1 := hid z1
            have Z3 := hid (z2.row A3.out hnb.out)
            have Z4 := hid (A4.out.trans z2)
            have Z5 : Hid (¬ KOwn p (.slice (some ⟨g, 0, none⟩) (E'.length + 1) cap) bv) := fun h => hnb.out (KOwn.grew z2.2 bv A3.out.lt h)
            clear z1 z2 hown1 hgrow hat hlt hbk
            go_wp2
            go_roundw
            case rel => exact ⟨i + 1, upd S' i st, _, E' ++ [⟨T, i, st.level⟩], by omega, by go_num, by simp; omega, NX, Z1, Z3, Z4, Z5⟩
            case measure => simp [intOf]; omega))
    · obtain rfl : i = f.k := by omega
      have R : Hid (KsP Q f p F T S vE E w (.returned (.tuple #[])) wr) := ksp_of hpar.out hs.out hbw.out
      go_wp2
      go_end0
      exact R.out

end Go.Proofs.YtmofidaojmiepaaGreatDoor
