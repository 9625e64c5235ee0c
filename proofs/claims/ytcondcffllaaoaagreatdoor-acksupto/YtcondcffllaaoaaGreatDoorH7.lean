/-
  MEMORY: the document's own copy of a form, whole.
-/
import Derived.Test.YtcondcffllaaoaaGreatDoorH5
set_option linter.unusedVariables false
set_option linter.unusedSimpArgs false
namespace Go.Proofs.YtcondcffllaaoaaGreatDoor
open Go.RowKit
attribute [local go_sem ↓] Go.wp_at_zero Go.wp_at_succ

def gOwn (N n : Nat) (week : Int) (v : Value) (j : Nat) : Value := if j = 0 then .slice (some ⟨N + 1 + 1 + 1, 0, none⟩) n n else if j = 1 then v else if j = 2 then .int .i64 week else .slice none 0 0

theorem news2 (w : World) (a b : Value) (t : TypeId) : ∀ j u, [a, b][j]? = some u → (w.alloc (.cells #[a, b] t)).drew.cell? ((⟨w.heap.size, 0, none⟩ : Addr).add j) = some u :=
  World.news_of_block (cs := #[a, b]) (t := t) (fr := (0, 0)) (by show (w.heap.push _)[w.heap.size]? = _; simp)

theorem grow_below {B : Nat} {w1 w2 : World} {o : Obj} {row : Option Nat} (hg : ((w1.alloc o).drew).grownBy w2 row) (hB : B ≤ w1.heap.size) (hr : ∀ g, row = some g → B ≤ g) : Below B w1 w2 :=
  Below.grown (((Below.refl B w1).alloc hB o).drew) hg (by show B ≤ (w1.heap.push o).size; simp; omega) hr

theorem rulL_next {w2 : World} {base m b1 g cap bg : Nat} {R : Nat → Rul} {bs : Nat → Nat} {xs : List Value} (hx : ∀ j, j < m * 2 → xs[j]? = some (ruleOwn R bs j)) (hl : xs.length = m * 2) (hbg : bg < base)
    (h : w2.ownsRow base 81 2 (.slice (some ⟨g, 0, none⟩) (m + 1) cap) (m + 1) (xs ++ [.int .i64 (R m).guard, .slice (some ⟨b1, 0, none⟩) (R m).steps.length (R m).steps.length])) (u : Value) :
    RulL (w2.setCell ⟨bg, 1, none⟩ u) base R (upd bs m b1) (m + 1) (.slice (some ⟨g, 0, none⟩) (m + 1) cap) := by
  refine ⟨_, ownsRow_setCell_below h (show bg < base from hbg) _, fun j hj => ?_⟩
  by_cases h1 : j < m * 2
  · rw [List.getElem?_append_left (by omega), hx j h1]
    unfold ruleOwn
    rw [upd_other _ _ (by omega)]
  · rw [List.getElem?_append_right (by omega), hl]
    have hc : j = m * 2 ∨ j = m * 2 + 1 := by omega
    rcases hc with rfl | rfl
    · rw [Nat.sub_self]
      unfold ruleOwn
      rw [if_pos (by omega), show m * 2 / 2 = m by omega]; rfl
    · rw [show m * 2 + 1 - m * 2 = 1 by omega]
      unfold ruleOwn
      rw [if_neg (by omega), show (m * 2 + 1) / 2 = m by omega, upd_same]; rfl

theorem gOwn_set {N n : Nat} {week : Int} {v v' : Value} (j : Nat) : (if j = 1 then v' else gOwn N n week v j) = gOwn N n week v' j := by
  unfold gOwn
  by_cases h : j = 1
  · subst h; rfl
  · rw [if_neg h]
    by_cases h0 : j = 0
    · rw [if_pos h0, if_pos h0]
    · rw [if_neg h0, if_neg h0, if_neg h, if_neg h]

/-- The blocks from L on stand. -/
def Up (L : Nat) (w W : World) : Prop := w.heap.size ≤ W.heap.size ∧ ∀ j, L ≤ j → j < w.heap.size → W.heap[j]? = w.heap[j]?

theorem Up.refl (L : Nat) (w : World) : Up L w w := ⟨Nat.le_refl _, fun _ _ _ => rfl⟩
theorem Up.trans {L : Nat} {a b c : World} (h : Up L a b) (g : Up L b c) : Up L a c := ⟨Nat.le_trans h.1 g.1, fun j h1 h2 => (g.2 j h1 (by have := h.1; omega)).trans (h.2 j h1 h2)⟩
theorem Up.alloc (L : Nat) (w : World) (o : Obj) : Up L w (w.alloc o) := ⟨by simp, fun j _ h2 => Below.heap_alloc w o j h2⟩
theorem Up.setLow {L : Nat} (w : World) (p : Addr) (hp : p.block < L) (v : Value) : Up L w (w.setCell p v) := ⟨by simp, fun j h1 _ => Below.heap_setCell w p v j (by omega)⟩

/-- A form's rules and holidays lie from L on. -/
def Floor (L : Nat) (w : World) (aR : Option Addr) (k : Nat) (R : Nat → Rul) (bh : Nat) (hol : List Int) : Prop := ∀ W, Up L w W → RAt W aR k R ∧ IntsAt W (.slice (some ⟨bh, 0, none⟩) hol.length hol.length) hol

/-- What own answers: a copy in lists of its own. -/
def OwnPost (C : Nat → Cel) (n : Nat) (R : Nat → Rul) (k : Nat) (hol : List Int) (week : Int) (w : World) (e : Ending) (w' : World) : Prop :=
  ∃ bc aR cR bh, e = .returned (.agg #[.slice (some ⟨bc, 0, none⟩) n n, .slice aR k cR, .int .i64 week, .slice (some ⟨bh, 0, none⟩) hol.length hol.length]) ∧ w.heap.size ≤ bc ∧ w'.rowIs bc 77 (n * 5) (cellf C) ∧ Floor w.heap.size w' aR k R bh hol ∧ Below w.heap.size w w'

theorem gOwn_row {w wr : World} {o1 o2 : Obj} {n : Nat} {week : Int} (h : Below (w.heap.size + 1 + 1 + 1) (((w.alloc o1).alloc o2).alloc (.cells #[.slice (some ⟨w.heap.size + 1 + 1 + 1, 0, none⟩) n n, .slice none 0 0, .int .i64 week, .slice none 0 0] 26)) wr) : wr.rowIs (w.heap.size + 1 + 1) 26 4 (gOwn w.heap.size n week (.slice none 0 0)) := by
  have h1 := World.rowIs_alloc ((w.alloc o1).alloc o2) #[.slice (some ⟨w.heap.size + 1 + 1 + 1, 0, none⟩) n n, .slice none 0 0, .int .i64 week, .slice none 0 0] 26 (gOwn w.heap.size n week (.slice none 0 0)) (fun i hi => by
    have hi' : i = 0 ∨ i = 1 ∨ i = 2 ∨ i = 3 := by simp at hi; omega
    rcases hi' with rfl | rfl | rfl | rfl <;> rfl)
  simp only [World.size_alloc] at h1
  exact h1.of_block (h.block _ (by omega))

set_option maxRecDepth 100000 in
set_option maxHeartbeats 2000000 in
theorem own_any (C : Nat → Cel) (R : Nat → Rul) (hol : List Int) (aC aR aH : Option Addr) (n cC k cR cH : Nat) (week : Int) (w : World) (hn : n ≤ 20) (hk : k ≤ 6) (hhl : hol.length ≤ 20) (hsl : ∀ i, i < k → (R i).steps.length ≤ 1000000000)
    (hcs : CAt w aC n C) (hrs : RAt w aR k R) (hhs : IntsAt w (.slice aH hol.length cH) hol) :
    Calls Tryz.prog 49 #[.agg #[.slice aC n cC, .slice aR k cR, .int .i64 week, .slice aH hol.length cH]] w fun e w' => OwnPost C n R k hol week w e w' := by
  have HRS := hid hrs
  have HHS := hid hhs
  have HSL := hid hsl
  clear hsl hrs hhs
  have mk1 := run_make_is (P := Tryz.prog) 22 77 _ 5 40 Tryz.underlying22 info76 n (by omega) (by omega)
  obtain ⟨i80, hi, hz⟩ := Option.map_eq_some_iff.1 info80
  simp only [Prod.mk.injEq] at hz
  obtain ⟨hz0, hz1, hz2⟩ := hz
  have HI := hid hi
  have HZ0 := hid hz0
  have HZ1 := hid hz1
  have HZ2 := hid hz2
  clear hi hz0 hz1 hz2
  have HB4 : Hid (Below w.heap.size w ((((w.alloc (.cells #[.slice aC n cC, .slice aR k cR, .int .i64 week, .slice aH hol.length cH] 26)).alloc (.cells #[.slice none 0 0, .slice none 0 0, .int .i64 0, .slice none 0 0] 26)).alloc (.cells #[.slice (some ⟨w.heap.size + 1 + 1 + 1, 0, none⟩) n n, .slice none 0 0, .int .i64 week, .slice none 0 0] 26)).alloc (.cells (madeCells #[.int .i64 0, .int .i64 0, .int .i64 0, .int .i64 0, .int .i64 0] (n * 5)) 77))) := ((((Below.refl _ _).alloc (Nat.le_refl _) _).alloc (by simp) _).alloc (by simp; omega) _).alloc (by simp; omega) _
  obtain ⟨Wc, hrun, hrow, hsz, ho1, ho2, ho3, hoth⟩ := run_copy_is (P := Tryz.prog) ((((w.alloc (.cells #[.slice aC n cC, .slice aR k cR, .int .i64 week, .slice aH hol.length cH] 26)).alloc (.cells #[.slice none 0 0, .slice none 0 0, .int .i64 0, .slice none 0 0] 26)).alloc (.cells #[.slice (some ⟨w.heap.size + 1 + 1 + 1, 0, none⟩) n n, .slice none 0 0, .int .i64 week, .slice none 0 0] 26)).alloc (.cells (madeCells #[.int .i64 0, .int .i64 0, .int .i64 0, .int .i64 0, .int .i64 0] (n * 5)) 77)) 22 22 3 77 5 (w.heap.size + 1 + 1 + 1) n n (n * 5) 77 (fun _ => .int .i64 0) aC n cC (cellf C)
    Tryz.underlying22 size76 (row_made (z := .agg #[.int .i64 0, .int .i64 0, .int .i64 0, .int .i64 0, .int .i64 0]) (by simp) _ (fun j _ => by
      have h5 : j % 5 < 5 := Nat.mod_lt _ (by omega)
      have hs : ((Value.agg #[.int .i64 0, .int .i64 0, .int .i64 0, .int .i64 0, .int .i64 0]).cells).size = 5 := rfl
      rw [hs]
      have hc : j % 5 = 0 ∨ j % 5 = 1 ∨ j % 5 = 2 ∨ j % 5 = 3 ∨ j % 5 = 4 := by omega
      rcases hc with e | e | e | e | e <;> rw [e] <;> rfl)) (by omega) (by omega) (by
      rcases hcs with h0 | ⟨b, off, rfl, hb, hcell⟩
      · exact Or.inl (by omega)
      · refine Or.inr ⟨b, off, rfl, fun j hj => ?_⟩
        rw [HB4.out.cell (p := ⟨b, off + j, none⟩) hb]
        obtain ⟨g0, g1, g2, g3, g4⟩ := hcell (j / 5) (by omega)
        have hc : j = j / 5 * 5 ∨ j = j / 5 * 5 + 1 ∨ j = j / 5 * 5 + 2 ∨ j = j / 5 * 5 + 3 ∨ j = j / 5 * 5 + 4 := by omega
        generalize j / 5 = m at *
        rcases hc with rfl | rfl | rfl | rfl | rfl
        · rw [g0, cellf0]
        · rw [← Nat.add_assoc, g1, cellf1]
        · rw [← Nat.add_assoc, g2, cellf2]
        · rw [← Nat.add_assoc, g3, cellf3]
        · rw [← Nat.add_assoc, g4, cellf4]) cellf_one
  have HROW : Hid (Wc.rowIs (w.heap.size + 1 + 1 + 1) 77 (n * 5) (cellf C)) := hrow.congr (fun j hj => by rw [if_pos hj])
  have HSZ : Hid (Wc.heap.size = w.heap.size + 1 + 1 + 1 + 1) := by show Wc.heap.size = _; rw [hsz]; simp
  have HBC : Hid (Below (w.heap.size + 1 + 1 + 1) (((w.alloc (.cells #[.slice aC n cC, .slice aR k cR, .int .i64 week, .slice aH hol.length cH] 26)).alloc (.cells #[.slice none 0 0, .slice none 0 0, .int .i64 0, .slice none 0 0] 26)).alloc (.cells #[.slice (some ⟨w.heap.size + 1 + 1 + 1, 0, none⟩) n n, .slice none 0 0, .int .i64 week, .slice none 0 0] 26)) Wc) := ((Below.refl _ _).alloc (by simp) _).trans ⟨ho1, ho2, ho3, by omega, fun k hk => hoth k (by omega)⟩
  have hgt : w.heap.size + 1 + 1 + 1 < Wc.heap.size := by rw [HSZ.out]; omega
  clear hrow ho1 ho2 ho3 hoth hcs hsz
  have Q1 := hid (three_below HBC.out)
  have Q2 := hid (r_row HBC.out)
  have Q3 := hid (gOwn_row HBC.out)
  go_enter Tryz.func49, Tryz.ntmps49
  go_wp2
  clear mk1 hrun
  go_loopw [4] (fun t wr => ∃ (m : Nat) (bs : Nat → Nat) (v : Value), m ≤ k ∧ t = .int .i64 m ∧ w.heap.size + 1 + 1 + 1 < wr.heap.size ∧ Hid (Below (w.heap.size + 1) (w.alloc (.cells #[.slice aC n cC, .slice aR k cR, .int .i64 week, .slice aH hol.length cH] 26)) wr) ∧ Hid (wr.rowIs (w.heap.size + 1) 26 4 (gf 0)) ∧ Hid (wr.rowIs (w.heap.size + 1 + 1) 26 4 (gOwn w.heap.size n week v)) ∧ Hid (wr.rowIs (w.heap.size + 1 + 1 + 1) 77 (n * 5) (cellf C)) ∧ Hid (RulL wr (w.heap.size + 1 + 1 + 1 + 1) R bs m v) ∧ Hid (∀ i, i < m → w.heap.size + 1 + 1 + 1 < bs i ∧ wr.rowIs (bs i) 3 (R i).steps.length (fun j => .int .i64 ((R i).steps.getD j 0)))) (fun t _ => k - (intOf t).toNat)
  case atStart => exact ⟨0, fun _ => 0, .slice none 0 0, by omega, rfl, hgt, Q1, Q2, Q3, HROW, ⟨[], ⟨rfl, Or.inl ⟨rfl, rfl⟩⟩, fun j hj => by omega⟩, fun i hi => by omega⟩
  case round =>
    obtain ⟨m, bs, v, m1, rfl, hsz, hb, hres, hg, hcr, hrl, hst⟩ := hrel
    clear Q1 Q2 Q3
    have f1 := boxed hb.out 1
    have f3 := boxed hb.out 3
    simp at f1 f3
    have hbw := hid (boxed_below hb.out)
    by_cases hmt : m < k
    · rcases HRS.out with h0 | ⟨bR, oR, rfl, hbr, hru⟩
      · omega
      obtain ⟨u0, ast, caps, u1, u2, u3⟩ := (hru m hmt).below hbw.out hbr (Nat.le_refl _)
      have HU2 := hid u2
      have lt' : (m : Int) < (k : Int) := by omega
      clear u2 hru
      go_wp2_with fail
      refine (copied_any (R m).steps ast caps _ u3 HU2.out).mono ?_
      rintro e w1 ⟨b1, rfl, hb1, hrow1, hbel1⟩
      have K0 := hid hrow1
      have K1 : Hid (Below (w.heap.size + 1) (w.alloc (.cells #[.slice aC n cC, .slice (some ⟨bR, oR, none⟩) k cR, .int .i64 week, .slice aH hol.length cH] 26)) w1) := hb.out.trans (hbel1.mono (by omega))
      have K2 := hid (hres.out.of_block (hbel1.block _ hres.out.lt))
      have K3 := hid (hg.out.of_block (hbel1.block _ hg.out.lt))
      have K4 := hid (hcr.out.of_block (hbel1.block _ hcr.out.lt))
      obtain ⟨xs, hown, hxs⟩ := hrl.out
      have K5 := hid (own_of_block hown (w' := w1) (fun g _ hlt => hbel1.block g hlt))
      have HXS := hid hxs
      have HXL := hid hown.1
      have K6 : Hid (∀ i, i < m → w.heap.size + 1 + 1 + 1 < bs i ∧ w1.rowIs (bs i) 3 (R i).steps.length (fun j => .int .i64 ((R i).steps.getD j 0))) := fun i hi => ⟨(hst.out i hi).1, (hst.out i hi).2.of_block (hbel1.block _ (hst.out i hi).2.lt)⟩
      have hsz1 : w.heap.size + 1 + 1 + 1 < w1.heap.size := by have := hbel1.size; omega
      have hbw1 := hid (boxed_below K1.out)
      have v0 : w1.cell? ⟨bR, oR + m * 2, none⟩ = some (.int .i64 (R m).guard) := by rw [hbw1.out.cell (p := ⟨bR, oR + m * 2, none⟩) hbr, ← hbw.out.cell (p := ⟨bR, oR + m * 2, none⟩) hbr]; exact u0
      clear hrow1 hbel1 f1 f3 u0 u1 hb hres hg hcr hrl hst hbw hown hxs
      have f1 := boxed K1.out 1
      simp at f1
      have d1 := K3.out.cell (i := 1) (by omega)
      have d9 := K3.out.frozen 1
      have d1a : ∀ o, (w1.alloc o).cell? ⟨w.heap.size + 1 + 1, 1, none⟩ = some v := fun o => by rw [World.cell?_alloc_lt (h := by show w.heap.size + 1 + 1 < _; omega)]; exact d1
      simp [gOwn] at d1
      have hne2 : Hid (v.ownBlock ≠ some (w.heap.size + 1 + 1)) := fun e => by have := own_base K5.out e; omega
      have hbl : bR < w1.heap.size := by have := hbw1.out.size; omega
      go_wp2
      go_region_law ((refine step_append_lies _ (by rfl) (.tmp 34) (.tmp 43) 23 (by rfl) (w.heap.size + 1 + 1 + 1 + 1) 81 i80 _ 2 32 Tryz.underlying23 HI.out HZ0.out HZ1.out HZ2.out (by rfl) (by omega) v m xs (by simp [Act.eval, Act.put]) (by exact own_alloc_drew K5.out _) ⟨w1.heap.size, 0, none⟩ 1 1 [.int .i64 (R m).guard, .slice (some ⟨b1, 0, none⟩) (R m).steps.length (R m).steps.length] (by simp [Act.eval, Act.put]) (by rfl) (by exact news2 _ _ _ _) (by simp [Value.oneCell']) (by omega) (by unfold maxLen; omega) (by omega) (by simp; omega) (w1.heap.size + 1) (by simp) ?_; intro g cap w2 hown2 hgrow hat hlt; have hbk : w2.heap[w.heap.size + 1 + 1]? = w1.heap[w.heap.size + 1 + 1]? := ev_far w1 _ hgrow (by omega) hne2.out; have e8 : w2.cell? ⟨w.heap.size + 1 + 1, 1, none⟩ = some v := (by rw [World.cell?_of_block (w := w1) hbk]; exact d1); have e9 : w2.frozen? ⟨w.heap.size + 1 + 1, 1, none⟩ = false := (by rw [World.frozen?_of_block (w := w1) hbk]; exact d9)))
      all_goals
        have GB : Below (w.heap.size + 1 + 1 + 1) w1 w2 := grow_below hgrow (by omega) (fun g hg' => by have := own_base K5.out hg'; omega)
        have far : ∀ b t l f, t ≠ 81 → w1.rowIs b t l f → w2.rowIs b t l f := fun b t l f ht hr => hr.of_block (ev_far w1 _ hgrow hr.lt (own_ne_row K5.out hr ht))
        have N1 : Hid (Below (w.heap.size + 1) (w.alloc (.cells #[.slice aC n cC, .slice (some ⟨bR, oR, none⟩) k cR, .int .i64 week, .slice aH hol.length cH] 26)) (w2.setCell ⟨w.heap.size + 1 + 1, 1, none⟩ (.slice (some ⟨g, 0, none⟩) (m + 1) cap))) := (K1.out.trans (GB.mono (by omega))).setCell (by show _ ≤ w.heap.size + 1 + 1; omega) _
        have N2 : Hid ((w2.setCell ⟨w.heap.size + 1 + 1, 1, none⟩ (.slice (some ⟨g, 0, none⟩) (m + 1) cap)).rowIs (w.heap.size + 1) 26 4 (gf 0)) := (far _ _ _ _ (by decide) K2.out).setOther (by show _ ≠ w.heap.size + 1 + 1; omega) _
        have N3 : Hid ((w2.setCell ⟨w.heap.size + 1 + 1, 1, none⟩ (.slice (some ⟨g, 0, none⟩) (m + 1) cap)).rowIs (w.heap.size + 1 + 1) 26 4 (gOwn w.heap.size n week (.slice (some ⟨g, 0, none⟩) (m + 1) cap))) := ((far _ _ _ _ (by decide) K3.out).set 1 _).congr (fun j _ => gOwn_set j)
        have N4 : Hid ((w2.setCell ⟨w.heap.size + 1 + 1, 1, none⟩ (.slice (some ⟨g, 0, none⟩) (m + 1) cap)).rowIs (w.heap.size + 1 + 1 + 1) 77 (n * 5) (cellf C)) := (far _ _ _ _ (by decide) K4.out).setOther (by show _ ≠ w.heap.size + 1 + 1; omega) _
        have N5 : Hid (RulL (w2.setCell ⟨w.heap.size + 1 + 1, 1, none⟩ (.slice (some ⟨g, 0, none⟩) (m + 1) cap)) (w.heap.size + 1 + 1 + 1 + 1) R (upd bs m b1) (m + 1) (.slice (some ⟨g, 0, none⟩) (m + 1) cap)) := rulL_next HXS.out HXL.out (by omega) hown2 _
        have N6 : Hid (∀ i, i < m + 1 → w.heap.size + 1 + 1 + 1 < upd bs m b1 i ∧ (w2.setCell ⟨w.heap.size + 1 + 1, 1, none⟩ (.slice (some ⟨g, 0, none⟩) (m + 1) cap)).rowIs (upd bs m b1 i) 3 (R i).steps.length (fun j => .int .i64 ((R i).steps.getD j 0))) := fun i hi => by
          by_cases e : i = m
          · subst e
            rw [upd_same]
            exact ⟨by omega, (far _ _ _ _ (by decide) K0.out).setOther (by show _ ≠ w.heap.size + 1 + 1; omega) _⟩
          · rw [upd_other _ _ e]
            obtain ⟨y1, y2⟩ := K6.out i (by omega)
            exact ⟨y1, (far _ _ _ _ (by decide) y2).setOther (by show _ ≠ w.heap.size + 1 + 1; omega) _⟩
        have N7 : Hid (w.heap.size + 1 + 1 + 1 < (w2.setCell ⟨w.heap.size + 1 + 1, 1, none⟩ (.slice (some ⟨g, 0, none⟩) (m + 1) cap)).heap.size) := by have := GB.size; show _ < _; simp; omega
        clear GB far hbk e8 e9 hown2 hgrow hat hlt
        go_wp2
        go_roundw
        case rel => exact ⟨m + 1, upd bs m b1, .slice (some ⟨g, 0, none⟩) (m + 1) cap, by omega, by go_num, N7.out, N1, N2, N3, N4, N5, N6⟩
        case measure => simp [intOf]; omega
    · obtain rfl : m = k := by omega
      go_wp2_with fail
      refine (copied_any hol aH cH _ (by omega) (SlAt.below HHS.out hbw.out (Nat.le_refl _))).mono ?_
      rintro e w1 ⟨b1, rfl, hb1, hrow1, hbel1⟩
      have K0 := hid hrow1
      have K2 := hid (hres.out.of_block (hbel1.block _ hres.out.lt))
      have K3 := hid (hg.out.of_block (hbel1.block _ hg.out.lt))
      have K4 := hid (hcr.out.of_block (hbel1.block _ hcr.out.lt))
      have K6 : Hid (∀ i, i < m → w.heap.size + 1 + 1 + 1 < bs i ∧ w1.rowIs (bs i) 3 (R i).steps.length (fun j => .int .i64 ((R i).steps.getD j 0))) := fun i hi => ⟨(hst.out i hi).1, (hst.out i hi).2.of_block (hbel1.block _ (hst.out i hi).2.lt)⟩
      have K7 : Hid (Below w.heap.size w w1) := hbw.out.trans (hbel1.mono (by omega))
      obtain ⟨xs, hown, hxs⟩ := hrl.out
      have K5 : Hid (RulL w1 (w.heap.size + 1 + 1 + 1 + 1) R bs m v) := ⟨xs, own_of_block hown (w' := w1) (fun g _ hlt => hbel1.block g hlt), hxs⟩
      clear hrow1 hbel1 f1 f3 hb hres hg hcr hrl hst hbw hown hxs
      obtain ⟨aO, cO, rfl, hRAt⟩ := K5.out.at (fun i hi => (K6.out i hi).2) HSL.out
      have HRAT := hid hRAt
      clear hRAt
      have d0 := K3.out.cell (i := 0) (by omega)
      have d1 := K3.out.cell (i := 1) (by omega)
      have d2 := K3.out.cell (i := 2) (by omega)
      have d3 := K3.out.cell (i := 3) (by omega)
      have dz : ∀ j, w1.frozen? ⟨w.heap.size + 1 + 1, j, none⟩ = false := fun j => K3.out.frozen j
      have r0 := K2.out.cell (i := 0) (by omega)
      have r1 := K2.out.cell (i := 1) (by omega)
      have r2 := K2.out.cell (i := 2) (by omega)
      have r3 := K2.out.cell (i := 3) (by omega)
      have rz : ∀ j, w1.frozen? ⟨w.heap.size + 1, j, none⟩ = false := fun j => K2.out.frozen j
      simp [gf] at r0 r1 r2 r3
      simp [gOwn] at d0 d1 d2 d3
      have P0 : Hid ((((((w1.setCell ⟨w.heap.size + 1 + 1, 3, none⟩ (.slice (some ⟨b1, 0, none⟩) hol.length hol.length)).setCell ⟨w.heap.size + 1, 0, none⟩ (.slice (some ⟨w.heap.size + 1 + 1 + 1, 0, none⟩) n n)).setCell ⟨w.heap.size + 1, 1, none⟩ (.slice aO m cO)).setCell ⟨w.heap.size + 1, 2, none⟩ (.int .i64 week)).setCell ⟨w.heap.size + 1, 3, none⟩ (.slice (some ⟨b1, 0, none⟩) hol.length hol.length)).rowIs (w.heap.size + 1) 26 4 (fun j => if j = 3 then .slice (some ⟨b1, 0, none⟩) hol.length hol.length else if j = 2 then .int .i64 week else if j = 1 then .slice aO m cO else if j = 0 then .slice (some ⟨w.heap.size + 1 + 1 + 1, 0, none⟩) n n else gf 0 j)) := ((((K2.out.setOther (by show _ ≠ w.heap.size + 1 + 1; omega) _).set _ _).set _ _).set _ _).set _ _
      have P1 := hid (set5_other (o1 := 3) (o2 := 0) (o3 := 1) (o4 := 2) (o5 := 3) (v1 := .slice (some ⟨b1, 0, none⟩) hol.length hol.length) (v2 := .slice (some ⟨w.heap.size + 1 + 1 + 1, 0, none⟩) n n) (v3 := .slice aO m cO) (v4 := .int .i64 week) (v5 := .slice (some ⟨b1, 0, none⟩) hol.length hol.length) (c1 := w.heap.size + 1 + 1) (c2 := w.heap.size + 1) w1)
      have P2 : Hid (Below w.heap.size w (((((w1.setCell ⟨w.heap.size + 1 + 1, 3, none⟩ (.slice (some ⟨b1, 0, none⟩) hol.length hol.length)).setCell ⟨w.heap.size + 1, 0, none⟩ (.slice (some ⟨w.heap.size + 1 + 1 + 1, 0, none⟩) n n)).setCell ⟨w.heap.size + 1, 1, none⟩ (.slice aO m cO)).setCell ⟨w.heap.size + 1, 2, none⟩ (.int .i64 week)).setCell ⟨w.heap.size + 1, 3, none⟩ (.slice (some ⟨b1, 0, none⟩) hol.length hol.length))) := ((((K7.out.setCell (by show _ ≤ w.heap.size + 1 + 1; omega) _).setCell (by show _ ≤ w.heap.size + 1; omega) _).setCell (by show _ ≤ w.heap.size + 1; omega) _).setCell (by show _ ≤ w.heap.size + 1; omega) _).setCell (by show _ ≤ w.heap.size + 1; omega) _
      have P3 : Hid (∀ W, Up w.heap.size (((((w1.setCell ⟨w.heap.size + 1 + 1, 3, none⟩ (.slice (some ⟨b1, 0, none⟩) hol.length hol.length)).setCell ⟨w.heap.size + 1, 0, none⟩ (.slice (some ⟨w.heap.size + 1 + 1 + 1, 0, none⟩) n n)).setCell ⟨w.heap.size + 1, 1, none⟩ (.slice aO m cO)).setCell ⟨w.heap.size + 1, 2, none⟩ (.int .i64 week)).setCell ⟨w.heap.size + 1, 3, none⟩ (.slice (some ⟨b1, 0, none⟩) hol.length hol.length)) W → RAt W aO m R) := by
        intro W hW
        obtain ⟨xs, hown, hxs⟩ := K5.out
        have hRL : RulL (((((w1.setCell ⟨w.heap.size + 1 + 1, 3, none⟩ (.slice (some ⟨b1, 0, none⟩) hol.length hol.length)).setCell ⟨w.heap.size + 1, 0, none⟩ (.slice (some ⟨w.heap.size + 1 + 1 + 1, 0, none⟩) n n)).setCell ⟨w.heap.size + 1, 1, none⟩ (.slice aO m cO)).setCell ⟨w.heap.size + 1, 2, none⟩ (.int .i64 week)).setCell ⟨w.heap.size + 1, 3, none⟩ (.slice (some ⟨b1, 0, none⟩) hol.length hol.length)) (w.heap.size + 1 + 1 + 1 + 1) R bs m (.slice aO m cO) := ⟨xs, ownsRow_setCell_below (ownsRow_setCell_below (ownsRow_setCell_below (ownsRow_setCell_below (ownsRow_setCell_below hown (show w.heap.size + 1 + 1 < _ by omega) _) (show w.heap.size + 1 < _ by omega) _) (show w.heap.size + 1 < _ by omega) _) (show w.heap.size + 1 < _ by omega) _) (show w.heap.size + 1 < _ by omega) _, hxs⟩
        have hRW : RulL W (w.heap.size + 1 + 1 + 1 + 1) R bs m (.slice aO m cO) := by
          obtain ⟨ys, y1, y2⟩ := hRL
          exact ⟨ys, own_of_block y1 (fun g hg hlt => hW.2 g (by have := own_base y1 hg; omega) hlt), y2⟩
        have hRS : ∀ i, i < m → W.rowIs (bs i) 3 (R i).steps.length (fun j => .int .i64 ((R i).steps.getD j 0)) := fun i hi => by
          have z := (K6.out i hi).1
          have y := P1.out _ _ _ _ (by omega) (by omega) (K6.out i hi).2
          exact y.of_block (hW.2 _ (by omega) y.lt)
        obtain ⟨a', c', e', h'⟩ := hRW.at hRS HSL.out
        have h2 : a' = aO := by injection e' with h _ _; exact h.symm
        rw [h2] at h'; exact h'
      go_wp2
      have x0 := P0.out.cell (i := 0) (by omega)
      have x1 := P0.out.cell (i := 1) (by omega)
      have x2 := P0.out.cell (i := 2) (by omega)
      have x3 := P0.out.cell (i := 3) (by omega)
      simp at x0 x1 x2 x3
      have Q : OwnPost C n R m hol week w (.returned (.agg #[.slice (some ⟨w.heap.size + 1 + 1 + 1, 0, none⟩) n n, .slice aO m cO, .int .i64 week, .slice (some ⟨b1, 0, none⟩) hol.length hol.length])) (((((w1.setCell ⟨w.heap.size + 1 + 1, 3, none⟩ (.slice (some ⟨b1, 0, none⟩) hol.length hol.length)).setCell ⟨w.heap.size + 1, 0, none⟩ (.slice (some ⟨w.heap.size + 1 + 1 + 1, 0, none⟩) n n)).setCell ⟨w.heap.size + 1, 1, none⟩ (.slice aO m cO)).setCell ⟨w.heap.size + 1, 2, none⟩ (.int .i64 week)).setCell ⟨w.heap.size + 1, 3, none⟩ (.slice (some ⟨b1, 0, none⟩) hol.length hol.length)) :=
        ⟨w.heap.size + 1 + 1 + 1, aO, cO, b1, rfl, by omega, P1.out _ _ _ _ (by omega) (by omega) K4.out, fun W hW => ⟨P3.out W hW, row_ints (by have y := P1.out _ _ _ _ (by omega) (by omega) K0.out; exact y.of_block (hW.2 _ (by omega) y.lt))⟩, P2.out⟩
      have HQ := hid Q
      clear Q
      generalize (((((w1.setCell ⟨w.heap.size + 1 + 1, 3, none⟩ (.slice (some ⟨b1, 0, none⟩) hol.length hol.length)).setCell ⟨w.heap.size + 1, 0, none⟩ (.slice (some ⟨w.heap.size + 1 + 1 + 1, 0, none⟩) n n)).setCell ⟨w.heap.size + 1, 1, none⟩ (.slice aO m cO)).setCell ⟨w.heap.size + 1, 2, none⟩ (.int .i64 week)).setCell ⟨w.heap.size + 1, 3, none⟩ (.slice (some ⟨b1, 0, none⟩) hol.length hol.length)) = FW at *
      exact bodyPost_ret (v := .agg #[.slice (some ⟨w.heap.size + 1 + 1 + 1, 0, none⟩) n n, .slice aO m cO, .int .i64 week, .slice (some ⟨b1, 0, none⟩) hol.length hol.length]) (by simp [results, Tryz.results49, go_sem, x0, x1, x2, x3]) rfl HQ.out

end Go.Proofs.YtcondcffllaaoaaGreatDoor
