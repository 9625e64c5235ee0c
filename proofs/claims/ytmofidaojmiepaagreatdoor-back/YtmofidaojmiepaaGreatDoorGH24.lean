/-
  MEMORY: the case's own copy of a form, walked.
-/
import Derived.Test.YtmofidaojmiepaaGreatDoorGH22
set_option linter.unusedVariables false
set_option linter.unusedSimpArgs false
namespace Go.Proofs.YtmofidaojmiepaaGreatDoor

open Go.RowKit

attribute [local go_sem ↓] Go.wp_at_zero Go.wp_at_succ

theorem news2' (w : World) (a b : Value) (t : TypeId) : ∀ j u, [a, b][j]? = some u → (w.alloc (.cells #[a, b] t)).cell? ((⟨w.heap.size, 0, none⟩ : Addr).add j) = some u :=
  World.news_of_block (cs := #[a, b]) (t := t) (fr := (0, 0)) (by show (w.heap.push _)[w.heap.size]? = _; simp)

theorem ev_far0 (w : World) {w1 : World} {row : Option Nat} (o : Obj) (h : (w.alloc o).grownBy w1 row) {k : Nat} (hk : k < w.heap.size) (hr : row ≠ some k) : w1.heap[k]? = w.heap[k]? :=
  (h.block k (by show k < (w.heap.push o).size; simp; omega) (fun e => hr e.symm)).trans (Below.heap_alloc w o k hk)

theorem intSp_at (l : List Int) (j : Nat) (h : j < l.length) : intSp l j = .int .i64 (l.getD j 0) := by unfold intSp; rw [if_pos h]

theorem gf_set0 {week : Int} {vC : Value} (j : Nat) : (if j = 0 then vC else gf week j) = gCopy vC (.slice none 0 0) week (.slice none 0 0) j := by
  unfold gf gCopy
  by_cases h : j = 0
  · rw [if_pos h, if_pos h]
  · rw [if_neg h, if_neg h]
    by_cases h1 : j = 1
    · subst h1; rfl
    · rw [if_neg h1]

theorem gCopy_set3 {week : Int} {vC vH : Value} (j : Nat) (hj : j < 4) : (if j = 3 then vH else gCopy vC (.slice none 0 0) week (.slice none 0 0) j) = gCopy vC vH week (.slice none 0 0) j := by
  have : j = 0 ∨ j = 1 ∨ j = 2 ∨ j = 3 := by omega
  rcases this with rfl | rfl | rfl | rfl <;> rfl

theorem ruleSt0 {R : Nat → Rul} {bs : Nat → Nat} {k m : Nat} (h : m < k) : ruleSt R bs k 8 (m * 2) = .int .i64 (R m).guard := by
  unfold ruleSt ruleOf
  rw [if_pos (by omega), if_pos (by omega), show m * 2 / 2 = m by omega]

theorem ruleSt1 {R : Nat → Rul} {bs : Nat → Nat} {k m : Nat} (h : m < k) : ruleSt R bs k 8 (m * 2 + 1) = .slice (some ⟨bs m, 0, none⟩) (R m).steps.length ((R m).steps.length + 8) := by
  unfold ruleSt ruleOf
  rw [if_pos (by omega), if_neg (by omega), show (m * 2 + 1) / 2 = m by omega]

set_option maxRecDepth 100000 in
set_option maxHeartbeats 2000000 in
theorem copyForm_any (C : Nat → Cel) (R : Nat → Rul) (hol : List Int) (bC oC cC : Nat) (aR : Option Addr) (cR : Nat) (aH : Option Addr) (cH n k : Nat) (week : Int) (w : World) (hn : n ≤ 20) (hk : k ≤ 6) (hhl : hol.length ≤ 20)
    (hbC : bC < w.heap.size) (hrc : ∀ m, m < n → CelIs w bC (oC + m * 5) (C m)) (hrr : RAt w aR k R) (hrh : IntsAt w (.slice aH hol.length cH) hol) :
    Calls Tryz.prog 64 #[.agg #[.slice (some ⟨bC, oC, none⟩) n cC, .slice aR k cR, .int .i64 week, .slice aH hol.length cH]] w fun e w' => CopyPost C n R k hol week w e w' := by
  have HRR := hid hrr
  have HRH := hid hrh
  have HSL : Hid (∀ i, i < k → (R i).steps.length ≤ 1000000000) := fun i hi => by
    rcases hrr with h | ⟨_, _, _, _, h⟩
    · omega
    · obtain ⟨_, _, _, _, _, h4⟩ := h i hi
      exact h4
  obtain ⟨i76, y1, y2⟩ := Option.map_eq_some_iff.1 info76
  obtain ⟨i3, y3, y4⟩ := Option.map_eq_some_iff.1 info3
  obtain ⟨i80, y5, y6⟩ := Option.map_eq_some_iff.1 info80
  simp only [Prod.mk.injEq] at y2 y4 y6
  have I76 := hid y1
  have Z76 := hid y2
  have I3 := hid y3
  have Z3 := hid y4
  have I80 := hid y5
  have Z80 := hid y6
  clear y1 y2 y3 y4 y5 y6
  have NEWS1 : Hid (SrcAt (((w.alloc (.cells #[.slice (some ⟨bC, oC, none⟩) n cC, .slice aR k cR, .int .i64 week, .slice aH hol.length cH] 26)).alloc (.cells #[.slice none 0 0, .slice none 0 0, .int .i64 0, .slice none 0 0] 26)).alloc (.cells #[.slice none 0 0, .slice none 0 0, .int .i64 week, .slice none 0 0] 26)) (some ⟨bC, oC, none⟩) n ((List.range (n * 5)).map (cellf C))) :=
    cel_src (by simp; omega) (fun m hm => CelIs.below (B := w.heap.size) (hrc m hm) ((((Below.refl _ _).alloc (Nat.le_refl _) _).alloc (by simp) _).alloc (by simp; omega) _) hbC)
  clear hrc hrr hrh
  go_enter Tryz.func64, Tryz.ntmps64
  go_wp2_with (at_builtin; refine wpList_app_copy _ rfl (.tmp 10) (.tmp 12) 22 rfl 47 i76 _ 5 40 Tryz.underlying22 I76.out Z76.out.1 Z76.out.2.1 Z76.out.2.2 rfl (by omega) (w.heap.size + 1 + 1 + 1) (by simp) (by rfl) (some ⟨bC, oC, none⟩) n cC ((List.range (n * 5)).map (cellf C)) (by rfl) (by simp) NEWS1.out (cel_one C n) (by unfold maxLen; omega) (by omega) ?_; intro g1 cap1 w1 o1 b1 l1 l1'; refine stopH ?_)
  have K1 := hid (own_crow o1)
  have B1 := hid (three_below b1)
  have R1 := hid (r_row b1)
  have G1 := hid (g_row b1)
  have s1 : w.heap.size + 1 + 1 < w1.heap.size := by omega
  clear o1 b1 NEWS1
  have d0 := G1.out.cell (i := 0) (by omega)
  have d9 := G1.out.frozen 0
  simp [gf] at d0
  have f3 := boxed B1.out 3
  simp at f3
  have f3a : ∀ u o, ((w1.setCell ⟨w.heap.size + 1 + 1, 0, none⟩ u).alloc o).cell? ⟨w.heap.size, 3, none⟩ = some (.slice aH hol.length cH) := fun u o => by
    rw [World.cell?_alloc_lt (h := by show w.heap.size < _; simp; omega), World.cell?_setCell_other (h := by simp)]
    exact f3
  have hbw := hid (boxed_below B1.out)
  have NEWS2 : Hid (∀ u, SrcAt (w1.setCell ⟨w.heap.size + 1 + 1, 0, none⟩ u) aH hol.length (hol.map (fun x => Value.int .i64 x))) := fun u =>
    ints_src (SlAt.below HRH.out (hbw.out.setCell (by show _ ≤ w.heap.size + 1 + 1; omega) _) (Nat.le_refl _))
  refine hid ?_
  go_wp2_with (at_builtin; refine wpList_app_copy _ rfl (.tmp 15) (.tmp 17) 24 rfl 3 i3 _ 1 8 Tryz.underlying24 I3.out Z3.out.1 Z3.out.2.1 Z3.out.2.2 rfl (by omega) w1.heap.size (by simp) (by rfl) aH hol.length cH (hol.map (fun x => Value.int .i64 x)) (by rfl) (by simp) (NEWS2.out _) (ints_one hol) (by unfold maxLen; omega) (by omega) ?_; intro g2 cap2 w2 o2 b2 l2 l2'; refine stopH ?_)
  have K2 := hid (own_irow o2)
  have s2 : w1.heap.size ≤ w2.heap.size := by have := b2.size; simpa using this
  have B2 : Hid (Below (w.heap.size + 1) (w.alloc (.cells #[.slice (some ⟨bC, oC, none⟩) n cC, .slice aR k cR, .int .i64 week, .slice aH hol.length cH] 26)) w2) := (B1.out.setCell (by show _ ≤ w.heap.size + 1 + 1; omega) _).trans (b2.mono (by omega))
  have R2 : Hid (w2.rowIs (w.heap.size + 1) 26 4 (gf 0)) := (R1.out.setOther (by show _ ≠ w.heap.size + 1 + 1; omega) _).of_block (b2.block _ (by omega))
  have G2 : Hid (w2.rowIs (w.heap.size + 1 + 1) 26 4 (gCopy (.slice (some ⟨g1, 0, none⟩) n cap1) (.slice none 0 0) week (.slice none 0 0))) := ((G1.out.set 0 _).congr (fun j _ => gf_set0 j)).of_block (b2.block _ (by omega))
  have K1' : Hid (CRow w2 g1 C n) := K1.out.of_block ((b2.block _ l1').trans (Below.heap_setCell _ _ _ _ (by show g1 ≠ w.heap.size + 1 + 1; omega)))
  clear o2 b2 NEWS2 f3 f3a d0 d9 hbw B1 R1 G1 K1
  have d3 := G2.out.cell (i := 3) (by omega)
  have d9 := G2.out.frozen 3
  simp [gCopy] at d3
  have f1 := boxed B2.out 1
  simp at f1
  have f1a : ∀ u, (w2.setCell ⟨w.heap.size + 1 + 1, 3, none⟩ u).cell? ⟨w.heap.size, 1, none⟩ = some (.slice aR k cR) := fun u => by
    rw [World.cell?_setCell_other (h := by simp)]
    exact f1
  have J1 : Hid (Below (w.heap.size + 1) (w.alloc (.cells #[.slice (some ⟨bC, oC, none⟩) n cC, .slice aR k cR, .int .i64 week, .slice aH hol.length cH] 26)) (w2.setCell ⟨w.heap.size + 1 + 1, 3, none⟩ (.slice (some ⟨g2, 0, none⟩) hol.length cap2))) := B2.out.setCell (by show _ ≤ w.heap.size + 1 + 1; omega) _
  have J2 : Hid ((w2.setCell ⟨w.heap.size + 1 + 1, 3, none⟩ (.slice (some ⟨g2, 0, none⟩) hol.length cap2)).rowIs (w.heap.size + 1) 26 4 (gf 0)) := R2.out.setOther (by show _ ≠ w.heap.size + 1 + 1; omega) _
  have J3 : Hid ((w2.setCell ⟨w.heap.size + 1 + 1, 3, none⟩ (.slice (some ⟨g2, 0, none⟩) hol.length cap2)).rowIs (w.heap.size + 1 + 1) 26 4 (gCopy (.slice (some ⟨g1, 0, none⟩) n cap1) (.slice (some ⟨g2, 0, none⟩) hol.length cap2) week (.slice none 0 0))) := (G2.out.set 3 _).congr (fun j hj => gCopy_set3 j hj)
  have J4 : Hid (CRow (w2.setCell ⟨w.heap.size + 1 + 1, 3, none⟩ (.slice (some ⟨g2, 0, none⟩) hol.length cap2)) g1 C n) := K1'.out.of_block (Below.heap_setCell _ _ _ _ (by show g1 ≠ w.heap.size + 1 + 1; omega))
  have J5 : Hid (IRow (w2.setCell ⟨w.heap.size + 1 + 1, 3, none⟩ (.slice (some ⟨g2, 0, none⟩) hol.length cap2)) g2 hol) := K2.out.of_block (Below.heap_setCell _ _ _ _ (by show g2 ≠ w.heap.size + 1 + 1; omega))
  have J6 : w.heap.size + 1 + 1 < (w2.setCell ⟨w.heap.size + 1 + 1, 3, none⟩ (.slice (some ⟨g2, 0, none⟩) hol.length cap2)).heap.size := by simp; omega
  clear B2 R2 G2 K1' K2
  refine hid ?_
  go_wp2
  go_loopw [23] (fun t wr => ∃ (m : Nat) (bt ct : Nat → Nat) (v : Value), m ≤ k ∧ t = .int .i64 m ∧ w.heap.size + 1 + 1 < wr.heap.size ∧ Hid (Below (w.heap.size + 1) (w.alloc (.cells #[.slice (some ⟨bC, oC, none⟩) n cC, .slice aR k cR, .int .i64 week, .slice aH hol.length cH] 26)) wr) ∧ Hid (wr.rowIs (w.heap.size + 1) 26 4 (gf 0)) ∧ Hid (wr.rowIs (w.heap.size + 1 + 1) 26 4 (gCopy (.slice (some ⟨g1, 0, none⟩) n cap1) (.slice (some ⟨g2, 0, none⟩) hol.length cap2) week v)) ∧ Hid (CRow wr g1 C n) ∧ Hid (IRow wr g2 hol) ∧ Hid (RulC wr (w.heap.size + 1 + 1 + 1) R bt ct m v) ∧ Hid (∀ i, i < m → w.heap.size + 1 + 1 < bt i ∧ IRow wr (bt i) (R i).steps)) (fun t _ => k - (intOf t).toNat)
  case atStart => exact ⟨0, fun _ => 0, fun _ => 0, .slice none 0 0, by omega, rfl, J6, J1, J2, J3, J4, J5, ⟨[], ⟨rfl, Or.inl ⟨rfl, rfl⟩⟩, fun j hj => by omega⟩, fun i hi => by omega⟩
  case round =>
    obtain ⟨m, bt, ct, v, m1, rfl, hsz, hb, hres, hg, hcr, hir, hrl, hst⟩ := hrel
    clear J1 J2 J3 J4 J5 J6 f1 f1a d3 d9
    have hbw := hid (boxed_below hb.out)
    by_cases hmt : m < k
    · obtain ⟨bR, oR, haR, hbR, hrr⟩ : ∃ b off, aR = some ⟨b, off, none⟩ ∧ b < wr.heap.size ∧ ∀ i, i < k → RuleIs wr b (off + i * 2) (R i) := by
        rcases HRR.out.below hbw.out with h | h
        · omega
        · exact h
      obtain ⟨u0, ast, caps, u1, u2, hsl⟩ := hrr m hmt
      have lt' : (m : Int) < (k : Int) := by omega
      have NEWS3 : Hid (∀ o, SrcAt (wr.alloc o) ast (R m).steps.length ((R m).steps.map (fun x => Value.int .i64 x))) := fun o =>
        ints_src (SlAt.below u2 ((Below.refl _ _).alloc (Nat.le_refl _) _) (Nat.le_refl _))
      subst haR
      clear hrr u2
      go_wp2_with (at_builtin; refine wpList_app_copy _ rfl (.tmp 27) (.tmp 29) 24 rfl 3 i3 _ 1 8 Tryz.underlying24 I3.out Z3.out.1 Z3.out.2.1 Z3.out.2.2 rfl (by omega) (wr.heap.size + 1) (by simp) (by rfl) ast (R m).steps.length caps ((R m).steps.map (fun x => Value.int .i64 x)) (by rfl) (by simp) (NEWS3.out _) (ints_one _) (by unfold maxLen; omega) (by omega) ?_; intro g3 cap3 w3 o3 b3 l3 l3'; refine stopH ?_)
      have KI := hid (own_irow o3)
      have bel := hid (boxed_below b3)
      have p0 := boxed b3 0
      simp at p0
      have bsz := b3.size
      simp at bsz
      obtain ⟨xs, hown, hxs⟩ := hrl.out
      have K1 : Hid (Below (w.heap.size + 1) (w.alloc (.cells #[.slice (some ⟨bC, oC, none⟩) n cC, .slice (some ⟨bR, oR, none⟩) k cR, .int .i64 week, .slice aH hol.length cH] 26)) w3) := hb.out.trans (bel.out.mono (by omega))
      have K2 := hid (hres.out.of_block (bel.out.block _ hres.out.lt))
      have K3 := hid (hg.out.of_block (bel.out.block _ hg.out.lt))
      have K4 := hid (hcr.out.of_block (bel.out.block _ hcr.out.lt))
      have K4' := hid (hir.out.of_block (bel.out.block _ hir.out.lt))
      have K5 := hid (own_of_block hown (w' := w3) (fun g _ hlt => bel.out.block g hlt))
      have HXS := hid hxs
      have HXL := hid hown.1
      have K6 : Hid (∀ i, i < m → w.heap.size + 1 + 1 < bt i ∧ IRow w3 (bt i) (R i).steps) := fun i hi => ⟨(hst.out i hi).1, (hst.out i hi).2.of_block (bel.out.block _ (hst.out i hi).2.lt)⟩
      clear o3 b3 hb hres hg hcr hir hrl hst hbw hown hxs NEWS3 u0 u1
      have d1 := K3.out.cell (i := 1) (by omega)
      have d9 := K3.out.frozen 1
      simp [gCopy] at d1
      have hne2 : Hid (v.ownBlock ≠ some (w.heap.size + 1 + 1)) := fun e => by have := own_base K5.out e; omega
      refine hid ?_
      go_wp2_with (at_builtin; refine wpList_append_lies _ rfl (.tmp 32) (.tmp 37) 23 rfl (w.heap.size + 1 + 1 + 1) 51 i80 _ 2 32 Tryz.underlying23 I80.out Z80.out.1 Z80.out.2.1 Z80.out.2.2 rfl (by omega) v m xs (by rfl) (own_alloc0 K5.out _) ⟨w3.heap.size, 0, none⟩ 1 1 [.int .i64 (R m).guard, .slice (some ⟨g3, 0, none⟩) (R m).steps.length cap3] (by rfl) (by rfl) (news2' _ _ _ _) (by simp [Value.oneCell']) (by omega) (by unfold maxLen; omega) (by omega) (by simp; omega) (w3.heap.size + 1) (by simp) ?_; intro g cap w4 hown2 hgrow hat hlt; refine stopH ?_)
      have hbk : w4.heap[w.heap.size + 1 + 1]? = w3.heap[w.heap.size + 1 + 1]? := ev_far0 w3 _ hgrow (by omega) hne2.out
      have e8 : w4.cell? ⟨w.heap.size + 1 + 1, 1, none⟩ = some v := by rw [World.cell?_of_block (w := w3) hbk]; exact d1
      have e9 : w4.frozen? ⟨w.heap.size + 1 + 1, 1, none⟩ = false := by rw [World.frozen?_of_block (w := w3) hbk]; exact d9
      have GB : Below (w.heap.size + 1 + 1 + 1) w3 w4 := grow_below0 hgrow (by omega) (fun g hg' => own_base K5.out hg')
      have far : ∀ b t l f, t ≠ 51 → w3.rowIs b t l f → w4.heap[b]? = w3.heap[b]? := fun b t l f ht hr => ev_far0 w3 _ hgrow hr.lt (own_ne_row K5.out hr ht)
      have N1 : Hid (Below (w.heap.size + 1) (w.alloc (.cells #[.slice (some ⟨bC, oC, none⟩) n cC, .slice (some ⟨bR, oR, none⟩) k cR, .int .i64 week, .slice aH hol.length cH] 26)) (w4.setCell ⟨w.heap.size + 1 + 1, 1, none⟩ (.slice (some ⟨g, 0, none⟩) (m + 1) cap))) := (K1.out.trans (GB.mono (by omega))).setCell (by show _ ≤ w.heap.size + 1 + 1; omega) _
      have N2 : Hid ((w4.setCell ⟨w.heap.size + 1 + 1, 1, none⟩ (.slice (some ⟨g, 0, none⟩) (m + 1) cap)).rowIs (w.heap.size + 1) 26 4 (gf 0)) := (K2.out.of_block (far _ _ _ _ (by decide) K2.out)).setOther (by show _ ≠ w.heap.size + 1 + 1; omega) _
      have N3 : Hid ((w4.setCell ⟨w.heap.size + 1 + 1, 1, none⟩ (.slice (some ⟨g, 0, none⟩) (m + 1) cap)).rowIs (w.heap.size + 1 + 1) 26 4 (gCopy (.slice (some ⟨g1, 0, none⟩) n cap1) (.slice (some ⟨g2, 0, none⟩) hol.length cap2) week (.slice (some ⟨g, 0, none⟩) (m + 1) cap))) := ((K3.out.of_block (far _ _ _ _ (by decide) K3.out)).set 1 _).congr (fun j _ => gCopy_set j)
      have N4 : Hid (CRow (w4.setCell ⟨w.heap.size + 1 + 1, 1, none⟩ (.slice (some ⟨g, 0, none⟩) (m + 1) cap)) g1 C n) := by
        obtain ⟨f, N, r, r2⟩ := K4.out
        exact ⟨f, N, (r.of_block (far _ _ _ _ (by decide) r)).setOther (by show g1 ≠ w.heap.size + 1 + 1; omega) _, r2⟩
      have N4' : Hid (IRow (w4.setCell ⟨w.heap.size + 1 + 1, 1, none⟩ (.slice (some ⟨g, 0, none⟩) (m + 1) cap)) g2 hol) := by
        obtain ⟨f, N, r, r2⟩ := K4'.out
        exact ⟨f, N, (r.of_block (far _ _ _ _ (by decide) r)).setOther (by show g2 ≠ w.heap.size + 1 + 1; omega) _, r2⟩
      have N5 : Hid (RulC (w4.setCell ⟨w.heap.size + 1 + 1, 1, none⟩ (.slice (some ⟨g, 0, none⟩) (m + 1) cap)) (w.heap.size + 1 + 1 + 1) R (upd bt m g3) (upd ct m cap3) (m + 1) (.slice (some ⟨g, 0, none⟩) (m + 1) cap)) := rulC_next HXS.out HXL.out (by omega) hown2 _
      have stay : ∀ b l, w.heap.size + 1 + 1 < b → IRow w3 b l → IRow (w4.setCell ⟨w.heap.size + 1 + 1, 1, none⟩ (.slice (some ⟨g, 0, none⟩) (m + 1) cap)) b l := fun b l hb' ⟨f, N, r, r2⟩ => ⟨f, N, (r.of_block (far _ _ _ _ (by decide) r)).setOther (by show b ≠ w.heap.size + 1 + 1; omega) _, r2⟩
      have N6 : Hid (∀ i, i < m + 1 → w.heap.size + 1 + 1 < upd bt m g3 i ∧ IRow (w4.setCell ⟨w.heap.size + 1 + 1, 1, none⟩ (.slice (some ⟨g, 0, none⟩) (m + 1) cap)) (upd bt m g3 i) (R i).steps) := fun i hi => by
        by_cases e : i = m
        · subst e
          rw [upd_same]
          exact ⟨by omega, stay _ _ (by omega) KI.out⟩
        · rw [upd_other _ _ e]
          obtain ⟨y1, y2⟩ := K6.out i (by omega)
          exact ⟨y1, stay _ _ y1 y2⟩
      have N7 : Hid (w.heap.size + 1 + 1 < (w4.setCell ⟨w.heap.size + 1 + 1, 1, none⟩ (.slice (some ⟨g, 0, none⟩) (m + 1) cap)).heap.size) := by have := GB.size; show _ < _; simp; omega
      clear GB far stay hbk hown2 hgrow hat hlt d1 d9 p0 KI K1 K2 K3 K4 K4' K5 K6 bel HXS HXL
      refine hid ?_
      go_wp2
      go_roundw
      case rel => exact ⟨m + 1, upd bt m g3, upd ct m cap3, .slice (some ⟨g, 0, none⟩) (m + 1) cap, by omega, by go_num, N7.out, N1, N2, N3, N4, N4', N5, N6⟩
      case measure => simp [intOf]; omega
    · obtain rfl : m = k := by omega
      obtain ⟨aO, cO, rfl, hRAt⟩ := hrl.out.at (fun i hi => (hst.out i hi).2) HSL.out
      clear hRAt
      have d0 := hg.out.cell (i := 0) (by omega)
      have d1 := hg.out.cell (i := 1) (by omega)
      have d2 := hg.out.cell (i := 2) (by omega)
      have d3 := hg.out.cell (i := 3) (by omega)
      have r0 := hres.out.cell (i := 0) (by omega)
      have r1 := hres.out.cell (i := 1) (by omega)
      have r2 := hres.out.cell (i := 2) (by omega)
      have r3 := hres.out.cell (i := 3) (by omega)
      have rz : ∀ j, wr.frozen? ⟨w.heap.size + 1, j, none⟩ = false := fun j => hres.out.frozen j
      simp [gf] at r0 r1 r2 r3
      simp [gCopy] at d0 d1 d2 d3
      have hx : ∃ FW, FW = ((((wr.setCell ⟨w.heap.size + 1, 0, none⟩ (.slice (some ⟨g1, 0, none⟩) n cap1)).setCell ⟨w.heap.size + 1, 1, none⟩ (.slice aO m cO)).setCell ⟨w.heap.size + 1, 2, none⟩ (.int .i64 week)).setCell ⟨w.heap.size + 1, 3, none⟩ (.slice (some ⟨g2, 0, none⟩) hol.length cap2)) := ⟨_, rfl⟩
      obtain ⟨FW, hFW⟩ := hx
      have P0 : Hid (FW.rowIs (w.heap.size + 1) 26 4 (fun j => if j = 3 then .slice (some ⟨g2, 0, none⟩) hol.length cap2 else if j = 2 then .int .i64 week else if j = 1 then .slice aO m cO else if j = 0 then .slice (some ⟨g1, 0, none⟩) n cap1 else gf 0 j)) := by
        rw [hFW]
        exact (((hres.out.set _ _).set _ _).set _ _).set _ _
      have P1 : Hid (∀ b, b ≠ w.heap.size + 1 → FW.heap[b]? = wr.heap[b]?) := fun b hb' => by
        rw [hFW, Below.heap_setCell _ _ _ _ hb', Below.heap_setCell _ _ _ _ hb', Below.heap_setCell _ _ _ _ hb', Below.heap_setCell _ _ _ _ hb']
      have P2 : Hid (Below w.heap.size w FW) := by
        rw [hFW]
        exact (((hbw.out.setCell (by show _ ≤ w.heap.size + 1; omega) _).setCell (by show _ ≤ w.heap.size + 1; omega) _).setCell (by show _ ≤ w.heap.size + 1; omega) _).setCell (by show _ ≤ w.heap.size + 1; omega) _
      have P3 : Hid (∀ W, FW.heap.size ≤ W.heap.size → (∀ b, w.heap.size ≤ b → b < FW.heap.size → b ≠ g1 → W.heap[b]? = FW.heap[b]?) → RAt W aO m R) := by
        intro W hW0 hW
        obtain ⟨xs, hown, hxs⟩ := hrl.out
        obtain ⟨fc, Nc, rc, _⟩ := hcr.out
        have hsW : ∀ b, w.heap.size + 1 < b → b < wr.heap.size → b ≠ g1 → W.heap[b]? = wr.heap[b]? := fun b h1 h2 h3 => by
          have hs : FW.heap.size = wr.heap.size := by rw [hFW]; simp
          rw [hW b (by omega) (by omega) h3, P1.out b (by omega)]
        have hRW : RulC W (w.heap.size + 1 + 1 + 1) R bt ct m (.slice aO m cO) := ⟨xs, own_of_block hown (fun g hg hlt => hsW g (by have := own_base hown hg; omega) hlt (fun e => own_ne_row hown rc (by decide) (by rw [← e]; exact hg))), hxs⟩
        have hRS : ∀ i, i < m → IRow W (bt i) (R i).steps := fun i hi => (hst.out i hi).2.of_block (hsW _ (by have := (hst.out i hi).1; omega) (hst.out i hi).2.lt (by
          obtain ⟨fi, Ni, ri, _⟩ := (hst.out i hi).2
          exact row_ne ri rc (by decide)))
        obtain ⟨a', c', e', h'⟩ := hRW.at hRS HSL.out
        have h2 : a' = aO := by injection e' with h _ _; exact h.symm
        rw [h2] at h'; exact h'
      have Q : Hid (CopyPost C n R m hol week w (.returned (.agg #[.slice (some ⟨g1, 0, none⟩) n cap1, .slice aO m cO, .int .i64 week, .slice (some ⟨g2, 0, none⟩) hol.length cap2])) FW) :=
        ⟨g1, cap1, aO, cO, g2, cap2, rfl, by omega, hcr.out.of_block (P1.out _ (by omega)), by omega, hir.out.of_block (P1.out _ (by omega)), P3.out, P2.out⟩
      have HFW := hid hFW
      clear hFW P1 P2 P3 hb hres hg hcr hir hrl hst hbw
      go_wp2
      rw [← HFW.out]
      have x0 := P0.out.cell (i := 0) (by omega)
      have x1 := P0.out.cell (i := 1) (by omega)
      have x2 := P0.out.cell (i := 2) (by omega)
      have x3 := P0.out.cell (i := 3) (by omega)
      simp at x0 x1 x2 x3
      exact bodyPost_ret (v := .agg #[.slice (some ⟨g1, 0, none⟩) n cap1, .slice aO m cO, .int .i64 week, .slice (some ⟨g2, 0, none⟩) hol.length cap2]) (by simp [results, Tryz.results64, go_sem, x0, x1, x2, x3]) rfl Q.out

end Go.Proofs.YtmofidaojmiepaaGreatDoor
