/-
  THE WALKS: the code's writer of texts: what a cell names.
-/
import Derived.Test.YtmofidaojmiepaaGreatDoorGY8
import Derived.Test.YtmofidaojmiepaaGreatDoorGY10
import Derived.Test.YtmofidaojmiepaaGreatDoorGD2
import Derived.Test.YtmofidaojmiepaaGreatDoorGX1
import Derived.Test.YtmofidaojmiepaaGreatDoorGH24
import Derived.Test.YtmofidaojmiepaaGreatDoorGE5
set_option linter.unusedVariables false
set_option linter.unusedSimpArgs false
namespace Go.Proofs.YtmofidaojmiepaaGreatDoor

open Go.RowKit

attribute [local go_sem ↓] Go.wp_at_zero Go.wp_at_succ

def ndL (c : Cel) (i : Nat) : List Int := (List.range i).map (needp c)

theorem ndL_more (c : Cel) (i : Nat) : ndL c (i + 1) = ndL c i ++ [needp c i] := by unfold ndL; rw [List.range_succ]; simp

theorem ndL_len (c : Cel) (i : Nat) : (ndL c i).length = i := by simp [ndL]

/-- The numbers behind a cell's kind. -/
def nmL (c : Cel) : List Int := ndL c (need0 c.kind).toNat ++ (if hasKB c.kind = true then [c.k] else [])

def LsQ (l : List Int) (w : World) (e : Ending) (w' : World) : Prop := ∃ v, e = .returned v ∧ w'.ownsRow w.heap.size 3 1 v l.length (ints l) ∧ Below w.heap.size w w'

set_option maxRecDepth 100000 in
set_option maxHeartbeats 2000000 in
theorem wnamed_any (kd a b c k : Int) (w : World) (ht : Tab w) :
    Calls Tryz.prog 41 #[.agg #[.int .i64 kd, .int .i64 a, .int .i64 b, .int .i64 c, .int .i64 k]] w fun e w' => LsQ (nmL ⟨kd, a, b, c, k⟩) w e w' := by
  obtain ⟨i3, y3, y4⟩ := Option.map_eq_some_iff.1 info3
  simp only [Prod.mk.injEq] at y4
  have I3 := hid y3
  have Z3 := hid y4
  clear y3 y4
  have B0 := hid (Below.refl (w.heap.size + 1) (w.alloc (.cells #[.int .i64 kd, .int .i64 a, .int .i64 b, .int .i64 c, .int .i64 k] 47)))
  have f0 : (w.alloc (.cells #[.int .i64 kd, .int .i64 a, .int .i64 b, .int .i64 c, .int .i64 k] 47)).cell? ⟨w.heap.size, 0, none⟩ = some (.int .i64 kd) := boxed B0.out 0
  have ND := hid (pneeds_any kd (w.alloc (.cells #[.int .i64 kd, .int .i64 a, .int .i64 b, .int .i64 c, .int .i64 k] 47)) (ht.below (boxed_below B0.out) (Nat.le_refl _)))
  obtain ⟨cn, hcn⟩ := Int.eq_ofNat_of_zero_le (need0_bd kd).1
  have c3 : cn ≤ 3 := by have := (need0_bd kd).2; omega
  rw [hcn] at ND
  have CN : Hid (nmL ⟨kd, a, b, c, k⟩ = ndL ⟨kd, a, b, c, k⟩ cn ++ (if hasKB kd = true then [k] else [])) := by
    show nmL _ = _
    unfold nmL
    rw [show (need0 (Cel.kind ⟨kd, a, b, c, k⟩)).toNat = cn by show (need0 kd).toNat = cn; omega]
  clear hcn ht
  go_enter Tryz.func41, Tryz.ntmps41
  go_wp2_with fail
  refine ND.out.mono ?_
  rintro e w' ⟨rfl, hw⟩
  rw [hw]
  clear hw w' ND f0
  go_wp2_with fail
  go_loopw [3, 5] (fun to ti wr => ∃ (i : Nat) (v : Value), i ≤ cn ∧ ti = .int .i64 i ∧ v = to ∧ Hid (wr.ownsRow (w.heap.size + 1) 3 1 v (ndL ⟨kd, a, b, c, k⟩ i).length (ints (ndL ⟨kd, a, b, c, k⟩ i))) ∧ Hid (Below (w.heap.size + 1) (w.alloc (.cells #[.int .i64 kd, .int .i64 a, .int .i64 b, .int .i64 c, .int .i64 k] 47)) wr)) (fun _ ti _ => cn - (intOf ti).toNat)
  case atStart => exact ⟨0, .slice none 0 0, by omega, rfl, rfl, ⟨rfl, Or.inl ⟨rfl, rfl⟩⟩, B0⟩
  case round =>
    clear B0
    obtain ⟨i, v, i1, rfl, rfl, hown, hb⟩ := hrel
    have f0 := boxed hb.out 0
    have f1 := boxed hb.out 1
    have f2 := boxed hb.out 2
    have f3 := boxed hb.out 3
    have f4 := boxed hb.out 4
    simp at f0 f1 f2 f3 f4
    have zw := hb.out.size
    simp at zw
    by_cases hit : i < cn
    · have lt' : (i : Int) < (cn : Int) := by omega
      have NE := hid (pneed_any kd a b c k i wr (by omega))
      have LN : (ndL ⟨kd, a, b, c, k⟩ i).length ≤ 3 := by rw [ndL_len]; omega
      have MR := hid (ndL_more ⟨kd, a, b, c, k⟩ i)
      generalize needp ⟨kd, a, b, c, k⟩ i = x at *
      go_wp2_with fail
      refine NE.out.mono ?_
      rintro e w2 ⟨rfl, hb2⟩
      have hown2 := hid (own_of_block hown.out (w' := w2) (fun g _ hlt => hb2.block g hlt))
      have hb3 := hid (hb.out.trans (hb2.mono (by omega)))
      have zw2 := hb2.size
      clear hb2 NE hown hb f0 f1 f2 f3 f4
      go_wp2_with (at_builtin; refine wpList_append_lies _ rfl (.tmp 18) (.tmp 20) 24 rfl (w.heap.size + 1) 3 i3 _ 1 8 Tryz.underlying24 I3.out Z3.out.1 Z3.out.2.1 Z3.out.2.2 rfl (by omega) v (ndL ⟨kd, a, b, c, k⟩ i).length (ints (ndL ⟨kd, a, b, c, k⟩ i)) (by rfl) (own_alloc0 hown2.out _) ⟨w2.heap.size, 0, none⟩ 1 1 [.int .i64 x] (by rfl) (by rfl) (news1k _ _ _) (by simp [Value.oneCell']) (by omega) (by unfold maxLen; omega) (by omega) (by simp; omega) (w2.heap.size + 1) (by simp) ?_; intro g cap w6 hown3 hgrow hat hlt; refine stopH ?_)
      have N1 : Hid (w6.ownsRow (w.heap.size + 1) 3 1 (.slice (some ⟨g, 0, none⟩) ((ndL ⟨kd, a, b, c, k⟩ i).length + 1) cap) (ndL ⟨kd, a, b, c, k⟩ (i + 1)).length (ints (ndL ⟨kd, a, b, c, k⟩ (i + 1)))) := by
        rw [MR.out, List.length_append, show ints (ndL ⟨kd, a, b, c, k⟩ i ++ [x]) = ints (ndL ⟨kd, a, b, c, k⟩ i) ++ [.int .i64 x] by simp [ints]]
        exact hown3
      have N2 := hid (hb3.out.trans (grow_below0 hgrow (by omega) (fun g hg' => own_base hown2.out hg')))
      clear hown3 hgrow hat hlt hown2 hb3 MR
      refine hid ?_
      go_wp2
      go_roundw
      case rel => exact ⟨i + 1, _, by omega, by go_num, rfl, N1, N2⟩
      case measure => simp [intOf]; omega
    · obtain rfl : i = cn := by omega
      have HK := hid (hask_any kd wr)
      have LN : (ndL ⟨kd, a, b, c, k⟩ i).length ≤ 3 := by rw [ndL_len]; omega
      have hbw := hid (boxed_below hb.out)
      cases hk : hasKB kd
      · rw [hk] at HK
        have R : Hid (LsQ (nmL ⟨kd, a, b, c, k⟩) w (.returned v) wr) := by
          refine ⟨v, rfl, ?_, hbw.out⟩
          rw [CN.out, hk]
          simp only [Bool.false_eq_true, if_false, List.append_nil]
          refine ⟨hown.out.1, ?_⟩
          rcases hown.out.2 with h2 | ⟨g, cap, cur, a1, a2, a3⟩
          · exact Or.inl h2
          · exact Or.inr ⟨g, cap, cur, a1, by omega, a3⟩
        clear hown hb hk hbw CN
        go_wp2_with fail
        refine HK.out.mono ?_
        rintro e w' ⟨rfl, hw⟩
        rw [hw]
        clear hw w' HK
        go_wp2
        go_ret
        exact R.out
      · rw [hk] at HK
        have CN2 : Hid (nmL ⟨kd, a, b, c, k⟩ = ndL ⟨kd, a, b, c, k⟩ i ++ [k]) := by show nmL _ = _; rw [CN.out, hk]; simp
        clear hk CN
        go_wp2_with fail
        refine HK.out.mono ?_
        rintro e w' ⟨rfl, hw⟩
        rw [hw]
        clear hw w' HK
        go_wp2_with (at_builtin; refine wpList_append_lies _ rfl (.tmp 25) (.tmp 28) 24 rfl (w.heap.size + 1) 3 i3 _ 1 8 Tryz.underlying24 I3.out Z3.out.1 Z3.out.2.1 Z3.out.2.2 rfl (by omega) v (ndL ⟨kd, a, b, c, k⟩ i).length (ints (ndL ⟨kd, a, b, c, k⟩ i)) (by rfl) (own_alloc0 hown.out _) ⟨wr.heap.size, 0, none⟩ 1 1 [.int .i64 k] (by rfl) (by rfl) (news1k _ _ _) (by simp [Value.oneCell']) (by omega) (by unfold maxLen; omega) (by omega) (by simp; omega) (wr.heap.size + 1) (by simp) ?_; intro g cap w6 hown3 hgrow hat hlt; refine stopH ?_)
        have R : Hid (LsQ (nmL ⟨kd, a, b, c, k⟩) w (.returned (.slice (some ⟨g, 0, none⟩) ((ndL ⟨kd, a, b, c, k⟩ i).length + 1) cap)) w6) := by
          have N2 := hb.out.trans (grow_below0 hgrow (by omega) (fun g hg' => own_base hown.out hg'))
          refine ⟨_, rfl, ?_, boxed_below N2⟩
          have h3 : w6.ownsRow (w.heap.size + 1) 3 1 (.slice (some ⟨g, 0, none⟩) ((ndL ⟨kd, a, b, c, k⟩ i).length + 1) cap) (nmL ⟨kd, a, b, c, k⟩).length (ints (nmL ⟨kd, a, b, c, k⟩)) := by
            rw [CN2.out, List.length_append, show ints (ndL ⟨kd, a, b, c, k⟩ i ++ [k]) = ints (ndL ⟨kd, a, b, c, k⟩ i) ++ [.int .i64 k] by simp [ints]]
            exact hown3
          refine ⟨h3.1, ?_⟩
          rcases h3.2 with h2 | ⟨g, cap, cur, a1, a2, a3⟩
          · exact Or.inl h2
          · exact Or.inr ⟨g, cap, cur, a1, by omega, a3⟩
        clear hown3 hgrow hat hlt hown hb hbw CN2
        refine hid ?_
        go_wp2
        go_ret
        exact R.out

end Go.Proofs.YtmofidaojmiepaaGreatDoor

/-
  TEXTS, as mathematics: a form's text.
-/
set_option linter.unusedVariables false
set_option linter.unusedSimpArgs false
namespace Go.Proofs.YtmofidaojmiepaaGreatDoor

open Go.RowKit

open Go.Lib (itoa decDigits nDigits)

def celL (c : Cel) : List Int := c.kind :: nmL c

def rulL (r : Rul) : List Int := r.guard :: r.steps

def Frm.doc (f : Frm) : Doc := ⟨f.week :: f.hol, (List.range f.n).map (fun i => celL (f.C i)), (List.range f.k).map (fun i => rulL (f.R i))⟩

/-- A cell that has noughts where its row names nothing. -/
def Bare (c : Cel) : Prop := ∃ (kd : Nat) (ln : List Int) (K : Int), c = ⟨kd, ln.getD 0 0, ln.getD 1 0, ln.getD 2 0, K⟩ ∧ kd ≤ 12 ∧ (ln.length : Int) = needsN kd ∧ (hasKB kd = false → K = 0)

theorem bare_nmL {kd : Nat} {ln : List Int} {K : Int} (h12 : kd ≤ 12) (hl : (ln.length : Int) = needsN kd) : nmL ⟨kd, ln.getD 0 0, ln.getD 1 0, ln.getD 2 0, K⟩ = ln ++ kL kd K := by
  have e0 : (need0 (kd : Int)).toNat = ln.length := by rw [need_want h12, ← hl]; simp
  have b3 : ln.length ≤ 3 := by have := (need0_bd (kd : Int)).2; omega
  unfold nmL kL
  show ndL _ (need0 (kd : Int)).toNat ++ _ = _
  rw [e0]
  congr 1
  unfold ndL
  refine List.ext_getElem (by simp) (fun i h1 h2 => ?_)
  rw [List.getElem_map, List.getElem_range]
  unfold needp
  have : i = 0 ∨ i = 1 ∨ i = 2 := by omega
  rcases this with rfl | rfl | rfl
  · simp [List.getD, h2]
  · simp [List.getD, h2]
  · simp [List.getD, h2]

theorem wantK_len {kd : Nat} {ln : List Int} {K : Int} (hl : (ln.length : Int) = needsN kd) : ((ln ++ kL kd K).length : Int) = wantK kd := by
  unfold wantK kL
  rw [← hl]
  split
  · simp
  · simp

theorem bare_line {kd : Nat} {ln : List Int} {K : Int} (h12 : kd ≤ 12) (hl : (ln.length : Int) = needsN kd) (hn : ∀ x ∈ ln ++ kL kd K, N10 x) : celL ⟨kd, ln.getD 0 0, ln.getD 1 0, ln.getD 2 0, K⟩ = (kd : Int) :: (ln ++ kL kd K) ∧ CellL (celL ⟨kd, ln.getD 0 0, ln.getD 1 0, ln.getD 2 0, K⟩) := by
  have e : celL ⟨kd, ln.getD 0 0, ln.getD 1 0, ln.getD 2 0, K⟩ = (kd : Int) :: (ln ++ kL kd K) := by unfold celL; rw [bare_nmL h12 hl]
  refine ⟨e, ?_⟩
  rw [e]
  exact ⟨kd, _, rfl, by omega, by omega, wantK_len hl, hn⟩

def Frm.addC (f : Frm) (c : Cel) : Frm := { f with n := f.n + 1, C := upd f.C f.n c }

def Frm.addR (f : Frm) (r : Rul) : Frm := { f with k := f.k + 1, R := upd f.R f.k r }

theorem csT_snoc (cs : List (List Int)) (l : List Int) : csT (cs ++ [l]) = csT cs ++ lineT 99 l := by unfold csT; simp

theorem rsT_snoc (cs : List (List Int)) (l : List Int) : rsT (cs ++ [l]) = rsT cs ++ lineT 114 l := by unfold rsT; simp

theorem map_upd {α β : Type} (f : α → β) (C : Nat → α) (n : Nat) (c : α) : (List.range (n + 1)).map (fun i => f (upd C n c i)) = (List.range n).map (fun i => f (C i)) ++ [f c] := by
  rw [List.range_succ, List.map_append, List.map_cons, List.map_nil, upd_same]
  congr 1
  refine List.map_congr_left (fun j hj => ?_)
  rw [upd_other _ _ (by have := List.mem_range.1 hj; omega)]

theorem Frm.doc_addC (f : Frm) (c : Cel) (h : f.k = 0) : (f.addC c).doc.text = f.doc.text ++ lineT 99 (celL c) := by
  show lineT 119 _ ++ (csT ((List.range (f.n + 1)).map (fun i => celL (upd f.C f.n c i))) ++ rsT ((List.range f.k).map _)) = lineT 119 _ ++ (csT _ ++ rsT ((List.range f.k).map _)) ++ _
  rw [map_upd celL, csT_snoc, h]
  simp [rsT]
  rfl

theorem Frm.doc_addR (f : Frm) (r : Rul) : (f.addR r).doc.text = f.doc.text ++ lineT 114 (rulL r) := by
  show lineT 119 _ ++ (csT _ ++ rsT ((List.range (f.k + 1)).map (fun i => rulL (upd f.R f.k r i)))) = lineT 119 _ ++ (csT _ ++ rsT ((List.range f.k).map _)) ++ _
  rw [map_upd rulL, rsT_snoc]
  simp [Frm.doc]
  rfl

/-- What a text's form is. -/
structure Frm.Txt (f : Frm) : Prop where
  ok : f.doc.Ok
  bare : ∀ i, i < f.n → Bare (f.C i)

theorem Frm.Txt.addC {f : Frm} (h : f.Txt) {c : Cel} (hb : Bare c) (hl : CellL (celL c)) : (f.addC c).Txt := by
  refine ⟨⟨h.ok.w, ?_, h.ok.rs⟩, fun i hi => ?_⟩
  · show ∀ l ∈ (List.range (f.n + 1)).map (fun i => celL (upd f.C f.n c i)), CellL l
    rw [map_upd celL]
    intro l hm
    rcases List.mem_append.1 hm with g | g
    · exact h.ok.cs l g
    · rw [List.mem_singleton.1 g]; exact hl
  · show Bare (upd f.C f.n c i)
    by_cases e : i = f.n
    · subst e; rw [upd_same]; exact hb
    · rw [upd_other _ _ e]; exact h.bare i (by have : i < f.n + 1 := hi; omega)

theorem Frm.Txt.addR {f : Frm} (h : f.Txt) {r : Rul} (hl : ∀ x ∈ rulL r, N10 x) : (f.addR r).Txt := by
  refine ⟨⟨h.ok.w, h.ok.cs, ?_⟩, fun i hi => h.bare i hi⟩
  show ∀ l ∈ (List.range (f.k + 1)).map (fun i => rulL (upd f.R f.k r i)), RowL l
  rw [map_upd rulL]
  intro l hm
  rcases List.mem_append.1 hm with g | g
  · exact h.ok.rs l g
  · rw [List.mem_singleton.1 g]; exact ⟨by unfold rulL; simp, hl⟩

def frm0 (week : Int) (hol : List Int) : Frm := ⟨fun _ => ⟨0, 0, 0, 0, 0⟩, 0, fun _ => ⟨0, []⟩, 0, hol, week⟩

theorem frm0_txt {week : Int} {hol : List Int} (h : ∀ x ∈ week :: hol, N10 x) : (frm0 week hol).Txt ∧ (frm0 week hol).doc.text = lineT 119 (week :: hol) := by
  refine ⟨⟨⟨⟨by simp [Frm.doc], h⟩, fun l hl => by simp [Frm.doc, frm0] at hl, fun l hl => by simp [Frm.doc, frm0] at hl⟩, fun i hi => by simp [frm0] at hi⟩, ?_⟩
  show lineT 119 (week :: hol) ++ (csT [] ++ rsT []) = _
  simp [csT, rsT]

/-! ### Lengths -/

theorem lineT_len (c : UInt8) (l : List Int) : l.length + 2 ≤ (lineT c l).length := by
  unfold lineT
  rw [List.length_cons, List.length_append]
  have := numsT_len l
  simp
  omega

theorem lines_len (c : UInt8) (ls : List (List Int)) : ls.length ≤ (ls.flatMap (lineT c)).length ∧ ∀ l ∈ ls, l.length ≤ (ls.flatMap (lineT c)).length := by
  induction ls with
  | nil => exact ⟨by simp, fun l h => by simp at h⟩
  | cons a ls ih =>
    have := lineT_len c a
    rw [List.flatMap_cons, List.length_append]
    refine ⟨by rw [List.length_cons]; omega, fun l h => ?_⟩
    rcases List.mem_cons.1 h with rfl | h
    · omega
    · have := ih.2 l h; omega

theorem Frm.few (f : Frm) : f.n ≤ f.doc.text.length ∧ f.k ≤ f.doc.text.length ∧ f.hol.length ≤ f.doc.text.length ∧ ∀ i, i < f.k → (f.R i).steps.length ≤ f.doc.text.length := by
  have e : f.doc.text.length = (lineT 119 (f.week :: f.hol)).length + ((csT ((List.range f.n).map (fun i => celL (f.C i)))).length + (rsT ((List.range f.k).map (fun i => rulL (f.R i)))).length) := by
    show (lineT 119 _ ++ (csT _ ++ rsT _)).length = _
    rw [List.length_append, List.length_append]
    rfl
  have h1 := lineT_len 119 (f.week :: f.hol)
  have h2 := lines_len 99 ((List.range f.n).map (fun i => celL (f.C i)))
  have h3 := lines_len 114 ((List.range f.k).map (fun i => rulL (f.R i)))
  have h20 := h2.1
  have h30 := h3.1
  rw [List.length_map, List.length_range] at h20 h30
  unfold csT rsT at e
  rw [List.length_cons] at h1
  refine ⟨by omega, by omega, by omega, fun i hi => ?_⟩
  have h4 := h3.2 (rulL (f.R i)) (List.mem_map.2 ⟨i, List.mem_range.2 hi, rfl⟩)
  have : (rulL (f.R i)).length = (f.R i).steps.length + 1 := by simp [rulL]
  omega

end Go.Proofs.YtmofidaojmiepaaGreatDoor

/-
  TEXTS, as mathematics: a text is of one form alone.
-/
set_option linter.unusedVariables false
set_option linter.unusedSimpArgs false
namespace Go.Proofs.YtmofidaojmiepaaGreatDoor

open Go.RowKit

open Go.Lib (itoa decDigits nDigits)

def NumB (c : UInt8) : Prop := Dg c ∨ c = 45

theorem itoa_bytes (n : Int) : ∀ c ∈ itoa n, NumB c := by
  by_cases h : n < 0
  · obtain ⟨k, hk⟩ := Int.eq_ofNat_of_zero_le (show 0 ≤ -n by omega)
    obtain rfl : n = -(k : Int) := by omega
    rw [itoa_neg (by omega)]
    intro c hc
    rcases List.mem_cons.1 hc with rfl | hc
    · exact Or.inr rfl
    · exact Or.inl (dec_digits _ c hc)
  · obtain ⟨k, rfl⟩ := Int.eq_ofNat_of_zero_le (show 0 ≤ n by omega)
    rw [itoa_pos]
    exact fun c hc => Or.inl (dec_digits _ c hc)

theorem itoa_inj {n m : Int} (h : itoa n = itoa m) : n = m := by
  have key : ∀ n : Int, (n < 0 ∧ ∃ t, itoa n = 45 :: t ∧ (valF 0 t : Int) = -n) ∨ (0 ≤ n ∧ (∀ c t, itoa n = c :: t → c ≠ 45) ∧ (valF 0 (itoa n) : Int) = n) := by
    intro n
    by_cases h : n < 0
    · obtain ⟨k, hk⟩ := Int.eq_ofNat_of_zero_le (show 0 ≤ -n by omega)
      obtain rfl : n = -(k : Int) := by omega
      left
      exact ⟨h, decDigits k, itoa_neg (by omega), by rw [valF_dec]; omega⟩
    · obtain ⟨k, rfl⟩ := Int.eq_ofNat_of_zero_le (show 0 ≤ n by omega)
      right
      refine ⟨by omega, fun c t e => ?_, by rw [itoa_pos, valF_dec]⟩
      rw [itoa_pos] at e
      exact (dg_ne (dec_digits k c (by rw [e]; simp))).2.2
  rcases key n with ⟨h1, t, e1, v1⟩ | ⟨h1, e1, v1⟩ <;> rcases key m with ⟨h2, t2, e2, v2⟩ | ⟨h2, e2, v2⟩
  · rw [e1, e2] at h
    have := (List.cons.inj h).2
    rw [this] at v1
    omega
  · rw [e1] at h
    exact absurd rfl (e2 _ _ h.symm)
  · rw [e2] at h
    exact absurd rfl (e1 _ _ h)
  · rw [h] at v1
    omega

/-- What comes behind a number: no sign of a number. -/
def Stops (r : List UInt8) : Prop := ∀ c t, r = c :: t → ¬ NumB c

theorem stops10 (r : List UInt8) : Stops (10 :: r) := fun c t e => by
  rw [← (List.cons.inj e).1]; unfold NumB Dg; decide

theorem stops32 (r : List UInt8) : Stops (32 :: r) := fun c t e => by
  rw [← (List.cons.inj e).1]; unfold NumB Dg; decide

theorem nums_stops (l : List Int) (r : List UInt8) : Stops (numsT l ++ 10 :: r) := by
  cases l with
  | nil => exact stops10 _
  | cons n l => rw [numsT_cons]; exact stops32 _

theorem pre_inj {p : UInt8 → Prop} : ∀ {a b x y : List UInt8}, (∀ c ∈ a, p c) → (∀ c ∈ b, p c) → (∀ c t, x = c :: t → ¬ p c) → (∀ c t, y = c :: t → ¬ p c) → a ++ x = b ++ y → a = b ∧ x = y := by
  intro a
  induction a with
  | nil =>
    intro b x y _ hb hx _ e
    cases b with
    | nil => exact ⟨rfl, e⟩
    | cons c b => exact absurd (hb c (by simp)) (hx c (b ++ y) e)
  | cons c a ih =>
    intro b x y ha hb hx hy e
    cases b with
    | nil => exact absurd (ha c (by simp)) (hy c (a ++ x) e.symm)
    | cons d b =>
      obtain ⟨q1, q2⟩ := List.cons.inj e
      obtain ⟨e1, e2⟩ := ih (fun c h => ha c (List.mem_cons_of_mem _ h)) (fun c h => hb c (List.mem_cons_of_mem _ h)) hx hy q2
      exact ⟨by rw [q1, e1], e2⟩

theorem nums_inj : ∀ {l l' : List Int} {r r' : List UInt8}, numsT l ++ 10 :: r = numsT l' ++ 10 :: r' → l = l' ∧ r = r' := by
  intro l
  induction l with
  | nil =>
    intro l' r r' e
    cases l' with
    | nil => exact ⟨rfl, (List.cons.inj e).2⟩
    | cons n t => rw [numsT_cons] at e; exact absurd (List.cons.inj e).1 (by decide)
  | cons n l ih =>
    intro l' r r' e
    cases l' with
    | nil => rw [numsT_cons] at e; exact absurd (List.cons.inj e).1 (by decide)
    | cons m t =>
      rw [numsT_cons, numsT_cons] at e
      have e : itoa n ++ numsT l ++ 10 :: r = itoa m ++ numsT t ++ 10 :: r' := (List.cons.inj e).2
      rw [List.append_assoc, List.append_assoc] at e
      obtain ⟨e1, e2⟩ := pre_inj (itoa_bytes n) (itoa_bytes m) (nums_stops _ _) (nums_stops _ _) e
      obtain ⟨rfl, rfl⟩ := ih e2
      exact ⟨by rw [itoa_inj e1], rfl⟩

theorem line_inj {c c' : UInt8} {l l' : List Int} {r r' : List UInt8} (e : lineT c l ++ r = lineT c' l' ++ r') : c = c' ∧ l = l' ∧ r = r' := by
  unfold lineT at e
  obtain ⟨h1, h2⟩ := List.cons.inj e
  have h2 : numsT l ++ [10] ++ r = numsT l' ++ [10] ++ r' := h2
  rw [List.append_assoc, List.append_assoc] at h2
  obtain ⟨h3, h4⟩ := nums_inj (r := r) (r' := r') h2
  exact ⟨h1, h3, h4⟩

theorem lines_inj {c : UInt8} : ∀ {a b : List (List Int)} {x y : List UInt8}, (∀ t, x ≠ c :: t) → (∀ t, y ≠ c :: t) → a.flatMap (lineT c) ++ x = b.flatMap (lineT c) ++ y → a = b ∧ x = y := by
  intro a
  induction a with
  | nil =>
    intro b x y hx _ e
    cases b with
    | nil => exact ⟨rfl, e⟩
    | cons l b => rw [List.flatMap_cons] at e; exact absurd e (hx _)
  | cons l a ih =>
    intro b x y hx hy e
    cases b with
    | nil => rw [List.flatMap_cons] at e; exact absurd e.symm (hy _)
    | cons m b =>
      rw [List.flatMap_cons, List.flatMap_cons, List.append_assoc, List.append_assoc] at e
      obtain ⟨_, q1, q2⟩ := line_inj e
      obtain ⟨q3, q4⟩ := ih hx hy q2
      exact ⟨by rw [q1, q3], q4⟩

theorem Doc.inj {d d' : Doc} (e : d.text = d'.text) : d = d' := by
  unfold Doc.text at e
  obtain ⟨_, e1, e2⟩ := line_inj e
  have no : ∀ rs : List (List Int), ∀ t, rsT rs ≠ 99 :: t := fun rs t e => by
    unfold rsT at e
    cases rs with
    | nil => cases e
    | cons l rs => rw [List.flatMap_cons] at e; exact absurd (List.cons.inj e).1 (by decide)
  obtain ⟨e3, e4⟩ := lines_inj (c := 99) (no _) (no _) e2
  obtain ⟨e5, _⟩ := lines_inj (c := 114) (x := []) (y := []) (by simp) (by simp) (show rsT d.rs ++ [] = rsT d'.rs ++ [] by rw [e4])
  cases d
  cases d'
  simp_all

theorem bare_inj {c c' : Cel} (h : Bare c) (h' : Bare c') (e : celL c = celL c') : c = c' := by
  obtain ⟨kd, ln, K, rfl, h12, hl, hK⟩ := h
  obtain ⟨kd', ln', K', rfl, h12', hl', hK'⟩ := h'
  unfold celL at e
  obtain ⟨e1, e2⟩ := List.cons.inj e
  have e1 : (kd : Int) = kd' := e1
  obtain rfl : kd = kd' := by omega
  rw [bare_nmL h12 hl, bare_nmL h12 hl'] at e2
  obtain ⟨rfl, e3⟩ := List.append_inj e2 (by omega)
  congr 1
  unfold kL at e3
  by_cases hk : hasKB kd = true
  · rw [if_pos hk, if_pos hk] at e3
    exact (List.cons.inj e3).1
  · rw [hK (by simpa using hk), hK' (by simpa using hk)]

/-- Two forms that are the same. -/
structure Frm.Same (f g : Frm) : Prop where
  n : f.n = g.n
  C : ∀ i, i < f.n → f.C i = g.C i
  k : f.k = g.k
  R : ∀ i, i < f.k → f.R i = g.R i
  week : f.week = g.week
  hol : f.hol = g.hol

theorem map_inj {α β : Type} {F G : Nat → β} {n m : Nat} (e : (List.range n).map F = (List.range m).map G) : n = m ∧ ∀ i, i < n → F i = G i := by
  have h := congrArg List.length e
  simp at h
  subst h
  refine ⟨rfl, fun i hi => ?_⟩
  have := congrArg (·[i]?) e
  simpa [hi] using this

theorem Frm.Txt.inj {f g : Frm} (h : f.Txt) (h' : g.Txt) (e : f.doc.text = g.doc.text) : f.Same g := by
  have e1 := Doc.inj e
  have ew : f.week :: f.hol = g.week :: g.hol := congrArg Doc.w e1
  obtain ⟨ec, ec'⟩ := map_inj (α := Nat) (congrArg Doc.cs e1)
  obtain ⟨er, er'⟩ := map_inj (α := Nat) (congrArg Doc.rs e1)
  refine ⟨ec, fun i hi => bare_inj (h.bare i hi) (h'.bare i (by omega)) (ec' i hi), er, fun i hi => ?_, (List.cons.inj ew).1, (List.cons.inj ew).2⟩
  have := er' i hi
  unfold rulL at this
  obtain ⟨q1, q2⟩ := List.cons.inj this
  cases hf : f.R i
  cases hg : g.R i
  rw [hf, hg] at q1 q2
  simp_all

end Go.Proofs.YtmofidaojmiepaaGreatDoor

/-
  THE WALKS: lists that own their room: a form's lists.
-/
set_option linter.unusedVariables false
set_option linter.unusedSimpArgs false
namespace Go.Proofs.YtmofidaojmiepaaGreatDoor

open Go.RowKit

theorem own_ltT {w : World} {base : Nat} {e : TypeId} {size : Nat} {v : Value} {n : Nat} {xs : List Value} (h : w.ownsRow base e size v n xs) {g : Nat} (hg : v.ownBlock = some g) : g < w.heap.size := by
  obtain ⟨cur, hc⟩ := own_type h hg
  rcases Nat.lt_or_ge g w.heap.size with h | h
  · exact h
  · rw [Array.getElem?_eq_none h] at hc; cases hc

/-- Two lists of different things lie apart. -/
theorem own_apart {w : World} {b1 b2 : Nat} {e1 e2 : TypeId} {s1 s2 : Nat} {v1 v2 : Value} {n1 n2 : Nat} {x1 x2 : List Value} (h1 : w.ownsRow b1 e1 s1 v1 n1 x1) (h2 : w.ownsRow b2 e2 s2 v2 n2 x2) (he : e1 ≠ e2) {g : Nat} (hg : v1.ownBlock = some g) : v2.ownBlock ≠ some g := fun e => by
  obtain ⟨c1, k1⟩ := own_type h1 hg
  obtain ⟨c2, k2⟩ := own_type h2 e
  rw [k1] at k2
  injection k2 with k2
  injection k2 with _ k3 _
  exact he k3

/-- A form, whose lists own their room, none shares it with another. -/
structure OF (B : Nat) (w : World) (f : Frm) (vC vR vH : Value) (sv : Nat → Value) : Prop where
  cells : w.ownsRow B 47 5 vC f.n (cells5 f.C f.n)
  rules : w.ownsRow B 51 2 vR f.k (rules2 f.R sv f.k)
  hol : w.ownsRow B 3 1 vH f.hol.length (ints f.hol)
  steps : ∀ i, i < f.k → w.ownsRow B 3 1 (sv i) (f.R i).steps.length (ints (f.R i).steps)
  apart : ∀ i, i < f.k → ∀ b, (sv i).ownBlock = some b → vH.ownBlock ≠ some b ∧ ∀ j, j < i → (sv j).ownBlock ≠ some b

theorem OF.keep {B : Nat} {w w' : World} {f : Frm} {vC vR vH : Value} {sv : Nat → Value} (h : OF B w f vC vR vH sv) (hb : ∀ g, B ≤ g → g < w.heap.size → w'.heap[g]? = w.heap[g]?) : OF B w' f vC vR vH sv :=
  ⟨own_of_block h.cells (fun g hg hl => hb g (own_base h.cells hg) hl), own_of_block h.rules (fun g hg hl => hb g (own_base h.rules hg) hl), own_of_block h.hol (fun g hg hl => hb g (own_base h.hol hg) hl),
   fun i hi => own_of_block (h.steps i hi) (fun g hg hl => hb g (own_base (h.steps i hi) hg) hl), h.apart⟩

theorem OF.below {B : Nat} {w w' : World} {f : Frm} {vC vR vH : Value} {sv : Nat → Value} (h : OF B w f vC vR vH sv) (hb : Below w.heap.size w w') : OF B w' f vC vR vH sv := h.keep (fun g _ hl => hb.block g hl)

theorem OF.chg {B br : Nat} {w w' : World} {f : Frm} {vC vR vH : Value} {sv : Nat → Value} (h : OF B w f vC vR vH sv) (hbr : br < B) (hc : Chg (· = br) w w') : OF B w' f vC vR vH sv := h.keep (fun g hB hl => hc.block g hl (by omega))

theorem OF.mono {B B' : Nat} {w : World} {f : Frm} {vC vR vH : Value} {sv : Nat → Value} (h : OF B w f vC vR vH sv) (hb : B' ≤ B) : OF B' w f vC vR vH sv :=
  ⟨own_mono h.cells hb, own_mono h.rules hb, own_mono h.hol hb, fun i hi => own_mono (h.steps i hi) hb, h.apart⟩

theorem OF.set {B : Nat} {w : World} {f : Frm} {vC vR vH : Value} {sv : Nat → Value} (h : OF B w f vC vR vH sv) (a : Addr) (ha : a.block < B) (u : Value) : OF B (w.setCell a u) f vC vR vH sv := h.keep (fun g hB hl => Below.heap_setCell _ _ _ _ (by omega))

theorem own_nil (w : World) (base : Nat) (t : TypeId) (s : Nat) : w.ownsRow base t s (.slice none 0 0) 0 [] := ⟨by simp, Or.inl ⟨rfl, rfl⟩⟩

theorem OF.start {B : Nat} {w : World} {week : Int} {hol : List Int} {vH : Value} (h : w.ownsRow B 3 1 vH hol.length (ints hol)) : OF B w (frm0 week hol) (.slice none 0 0) (.slice none 0 0) vH (fun _ => .slice none 0 0) :=
  ⟨own_nil _ _ _ _, own_nil _ _ _ _, h, fun i hi => by simp [frm0] at hi, fun i hi => by simp [frm0] at hi⟩

theorem OF.addC {B : Nat} {w w6 : World} {f : Frm} {vC vR vH v' : Value} {sv : Nat → Value} (h : OF B w f vC vR vH sv) (c : Cel) (hown : w6.ownsRow B 47 5 v' (f.n + 1) (cells5 f.C f.n ++ [.int .i64 c.kind, .int .i64 c.a, .int .i64 c.b, .int .i64 c.c, .int .i64 c.k]))
    (hb : ∀ g, g < w.heap.size → vC.ownBlock ≠ some g → w6.heap[g]? = w.heap[g]?) : OF B w6 (f.addC c) v' vR vH sv := by
  refine ⟨?_, own_of_block h.rules (fun g hg hl => hb g hl (own_apart h.rules h.cells (by decide) hg)), own_of_block h.hol (fun g hg hl => hb g hl (own_apart h.hol h.cells (by decide) hg)),
    fun i hi => own_of_block (h.steps i hi) (fun g hg hl => hb g hl (own_apart (h.steps i hi) h.cells (by decide) hg)), h.apart⟩
  show w6.ownsRow B 47 5 v' (f.n + 1) (cells5 (upd f.C f.n c) (f.n + 1))
  rw [cells5_more, upd_same]
  have e : cells5 (upd f.C f.n c) f.n = cells5 f.C f.n := by
    unfold cells5
    refine List.map_congr_left (fun j hj => ?_)
    have hj' : j < f.n * 5 := List.mem_range.1 hj
    unfold cellf
    rw [upd_other _ _ (by omega)]
  rw [e]
  exact hown

theorem OF.addR {B : Nat} {w w6 : World} {f : Frm} {vC vR vH v' u : Value} {sv : Nat → Value} (h : OF B w f vC vR vH sv) (r : Rul) (hu : w.ownsRow B 3 1 u r.steps.length (ints r.steps)) (hua : ∀ b, u.ownBlock = some b → vH.ownBlock ≠ some b ∧ ∀ j, j < f.k → (sv j).ownBlock ≠ some b)
    (hown : w6.ownsRow B 51 2 v' (f.k + 1) (rules2 f.R sv f.k ++ [.int .i64 r.guard, u]))
    (hb : ∀ g, g < w.heap.size → vR.ownBlock ≠ some g → w6.heap[g]? = w.heap[g]?) : OF B w6 (f.addR r) vC v' vH (upd sv f.k u) := by
  refine ⟨own_of_block h.cells (fun g hg hl => hb g hl (own_apart h.cells h.rules (by decide) hg)), ?_, own_of_block h.hol (fun g hg hl => hb g hl (own_apart h.hol h.rules (by decide) hg)), fun i hi => ?_, fun i hi b hbk => ?_⟩
  · show w6.ownsRow B 51 2 v' (f.k + 1) (rules2 (upd f.R f.k r) (upd sv f.k u) (f.k + 1))
    rw [rules2_more, upd_same]
    have e : rules2 (upd f.R f.k r) sv f.k = rules2 f.R sv f.k := by
      unfold rules2
      refine List.map_congr_left (fun j hj => ?_)
      have hj' : j < f.k * 2 := List.mem_range.1 hj
      unfold rulV
      rw [upd_other _ _ (by omega)]
    rw [e]
    exact hown
  · have hi' : i < f.k + 1 := hi
    show w6.ownsRow B 3 1 (upd sv f.k u i) (upd f.R f.k r i).steps.length (ints (upd f.R f.k r i).steps)
    by_cases e : i = f.k
    · subst e
      rw [upd_same, upd_same]
      exact own_of_block hu (fun g hg hl => hb g hl (own_apart hu h.rules (by decide) hg))
    · rw [upd_other _ _ e, upd_other _ _ e]
      have hi2 : i < f.k := by omega
      exact own_of_block (h.steps i hi2) (fun g hg hl => hb g hl (own_apart (h.steps i hi2) h.rules (by decide) hg))
  · have hi' : i < f.k + 1 := hi
    by_cases e : i = f.k
    · subst e
      rw [upd_same] at hbk
      refine ⟨(hua b hbk).1, fun j hj => ?_⟩
      rw [upd_other _ _ (by omega)]
      exact (hua b hbk).2 j hj
    · rw [upd_other _ _ e] at hbk
      obtain ⟨g1, g2⟩ := h.apart i (by omega) b hbk
      refine ⟨g1, fun j hj => ?_⟩
      rw [upd_other _ _ (by omega)]
      exact g2 j hj

/-- What it reads as. -/
theorem OF.at {B : Nat} {w : World} {f : Frm} {vC vR vH : Value} {sv : Nat → Value} (h : OF B w f vC vR vH sv) (hs : ∀ i, i < f.k → (f.R i).steps.length ≤ 1000000000) : ∃ aC cC aR cR aH cH, vC = .slice aC f.n cC ∧ vR = .slice aR f.k cR ∧ vH = .slice aH f.hol.length cH ∧ CAt w aC f.n f.C ∧ RAt w aR f.k f.R ∧ IntsAt w (.slice aH f.hol.length cH) f.hol := by
  obtain ⟨aC, cC, e1, h1⟩ := own_cells h.cells
  obtain ⟨aR, cR, e2, h2⟩ := own_rules h.rules h.steps hs
  obtain ⟨aH, cH, e3, h3⟩ := own_ints h.hol
  exact ⟨aC, cC, aR, cR, aH, cH, e1, e2, e3, h1, h2, h3⟩

end Go.Proofs.YtmofidaojmiepaaGreatDoor
