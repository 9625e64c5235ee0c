/-
  THE LAW: docketkeep: two forms that are the same.
-/
import Derived.Test.YtmofidaojmiepaaGreatDoorGH3
import Derived.Test.YtmofidaojmiepaaGreatDoorGY12
import Derived.Test.YtmofidaojmiepaaGreatDoorGE13
import Derived.Test.YtmofidaojmiepaaGreatDoorGZ1
set_option linter.unusedVariables false
set_option linter.unusedSimpArgs false
namespace Go.Proofs.YtmofidaojmiepaaGreatDoor

open Go.RowKit

attribute [local go_sem ↓] Go.wp_at_zero Go.wp_at_succ

attribute [local go_sem] eq76

def Drew (w w' : World) : Prop := ∃ m, w' = w.drewN m

theorem Drew.more {w w' : World} (h : Drew w w') (n : Nat) : Drew w (w'.drewN n) := by
  obtain ⟨m, rfl⟩ := h
  exact ⟨m + n, by rw [World.drewN_drewN]⟩

theorem Drew.below {w w' : World} (h : Drew w w') : Below w.heap.size w w' := by
  obtain ⟨m, rfl⟩ := h
  exact below_drewN (Below.refl _ _) m

set_option maxHeartbeats 1000000 in
theorem sameInts_any (l : List Int) (a a' : Option Addr) (c c' : Nat) (w : World) (hl : l.length ≤ 1000000000) (h : IntsAt w (.slice a l.length c) l) (h' : IntsAt w (.slice a' l.length c') l) :
    Calls Tryz.prog 23 #[.slice a l.length c, .slice a' l.length c'] w fun e w' => e = .returned (.bool true) ∧ ∃ m, w' = w.drewN m := by
  have HA := hid h
  have HB := hid h'
  have D0 : Hid (Drew w w) := ⟨0, rfl⟩
  have t0 : ((l.length : Int) != (l.length : Int)) = false := by simp
  clear h h'
  go_enter Tryz.func23, Tryz.ntmps23
  go_wp2
  go_loopw [5] (fun t wr => ∃ i : Nat, i ≤ l.length ∧ t = .int .i64 i ∧ Hid (Drew w wr)) (fun t _ => l.length - (intOf t).toNat)
  case atStart => exact ⟨0, by omega, rfl, D0⟩
  case round =>
    obtain ⟨i, i1, rfl, hd⟩ := hrel
    by_cases hit : i < l.length
    · rcases IntsAt.cases (SlAt.below HA.out hd.out.below (Nat.le_refl _)) with h0 | ⟨b, o, ea, hb, hc⟩
      · omega
      rcases IntsAt.cases (SlAt.below HB.out hd.out.below (Nat.le_refl _)) with h0 | ⟨b', o', ea', hb', hc'⟩
      · omega
      subst ea ea'
      have x0 := hc i hit
      have y0 := hc' i hit
      generalize l.getD i 0 = x at *
      have t1 : (x != x) = false := by simp
      clear hc hc'
      go_wp2
      go_quiet (fail)
      go_wp2
      go_roundw
      case rel => exact ⟨i + 1, by omega, by go_num, hd.out.more _⟩
      case measure => simp [intOf]; omega
    · go_wp2
      go_ret
      exact ⟨rfl, hd.out⟩

set_option maxRecDepth 100000 in
set_option maxHeartbeats 2000000 in
theorem sameForm_any (f : Frm) (aC aR aH aC' aR' aH' : Option Addr) (cC cR cH cC' cR' cH' : Nat) (w : World) (hn : f.n ≤ 1000000000) (hk : f.k ≤ 1000000000) (hh : f.hol.length ≤ 1000000000)
    (h1 : CAt w aC f.n f.C) (h2 : RAt w aR f.k f.R) (h3 : IntsAt w (.slice aH f.hol.length cH) f.hol) (h1' : CAt w aC' f.n f.C) (h2' : RAt w aR' f.k f.R) (h3' : IntsAt w (.slice aH' f.hol.length cH') f.hol) :
    Calls Tryz.prog 9 #[.agg #[.slice aC f.n cC, .slice aR f.k cR, .int .i64 f.week, .slice aH f.hol.length cH], .agg #[.slice aC' f.n cC', .slice aR' f.k cR', .int .i64 f.week, .slice aH' f.hol.length cH']] w fun e w' => e = .returned (.bool true) ∧ Below w.heap.size w w' := by
  have H1 := hid h1
  have H2 := hid h2
  have H3 := hid h3
  have K1 := hid h1'
  have K2 := hid h2'
  have K3 := hid h3'
  clear h1 h2 h3 h1' h2' h3'
  have t0 : (f.week != f.week) = false := by simp
  have t1 : ((f.n : Int) != (f.n : Int)) = false := by simp
  have t2 : ((f.k : Int) != (f.k : Int)) = false := by simp
  have hm := m76
  go_enter Tryz.func9, Tryz.ntmps9
  go_wp2
  go_loopw [5] (fun t wr => ∃ i : Nat, i ≤ f.n ∧ t = .int .i64 i ∧ Hid (Below (w.heap.size + 1 + 1) ((w.alloc (.cells #[.slice aC f.n cC, .slice aR f.k cR, .int .i64 f.week, .slice aH f.hol.length cH] 26)).alloc (.cells #[.slice aC' f.n cC', .slice aR' f.k cR', .int .i64 f.week, .slice aH' f.hol.length cH'] 26)) wr)) (fun t _ => f.n - (intOf t).toNat)
  case atStart => exact ⟨0, by omega, rfl, Below.refl _ _⟩
  case round =>
    obtain ⟨i, i1, rfl, hb⟩ := hrel
    have hbw := hid (two_boxes_below hb.out)
    have f0 := two_boxes hb.out 0
    simp at f0
    obtain ⟨f0, g0⟩ := f0
    by_cases hit : i < f.n
    · rcases H1.out with h0 | ⟨bC, oC, ea, hbC, hcc⟩
      · omega
      rcases K1.out with h0 | ⟨bC', oC', ea', hbC', hcc'⟩
      · omega
      subst ea ea'
      obtain ⟨u0, u1, u2, u3, u4⟩ := (hcc i hit).below hbw.out hbC
      obtain ⟨v0, v1, v2, v3, v4⟩ := (hcc' i hit).below hbw.out hbC'
      clear hcc hcc'
      rcases hC : f.C i with ⟨kd, ca, cb, cc, ck⟩
      rw [hC] at u0 u1 u2 u3 u4 v0 v1 v2 v3 v4
      simp only at u0 u1 u2 u3 u4 v0 v1 v2 v3 v4
      clear hC
      have lt2 : (i : Int) < (f.n : Int) := by omega
      have lt3 : (0 : Int) ≤ (i : Int) := by omega
      go_wp2
      go_quiet (fail)
      go_wp2
      go_roundw
      case rel => exact ⟨i + 1, by omega, by go_num, below_drewN hb.out _⟩
      case measure => simp [intOf]; omega
    · obtain rfl : i = f.n := by omega
      generalize wr = wo at *
      go_wp2
      go_loopw [6] (fun t wr => ∃ y : Nat, y ≤ f.k ∧ t = .int .i64 y ∧ Hid (Below (w.heap.size + 1 + 1) ((w.alloc (.cells #[.slice aC f.n cC, .slice aR f.k cR, .int .i64 f.week, .slice aH f.hol.length cH] 26)).alloc (.cells #[.slice aC' f.n cC', .slice aR' f.k cR', .int .i64 f.week, .slice aH' f.hol.length cH'] 26)) wr)) (fun t _ => f.k - (intOf t).toNat)
      case atStart => exact ⟨0, by omega, rfl, hb⟩
      case round =>
        clear hb hbw f0 g0 i1 hit
        obtain ⟨y, y1, rfl, hb⟩ := hrel
        have hbw := hid (two_boxes_below hb.out)
        have f1 := two_boxes hb.out 1
        simp at f1
        obtain ⟨f1, g1⟩ := f1
        by_cases hyt : y < f.k
        · rcases H2.out with h0 | ⟨bR, oR, ea, hbR, hrr⟩
          · omega
          rcases K2.out with h0 | ⟨bR', oR', ea', hbR', hrr'⟩
          · omega
          subst ea ea'
          obtain ⟨u0, ast, caps, u1, u2, u3⟩ := (hrr y hyt).below hbw.out hbR (Nat.le_refl _)
          obtain ⟨v0, ast', caps', v1, v2, v3⟩ := (hrr' y hyt).below hbw.out hbR' (Nat.le_refl _)
          have HU2 := hid u2
          have HV2 := hid v2
          clear u2 v2 hrr hrr'
          have lt2 : (y : Int) < (f.k : Int) := by omega
          have lt3 : (0 : Int) ≤ (y : Int) := by omega
          have t3 : ((f.R y).guard != (f.R y).guard) = false := by simp
          have QC : Hid (∀ q, Calls Tryz.prog 23 #[.slice ast (f.R y).steps.length caps, .slice ast' (f.R y).steps.length caps'] (wr.drewN q) fun e w' => e = .returned (.bool true) ∧ ∃ m, w' = (wr.drewN q).drewN m) := fun q => sameInts_any (f.R y).steps ast ast' caps caps' (wr.drewN q) u3 (SlAt.below HU2.out (below_drewN (Below.refl _ _) q) (Nat.le_refl _)) (SlAt.below HV2.out (below_drewN (Below.refl _ _) q) (Nat.le_refl _))
          go_wp2
          go_quiet ((go_at_call 23; exact Calls.quiet_of (QC.out _)))
          go_wp2
          go_quiet (fail)
          go_wp2
          go_roundw
          case rel => exact ⟨y + 1, by omega, by go_num, below_drewN hb.out _⟩
          case measure => simp [intOf]; omega
        · have e3 := two_boxes hb.out 3
          simp at e3
          obtain ⟨e3, f3⟩ := e3
          go_wp2_with fail
          refine (sameInts_any f.hol aH aH' cH cH' _ hh (SlAt.below H3.out hbw.out (Nat.le_refl _)) (SlAt.below K3.out hbw.out (Nat.le_refl _))).mono ?_
          rintro e w1 ⟨rfl, m, rfl⟩
          go_wp2
          go_ret
          exact ⟨rfl, below_drewN hbw.out _⟩

end Go.Proofs.YtmofidaojmiepaaGreatDoor

/-
  PLAIN MATHEMATICS: two forms that say the same, whatever stands where a cell's row names nothing.
-/
set_option linter.unusedVariables false
set_option linter.unusedSimpArgs false
namespace Go.Proofs.YtmofidaojmiepaaGreatDoor

open Go.RowKit

/-- Two forms that say the same. -/
structure Tw (f g : Frm) : Prop where
  n : g.n = f.n
  k : g.k = f.k
  week : g.week = f.week
  hol : g.hol = f.hol
  R : ∀ i, i < f.k → g.R i = f.R i
  kind : ∀ i, i < f.n → (g.C i).kind = (f.C i).kind
  K : ∀ i, i < f.n → hasKB (f.C i).kind = true → (g.C i).k = (f.C i).k
  a : ∀ i, i < f.n → 0 < M.needs (f.C i).kind → (g.C i).a = (f.C i).a
  b : ∀ i, i < f.n → 1 < M.needs (f.C i).kind → (g.C i).b = (f.C i).b
  c : ∀ i, i < f.n → 2 < M.needs (f.C i).kind → (g.C i).c = (f.C i).c

theorem Tw.symm {f g : Frm} (h : Tw f g) : Tw g f := by
  have hn := h.n
  have hk := h.k
  refine ⟨h.n.symm, h.k.symm, h.week.symm, h.hol.symm, fun i hi => (h.R i (by omega)).symm, fun i hi => (h.kind i (by omega)).symm, fun i hi p => (h.K i (by omega) ?_).symm, fun i hi p => (h.a i (by omega) ?_).symm, fun i hi p => (h.b i (by omega) ?_).symm, fun i hi p => (h.c i (by omega) ?_).symm⟩
  all_goals (rw [← h.kind i (by omega)]; exact p)

theorem Tw.trans {f g l : Frm} (h : Tw f g) (q : Tw g l) : Tw f l := by
  have hn := h.n
  have hk := h.k
  refine ⟨q.n.trans h.n, q.k.trans h.k, q.week.trans h.week, q.hol.trans h.hol, fun i hi => (q.R i (by omega)).trans (h.R i hi), fun i hi => (q.kind i (by omega)).trans (h.kind i hi), fun i hi p => (q.K i (by omega) ?_).trans (h.K i hi p), fun i hi p => (q.a i (by omega) ?_).trans (h.a i hi p), fun i hi p => (q.b i (by omega) ?_).trans (h.b i hi p), fun i hi p => (q.c i (by omega) ?_).trans (h.c i hi p)⟩
  all_goals (rw [h.kind i hi]; exact p)

theorem wayT {E E' : Nat → Nat → Prop} (h : ∀ i j, E i j → E' i j) {i : Nat} : ∀ {s j : Nat}, M.Way E s i j → M.Way E' s i j
  | 0, j, e => e
  | s + 1, j, e => by
    obtain ⟨k, h1, h2⟩ := e
    exact ⟨k, wayT h h1, h _ _ h2⟩

theorem Tw.ok {f g : Frm} (h : Tw f g) (hf : f.Ok) : g.Ok := by
  have hf' : FormOk f.C f.n f.R f.k f.week f.hol := hf
  show FormOk g.C g.n g.R g.k g.week g.hol
  rw [h.n, h.k, h.week, h.hol]
  refine ⟨hf'.sizes, hf'.hol, fun i hi => ?_, fun i hi => ?_, fun i hi => ?_⟩
  · obtain ⟨k0, k1, hK, ha, hb, hc⟩ := hf'.cells i hi
    have ek := h.kind i hi
    refine ⟨by rw [ek]; exact k0, by rw [ek]; exact k1, ?_, fun p => ?_, fun p => ?_, fun p => ?_⟩
    · unfold KOk at hK ⊢
      rw [ek]
      refine ⟨fun p => ?_, fun p => ?_, fun p => ?_⟩
      · rw [h.K i hi (by unfold hasKB; exact decide_eq_true (by omega))]; exact hK.1 p
      · rw [h.K i hi (by unfold hasKB; exact decide_eq_true (by omega))]; exact hK.2.1 p
      · rw [h.K i hi (by unfold hasKB; exact decide_eq_true (by omega))]; exact hK.2.2 p
    · rw [ek] at p; rw [h.a i hi p]; exact ha p
    · rw [ek] at p; rw [h.b i hi p]; exact hb p
    · rw [ek] at p; rw [h.c i hi p]; exact hc p
  · rintro ⟨s, s1, hw⟩
    refine hf'.ring i hi ⟨s, s1, wayT (fun x y e => ?_) hw⟩
    obtain ⟨hx, e⟩ := e
    refine ⟨hx, ?_⟩
    rw [h.kind x hx] at e
    rcases e with ⟨p, e⟩ | ⟨p, e⟩ | ⟨p, e⟩
    · exact Or.inl ⟨p, by rw [← h.a x hx p]; exact e⟩
    · exact Or.inr (Or.inl ⟨p, by rw [← h.b x hx p]; exact e⟩)
    · exact Or.inr (Or.inr ⟨p, by rw [← h.c x hx p]; exact e⟩)
  · rw [h.R i hi]; exact hf'.rules i hi

theorem Tw.named {f g : Frm} (h : Tw f g) {i : Nat} (hi : i < f.n) (k0 : 0 ≤ (f.C i).kind) (k1 : (f.C i).kind ≤ 12) : celL (g.C i) = celL (f.C i) := by
  unfold celL nmL
  rw [h.kind i hi]
  congr 1
  congr 1
  · unfold ndL
    refine List.map_congr_left (fun j hj => ?_)
    have hj := List.mem_range.1 hj
    have e0 : need0 (f.C i).kind = M.needs (f.C i).kind := by unfold need0; rw [if_pos (by omega)]
    have b3 := (need0_bd (f.C i).kind).2
    unfold needp
    by_cases j0 : j = 0
    · rw [if_pos j0, if_pos j0, h.a i hi (by omega)]
    · rw [if_neg j0, if_neg j0]
      by_cases j1 : j = 1
      · rw [if_pos j1, if_pos j1, h.b i hi (by omega)]
      · rw [if_neg j1, if_neg j1, h.c i hi (by omega)]
  · by_cases hk : hasKB (f.C i).kind = true
    · rw [if_pos hk, if_pos hk, h.K i hi hk]
    · rw [if_neg hk, if_neg hk]

theorem Tw.doc {f g : Frm} (h : Tw f g) (hf : f.Ok) : g.doc = f.doc := by
  have hf' : FormOk f.C f.n f.R f.k f.week f.hol := hf
  unfold Frm.doc
  rw [h.n, h.k, h.week, h.hol]
  congr 1
  · refine List.map_congr_left (fun i hi => ?_)
    have hi := List.mem_range.1 hi
    exact h.named hi (hf'.cells i hi).1 (hf'.cells i hi).2.1
  · refine List.map_congr_left (fun i hi => ?_)
    rw [h.R i (List.mem_range.1 hi)]

/-! ### Cases -/

def TwF (f : Frm) (F F' : Nat → Int) : Prop := ∀ i, i < f.n → (f.C i).kind = 0 → F' i = F i

theorem Tw.fv {f g : Frm} (h : Tw f g) {F F' : Nat → Int} (hF : FV f F) (hh : TwF f F F') : FV g F' := fun i hi hk => by
  have hi' : i < f.n := by rw [← h.n]; exact hi
  rw [h.kind i hi'] at hk
  rw [hh i hi' hk]
  exact hF i hi' hk

theorem Tw.vals {f g : Frm} (h : Tw f g) (hf : f.Ok) {F F' : Nat → Int} (hF : FV f F) (hh : TwF f F F') {T : Int} (t0 : 0 ≤ T) (t1 : T ≤ 1000000000) : ∀ i, i < f.n → g.vals F' T i = f.vals F T i := by
  intro i hi
  have hl := (vals_local hf hF t0 t1).1
  symm
  refine vals_eq (h.ok hf) (h.fv hF hh) (V := f.vals F T) (fun i hi => ?_) i (by rw [h.n]; exact hi)
  have hi' : i < f.n := by rw [← h.n]; exact hi
  have q := hl i hi'
  have ek := h.kind i hi'
  have e0 : (effC g.C F' i).kind = (effC f.C F i).kind := ek
  unfold LocalAt at q ⊢
  rw [h.week, h.hol, h.n]
  have eK : hasKB (f.C i).kind = true → (effC g.C F' i).k = (effC f.C F i).k := fun p => by
    show (if (g.C i).kind = 0 then F' i else (g.C i).k) = (if (f.C i).kind = 0 then F i else (f.C i).k)
    rw [ek]
    by_cases hz : (f.C i).kind = 0
    · rw [if_pos hz, if_pos hz, hh i hi' hz]
    · rw [if_neg hz, if_neg hz, h.K i hi' p]
  have ea : 0 < M.needs (f.C i).kind → (effC g.C F' i).a = (effC f.C F i).a := h.a i hi'
  have eb : 1 < M.needs (f.C i).kind → (effC g.C F' i).b = (effC f.C F i).b := h.b i hi'
  have ec : 2 < M.needs (f.C i).kind → (effC g.C F' i).c = (effC f.C F i).c := h.c i hi'
  have kf : (effC f.C F i).kind = (f.C i).kind := rfl
  obtain ⟨q1, q2, q3, q4, q5, q6⟩ := q
  rw [kf] at q1 q2 q3 q4 q5 q6
  refine ⟨fun p => ?_, fun p => ?_, fun p => ?_, fun p => ?_, fun p => ?_, fun p => ?_⟩
  all_goals (rw [e0, kf] at p)
  · rw [eK (by unfold hasKB; exact decide_eq_true (by omega))]; exact q1 p
  · have nd : M.needs (f.C i).kind = 2 := by unfold M.needs; rw [if_neg (by omega), if_neg (by omega), if_neg (by omega), if_pos p]
    rw [e0, kf, ea (by omega), eb (by omega)]; exact q2 p
  · have nd : M.needs (f.C i).kind = 3 := by rw [p]; rfl
    rw [ea (by omega), eb (by omega), ec (by omega)]; exact q3 p
  · have nd : M.needs (f.C i).kind = 1 := by rw [p]; rfl
    rw [ea (by omega)]; exact q4 p
  · have nd : M.needs (f.C i).kind = 1 := by rw [p]; rfl
    rw [ea (by omega), eK (by unfold hasKB; exact decide_eq_true (by omega))]; exact q5 p
  · have nd : M.needs (f.C i).kind = 1 := by rw [p]; rfl
    rw [ea (by omega), eK (by unfold hasKB; exact decide_eq_true (by omega))]; exact q6 p

/-- Two cases that show the same. -/
structure TwM (f : Frm) (m m' : Cs) : Prop where
  F : TwF f m.F m'.F
  T : m'.T = m.T
  op : m'.op = m.op
  S : m'.S = m.S
  E : m'.E = m.E

theorem flatT {α β : Type} {g h : α → List β} : ∀ {l : List α}, (∀ x, x ∈ l → g x = h x) → l.flatMap g = l.flatMap h
  | [], _ => rfl
  | x :: l, e => by
    rw [List.flatMap_cons, List.flatMap_cons, e x (by simp), flatT (fun y hy => e y (by simp [hy]))]

theorem Tw.settle {f g : Frm} (h : Tw f g) (hf : f.Ok) {m m' : Cs} (hF : FV f m.F) (t0 : 0 ≤ m.T) (t1 : m.T ≤ 1000000000) (hm : TwM f m m') : TwM f (m.settle f) (m'.settle g) := by
  have hf' : FormOk f.C f.n f.R f.k f.week f.hol := hf
  have hv := h.vals hf hF hm.F t0 t1
  have hg : ∀ i, i < f.k → grd g.R (g.vals m'.F m.T) i = grd f.R (f.vals m.F m.T) i := fun i hi => by
    obtain ⟨g0, g1, _⟩ := hf'.rules i hi
    show g.vals m'.F m.T (g.R i).guard.toNat = f.vals m.F m.T (f.R i).guard.toNat
    rw [h.R i hi, hv _ (by omega)]
  unfold Cs.settle
  by_cases ho : m.op = true
  · rw [if_pos ho, if_pos (by rw [hm.op]; exact ho)]
    refine ⟨hm.F, hm.T, hm.op, ?_, ?_⟩
    · show setS g (g.vals m'.F m'.T) m'.T m'.S = setS f (f.vals m.F m.T) m.T m.S
      rw [hm.T, hm.S]
      funext i
      unfold setS
      rw [h.k]
      by_cases hi : i < f.k
      · rw [if_pos hi, if_pos hi, hg i hi, h.R i hi]
      · rw [if_neg hi, if_neg hi]
    · show m'.E ++ setE g (g.vals m'.F m'.T) m'.T m'.S = m.E ++ setE f (f.vals m.F m.T) m.T m.S
      rw [hm.T, hm.S, hm.E]
      congr 1
      unfold setE
      rw [h.k]
      refine flatT ?_
      intro i hi
      rw [hg i (List.mem_range.1 hi), h.R i (List.mem_range.1 hi)]
  · rw [if_neg ho, if_neg (by rw [hm.op]; exact ho)]
    exact hm

theorem Tw.go {f g : Frm} (h : Tw f g) (hf : f.Ok) {m m' : Cs} (hm : m.Ok f) (hh : TwM f m m') : ∀ j : Nat, m.T + j ≤ 1000000000 → TwM f (m.go f j) (m'.go g j) := by
  intro j
  induction j with
  | zero => exact fun _ => hh
  | succ j ih =>
    intro hj
    have i := ih (by omega)
    have t0 := hm.t0
    show TwM f (Cs.settle f ((m.go f j).at (m.T + (j + 1 : Nat)))) (Cs.settle g ((m'.go g j).at (m'.T + (j + 1 : Nat))))
    rw [hh.T]
    exact h.settle hf (by show FV f (m.go f j).F; rw [go_F]; exact hm.fv) (by show 0 ≤ m.T + _; omega) hj ⟨i.F, rfl, i.op, i.S, i.E⟩

theorem Tw.adv {f g : Frm} (h : Tw f g) (hf : f.Ok) {m m' : Cs} (hm : m.Ok f) (hh : TwM f m m') (to : Int) : TwM f (advM f m to) (advM g m' to) := by
  unfold advM
  rw [hh.T]
  split
  · exact hh
  · exact h.go hf hm hh _ (by omega)

theorem Tw.begin {f g : Frm} (h : Tw f g) (hf : f.Ok) : TwM f (beginM f) (beginM g) := by
  unfold beginM
  exact h.settle hf (begin_fv hf) (Int.le_refl _) (by show (0 : Int) ≤ _; omega) ⟨fun i hi hk => h.K i hi (by unfold hasKB; exact decide_eq_true (Or.inl hk)), rfl, rfl, rfl, rfl⟩

/-! ### Noughts, or anything, where a cell's row names nothing -/

def bareC (c : Cel) : Cel := ⟨c.kind, if 0 < M.needs c.kind then c.a else 0, if 1 < M.needs c.kind then c.b else 0, if 2 < M.needs c.kind then c.c else 0, if hasKB c.kind = true then c.k else 0⟩

def Frm.bare (f : Frm) : Frm := { f with C := fun i => bareC (f.C i) }

theorem bare_tw (f : Frm) : Tw f f.bare := by
  refine ⟨rfl, rfl, rfl, rfl, fun i hi => rfl, fun i hi => rfl, fun i hi p => ?_, fun i hi p => ?_, fun i hi p => ?_, fun i hi p => ?_⟩
  · show (if hasKB (f.C i).kind = true then _ else _) = _; rw [if_pos p]
  · show (if 0 < M.needs (f.C i).kind then _ else _) = _; rw [if_pos p]
  · show (if 1 < M.needs (f.C i).kind then _ else _) = _; rw [if_pos p]
  · show (if 2 < M.needs (f.C i).kind then _ else _) = _; rw [if_pos p]

theorem bareC_bare {c : Cel} (k0 : 0 ≤ c.kind) (k1 : c.kind ≤ 12) : Bare (bareC c) := by
  obtain ⟨kd, hkd⟩ := Int.eq_ofNat_of_zero_le k0
  have h12 : kd ≤ 12 := by omega
  have en : needsN (kd : Int) = M.needs c.kind := by rw [hkd]; rfl
  have nb := need0_bd (kd : Int)
  rw [need_want h12] at nb
  obtain ⟨q, hq⟩ := Int.eq_ofNat_of_zero_le nb.1
  refine ⟨kd, [(bareC c).a, (bareC c).b, (bareC c).c].take q, (bareC c).k, ?_, h12, ?_, fun p => ?_⟩
  · have : q = 0 ∨ q = 1 ∨ q = 2 ∨ q = 3 := by omega
    unfold bareC
    rw [← en, hq, hkd]
    rcases this with rfl | rfl | rfl | rfl <;> simp
  · simp
    omega
  · show (if hasKB c.kind = true then c.k else 0) = 0
    rw [hkd, p]
    rfl

theorem Frm.Ok.txt {f : Frm} (h : f.Ok) (hd : f.doc.Ok) : f.bare.Txt := by
  have h' : FormOk f.C f.n f.R f.k f.week f.hol := h
  refine ⟨?_, fun i hi => bareC_bare (h'.cells i hi).1 (h'.cells i hi).2.1⟩
  rw [(bare_tw f).doc h]
  exact hd

end Go.Proofs.YtmofidaojmiepaaGreatDoor

/-
  PLAIN MATHEMATICS: a form with numbers where a cell's row names nothing.
-/
set_option linter.unusedVariables false
set_option linter.unusedSimpArgs false
namespace Go.Proofs.YtmofidaojmiepaaGreatDoor

open Go.RowKit

def noiseC (n n1 n2 : Int) (c : Cel) : Cel := ⟨c.kind, if M.needs c.kind < 1 then n else c.a, if M.needs c.kind < 2 then n1 else c.b, if M.needs c.kind < 3 then n2 else c.c, if 0 < M.needs c.kind ∧ c.kind ≠ 11 ∧ c.kind ≠ 12 then n else c.k⟩

def Frm.noise (f : Frm) (n n1 n2 : Int) : Frm := { f with C := fun i => noiseC n n1 n2 (f.C i) }

theorem hasK_needs {kd : Int} (h0 : 0 ≤ kd) (h1 : kd ≤ 12) : hasKB kd = true ↔ ¬ (0 < M.needs kd ∧ kd ≠ 11 ∧ kd ≠ 12) := by
  have : kd = 0 ∨ kd = 1 ∨ kd = 2 ∨ kd = 3 ∨ kd = 4 ∨ kd = 5 ∨ kd = 6 ∨ kd = 7 ∨ kd = 8 ∨ kd = 9 ∨ kd = 10 ∨ kd = 11 ∨ kd = 12 := by omega
  rcases this with rfl | rfl | rfl | rfl | rfl | rfl | rfl | rfl | rfl | rfl | rfl | rfl | rfl <;> decide

theorem noise_tw {f : Frm} (hf : f.Ok) (n n1 n2 : Int) : Tw f (f.noise n n1 n2) := by
  have hf' : FormOk f.C f.n f.R f.k f.week f.hol := hf
  refine ⟨rfl, rfl, rfl, rfl, fun i hi => rfl, fun i hi => rfl, fun i hi p => ?_, fun i hi p => ?_, fun i hi p => ?_, fun i hi p => ?_⟩
  · show (if 0 < M.needs (f.C i).kind ∧ (f.C i).kind ≠ 11 ∧ (f.C i).kind ≠ 12 then _ else _) = _
    rw [if_neg ((hasK_needs (hf'.cells i hi).1 (hf'.cells i hi).2.1).1 p)]
  · show (if M.needs (f.C i).kind < 1 then _ else _) = _; rw [if_neg (by omega)]
  · show (if M.needs (f.C i).kind < 2 then _ else _) = _; rw [if_neg (by omega)]
  · show (if M.needs (f.C i).kind < 3 then _ else _) = _; rw [if_neg (by omega)]

/-- The number of an error of a form that a text holds. -/
theorem rel_bd {f : Frm} {a n : Int} (h : f.Rel a n) : 0 ≤ n ∧ n ≤ f.doc.text.length := by
  obtain ⟨q1, q2, q3, q4⟩ := f.few
  have h' : ChkRel f.C f.n f.R f.k f.week f.hol a n := h
  rcases h' with ⟨_, _, rfl⟩ | ⟨_, hl, _, rfl⟩ | ⟨_, _, r, _, ⟨h1, _, rfl⟩ | ⟨_, r2, _, ⟨h1, _, rfl⟩ | ⟨_, r3, _, ⟨h1, _, rfl⟩ | ⟨_, r4, _, ⟨h1, _, rfl⟩ | ⟨_, _, rfl⟩⟩⟩⟩⟩
  · omega
  · omega
  · omega
  · omega
  · omega
  · omega
  · omega

end Go.Proofs.YtmofidaojmiepaaGreatDoor
