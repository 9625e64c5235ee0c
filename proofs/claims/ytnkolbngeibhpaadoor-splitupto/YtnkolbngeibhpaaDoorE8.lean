/-
  THE WALKS: docketkeep's inputs, sets.
-/
import Derived.Test.YtnkolbngeibhpaaDoorE6
import Derived.Deep.RegionHeld3
import Derived.Test.YtnkolbngeibhpaaDoorE3
set_option linter.unusedVariables false
set_option linter.unusedSimpArgs false
namespace Go.Proofs.YtnkolbngeibhpaaDoor
open Go.RowKit
attribute [local go_sem ↓] Go.wp_at_zero Go.wp_at_succ

/-- The numbers of the first i cells that are filled in. -/
def inpL (f : Frm) (i : Nat) : List Int := ((List.range i).filter (fun j => decide ((f.C j).kind = 0))).map (fun (j : Nat) => (j : Int))
theorem inpL_more (f : Frm) (i : Nat) : inpL f (i + 1) = inpL f i ++ (if (f.C i).kind = 0 then [(i : Int)] else []) := by
  unfold inpL
  rw [List.range_succ, List.filter_append, List.map_append]
  congr 1
  by_cases h : (f.C i).kind = 0
  · simp [h]
  · simp [h]
theorem inpL_len (f : Frm) (i : Nat) : (inpL f i).length ≤ i := by
  unfold inpL
  rw [List.length_map]
  have := List.length_filter_le (fun j => decide ((f.C j).kind = 0)) (List.range i)
  simpa using this
theorem inpL_mem {f : Frm} {i : Nat} {x : Int} (h : x ∈ inpL f i) : ∃ j : Nat, x = j ∧ j < i ∧ (f.C j).kind = 0 := by
  unfold inpL at h
  simp only [List.mem_map, List.mem_filter, List.mem_range, decide_eq_true_eq] at h
  obtain ⟨j, ⟨h1, h2⟩, h3⟩ := h
  exact ⟨j, h3.symm, h1, h2⟩

set_option maxRecDepth 100000 in
set_option maxHeartbeats 2000000 in
theorem kinputs_any {f : Frm} {fv : Value} {w : World} (hn : f.n ≤ 20) (h : FAt w f fv) : Calls Tryd.prog 51 #[fv] w fun e w' => LsP (inpL f f.n) w e w' := by
  obtain ⟨aC, cC, aR, cR, aH, cH, rfl, h1, _, _⟩ := h
  obtain ⟨i3, y3, y4⟩ := Option.map_eq_some_iff.1 info3
  simp only [Prod.mk.injEq] at y4
  have I3 := hid y3
  have Z3 := hid y4
  clear y3 y4
  have HC := hid h1
  clear h1
  have B0 := hid (Below.refl (w.heap.size + 1) (w.alloc (.cells #[.slice aC f.n cC, .slice aR f.k cR, .int .i64 f.week, .slice aH f.hol.length cH] 26)))
  go_enter Tryd.func51, Tryd.ntmps51
  go_wp2
  go_loopw [3, 4] (fun to ti wr => ∃ (i : Nat) (v : Value), i ≤ f.n ∧ ti = .int .i64 i ∧ v = to ∧ Hid (wr.ownsRow (w.heap.size + 1) 3 1 v (inpL f i).length ((inpL f i).map (fun x => Value.int .i64 x))) ∧ Hid (Below (w.heap.size + 1) (w.alloc (.cells #[.slice aC f.n cC, .slice aR f.k cR, .int .i64 f.week, .slice aH f.hol.length cH] 26)) wr)) (fun _ ti _ => f.n - (intOf ti).toNat)
  case atStart => exact ⟨0, .slice none 0 0, by omega, rfl, rfl, ⟨rfl, Or.inl ⟨rfl, rfl⟩⟩, B0⟩
  case round =>
    clear B0
    obtain ⟨i, v, i1, rfl, rfl, hown, hb⟩ := hrel
    have hbw := hid (boxed_below hb.out)
    have f0 := boxed hb.out 0
    simp at f0
    have zw := hb.out.size
    simp at zw
    by_cases hit : i < f.n
    · have lt' : (i : Int) < (f.n : Int) := by omega
      obtain ⟨bC, oC, hac, zC, hC⟩ : ∃ b off, aC = some ⟨b, off, none⟩ ∧ b < wr.heap.size ∧ ∀ m, m < f.n → CelIs wr b (off + m * 5) (f.C m) := by
        rcases HC.out.below hbw.out with h | h
        · omega
        · exact h
      have g0 := (hC i hit).1
      have MR := hid (inpL_more f i)
      have LN := inpL_len f i
      subst hac
      clear hC
      generalize (f.C i).kind = kd at *
      by_cases c0 : kd = 0
      · have N0 : Hid (inpL f (i + 1) = inpL f i ++ [(i : Int)]) := by have := MR.out; rw [if_pos c0] at this; exact this
        subst c0
        go_wp2_with (at_builtin; refine wpList_append_lies _ rfl (.tmp 19) (.tmp 21) 24 rfl (w.heap.size + 1) 3 i3 _ 1 8 Tryd.underlying24 I3.out Z3.out.1 Z3.out.2.1 Z3.out.2.2 rfl (by omega) v (inpL f i).length ((inpL f i).map (fun x => Value.int .i64 x)) (by rfl) (own_alloc0 hown.out _) ⟨wr.heap.size, 0, none⟩ 1 1 [.int .i64 i] (by rfl) (by rfl) (news1k _ _ _) (by simp [Value.oneCell']) (by omega) (by unfold maxLen; omega) (by omega) (by simp; omega) (wr.heap.size + 1) (by simp) ?_; intro g cap w6 hown2 hgrow hat hlt; refine stopH ?_)
        have N1 : Hid (w6.ownsRow (w.heap.size + 1) 3 1 (.slice (some ⟨g, 0, none⟩) ((inpL f i).length + 1) cap) (inpL f (i + 1)).length ((inpL f (i + 1)).map (fun x => Value.int .i64 x))) := by
          rw [N0.out, List.length_append, List.map_append]
          exact hown2
        have N2 := hid (hb.out.trans (grow_below0 hgrow (by omega) (fun g hg' => own_base hown.out hg')))
        clear hown2 hgrow hat hlt hown hb hbw N0 MR
        refine hid ?_
        go_wp2
        go_roundw
        case rel => exact ⟨i + 1, _, by omega, by go_num, rfl, N1, N2⟩
        case measure => simp [intOf]; omega
      · have N0 : Hid (inpL f (i + 1) = inpL f i) := by have := MR.out; rw [if_neg c0, List.append_nil] at this; exact this
        have d : (kd == 0) = false := beq_eq_false_iff_ne.2 c0
        have N1 : Hid (wr.ownsRow (w.heap.size + 1) 3 1 v (inpL f (i + 1)).length ((inpL f (i + 1)).map (fun x => Value.int .i64 x))) := by
          rw [N0.out]
          exact hown.out
        clear hown hbw N0 MR c0
        go_wp2
        go_roundw
        case rel => exact ⟨i + 1, v, by omega, by go_num, rfl, N1, hb⟩
        case measure => simp [intOf]; omega
    · obtain rfl : i = f.n := by omega
      have R : Hid (LsP (inpL f f.n) w (.returned v) wr) := by
        refine ⟨v, rfl, ?_, hbw.out⟩
        exact own_monoL hown.out (by omega)
      go_wp2
      go_ret
      exact R.out

/-- Which cell is filled in, and with what; -1: none. -/
def setsK (f : Frm) (a : Int) : Int := if (inpL f f.n).length = 0 then -1 else (inpL f f.n).getD (pickI a (inpL f f.n).length).toNat 0
def setsV (f : Frm) (b : Int) : Int := if (inpL f f.n).length = 0 then 0 else valI b

theorem setsK_ok (f : Frm) (a b : Int) : (setsK f a = -1 ∧ setsV f b = 0) ∨ (∃ j : Nat, setsK f a = j ∧ j < f.n ∧ (f.C j).kind = 0 ∧ IsV (setsV f b)) := by
  unfold setsK setsV
  by_cases h : (inpL f f.n).length = 0
  · rw [if_pos h, if_pos h]
    exact Or.inl ⟨rfl, rfl⟩
  · rw [if_neg h, if_neg h]
    have bd := pickI_bd a (n := (inpL f f.n).length) (by omega)
    have hlt : (pickI a (inpL f f.n).length).toNat < (inpL f f.n).length := by omega
    have e : (inpL f f.n).getD (pickI a (inpL f f.n).length).toNat 0 = (inpL f f.n)[(pickI a (inpL f f.n).length).toNat] := by simp [List.getD, hlt]
    obtain ⟨j, h1, h2, h3⟩ := inpL_mem (List.getElem_mem hlt)
    exact Or.inr ⟨j, by rw [e]; exact h1, h2, h3, valI_v b⟩

def SetsP (f : Frm) (a b : Int) (w : World) (e : Ending) (w' : World) : Prop := e = .returned (.tuple #[.int .i64 (setsK f a), .int .i64 (setsV f b)]) ∧ Below w.heap.size w w'

set_option maxRecDepth 100000 in
set_option maxHeartbeats 2000000 in
theorem ksets_any {f : Frm} {fv : Value} {w : World} (hn : f.n ≤ 20) (h : FAt w f fv) (kd a b : Int) (ha : I64k a) (hb : I64k b) : Calls Tryd.prog 17 #[fv, .agg #[.int .i64 kd, .int .i64 a, .int .i64 b]] w fun e w' => SetsP f a b w e w' := by
  have HF := hid h
  obtain ⟨aC, cC, aR, cR, aH, cH, rfl, _, _, _⟩ := h
  have B0 := hid (Below.refl (w.heap.size + 1 + 1) ((w.alloc (.cells #[.slice aC f.n cC, .slice aR f.k cR, .int .i64 f.week, .slice aH f.hol.length cH] 26)).alloc (.cells #[.int .i64 kd, .int .i64 a, .int .i64 b] 34)))
  have IN := hid (fun W (hW : Below w.heap.size w W) => kinputs_any hn (HF.out.below hW))
  have VB := hid (fun W => kvalue_any b W hb)
  have p0 := (two_boxes B0.out 0).1
  have p1 := (two_boxes B0.out 1).1
  have p2 := (two_boxes B0.out 2).1
  have p3 := (two_boxes B0.out 3).1
  simp at p0 p1 p2 p3
  go_enter Tryd.func17, Tryd.ntmps17
  go_wp2_with fail
  refine (IN.out _ (two_boxes_below B0.out)).mono ?_
  rintro e w1 ⟨v, rfl, hv, hb1⟩
  have B1 : Hid (Below (w.heap.size + 1 + 1) ((w.alloc (.cells #[.slice aC f.n cC, .slice aR f.k cR, .int .i64 f.week, .slice aH f.hol.length cH] 26)).alloc (.cells #[.int .i64 kd, .int .i64 a, .int .i64 b] 34)) w1) := by have h := hb1; simp only [World.size_alloc] at h; exact h
  have LN := inpL_len f f.n
  clear hb1 p0 p1 p2 p3 B0 IN HF
  by_cases e0 : (inpL f f.n).length = 0
  · have R : Hid (SetsP f a b w (.returned (.tuple #[.int .i64 (-1), .int .i64 0])) w1) := ⟨by unfold setsK setsV; rw [if_pos e0, if_pos e0], two_boxes_below B1.out⟩
    rw [e0] at hv
    obtain ⟨av, cv, rfl⟩ := own_len hv
    clear hv e0
    go_wp2
    go_ret2
    exact R.out
  · have PK := hid (fun W => kpick_any a (inpL f f.n).length W ha (by omega) (by omega))
    have bd := pickI_bd a (n := (inpL f f.n).length) (by omega)
    have R : Hid (∀ W, Below w.heap.size w W → SetsP f a b w (.returned (.tuple #[.int .i64 ((inpL f f.n).getD (pickI a (inpL f f.n).length).toNat 0), .int .i64 (valI b)])) W) := fun W hW => ⟨by unfold setsK setsV; rw [if_neg e0, if_neg e0], hW⟩
    obtain ⟨g, c, rfl, zg, x⟩ := own_cell hv (by omega)
    obtain ⟨q, hq⟩ := Int.eq_ofNat_of_zero_le bd.1
    have hqn : q < (inpL f f.n).length := by omega
    have x0 := x q (by omega)
    rw [List.getElem?_map, show (inpL f f.n)[q]? = some ((inpL f f.n).getD q 0) by simp [List.getD, hqn]] at x0
    simp only [Option.map_some] at x0
    rw [hq] at PK R
    rw [show ((q : Nat) : Int).toNat = q by omega] at R
    have d : (((inpL f f.n).length : Int) == 0) = false := beq_eq_false_iff_ne.2 (by omega)
    have q1 : (q : Int) < ((inpL f f.n).length : Int) := by omega
    have y1 := (two_boxes B1.out 1).2
    have y2 := (two_boxes B1.out 2).2
    simp at y1 y2
    have zw := B1.out.size
    simp at zw
    have BW := hid (two_boxes_below B1.out)
    clear hv x bd hq B1
    generalize (inpL f f.n).getD q 0 = xq at *
    generalize (inpL f f.n).length = ln at *
    generalize valI b = vb at *
    go_upto_region 4 with (fail)
    go_region_held3 (fun w' => w'.cell? ⟨w.heap.size + 1, 1, none⟩ = some (.int .i64 a) ∧ w'.cell? ⟨w.heap.size + 1, 2, none⟩ = some (.int .i64 b) ∧ w'.cell? ⟨g, q, none⟩ = some (.int .i64 xq))
      (refine ⟨?_, ?_, ?_⟩ <;> assumption)
      (first
        | (go_at_call 16; refine (PK.out _).mono ?_; rintro e w' ⟨rfl, hw⟩; rw [hw]; clear hw w')
        | (go_at_call 52; refine (VB.out _).mono ?_; rintro e w' ⟨rfl, hw⟩; rw [hw]; clear hw w')
        | fail)
    all_goals (
      go_wp2
      go_ret2
      exact R.out _ BW.out.drew)

end Go.Proofs.YtnkolbngeibhpaaDoor

/-
  THE WALKS: docketkeep's one step.
-/
set_option linter.unusedVariables false
set_option linter.unusedSimpArgs false
namespace Go.Proofs.YtnkolbngeibhpaaDoor
open Go.RowKit
attribute [local go_sem ↓] Go.wp_at_zero Go.wp_at_succ

theorem setM_few {f : Frm} (hf : f.Ok) {b : Nat} {m : Cs} (h : Few b m) (c v : Int) : Few (b + 1) (setM f m c v) := by
  obtain ⟨_, _, k6, _, _⟩ := hf.sizes
  unfold setM
  split
  · have h1 := settle_len f (m.fill c.toNat v)
    unfold Few at h ⊢
    rw [settle_T]
    have e1 : (m.fill c.toNat v).E = m.E := rfl
    have e2 : (m.fill c.toNat v).T = m.T := rfl
    rw [e1] at h1
    rw [e2]
    omega
  · exact few_up h (by omega)
theorem advM_few {f : Frm} (hf : f.Ok) {b : Nat} {m : Cs} (h : Few b m) (to : Int) : Few b (advM f m to) := by
  unfold advM
  split
  · exact h
  · exact go_few hf h _
theorem advM_ok {f : Frm} (hf : f.Ok) {m : Cs} (h : m.Ok f) (to : Int) : (advM f m to).Ok f := by
  unfold advM
  split
  · exact h
  · exact go_ok hf h _ (by omega)
theorem ackM_few {f : Frm} {b : Nat} {m : Cs} (h : Few b m) (r : Int) : Few b (ackM f m r) := by
  unfold ackM
  split
  · exact h
  · exact h
theorem closeM_few {f : Frm} {b : Nat} {m : Cs} (h : Few b m) : Few b (closeM f m) := by
  unfold closeM
  split
  · exact h
  · exact h

theorem setM_op (f : Frm) (m : Cs) (c v : Int) : (setM f m c v).op = m.op := by
  unfold setM
  split
  · rw [settle_op]; rfl
  · rfl
theorem advM_op (f : Frm) (m : Cs) (to : Int) : (advM f m to).op = m.op := by
  unfold advM
  split
  · rfl
  · rw [go_op]
theorem ackM_op (f : Frm) (m : Cs) (r : Int) : (ackM f m r).op = m.op := by
  unfold ackM
  split <;> rfl

/-- What a raw step does to an open case. -/
def oneM (f : Frm) (m : Cs) (kd a b : Int) : Cs :=
  if pickI kd 3 = 0 then (if setsK f a < 0 then m else setM f m (setsK f a) (setsV f b)) else if pickI kd 3 = 1 then advM f m (ontoI m.T a) else (if f.k = 0 then m else ackM f m (pickI a f.k))

theorem oneM_ok {f : Frm} (hf : f.Ok) {m : Cs} (h : m.Ok f) (kd a b : Int) : (oneM f m kd a b).Ok f := by
  unfold oneM
  repeat' split
  · exact h
  · exact setM_ok hf h _ _
  · exact advM_ok hf h _
  · exact h
  · exact ackM_ok h _
theorem oneM_few {f : Frm} (hf : f.Ok) {b : Nat} {m : Cs} (h : Few b m) (kd a b' : Int) : Few (b + 1) (oneM f m kd a b') := by
  unfold oneM
  repeat' split
  · exact few_up h (by omega)
  · exact setM_few hf h _ _
  · exact few_up (advM_few hf h _) (by omega)
  · exact few_up h (by omega)
  · exact few_up (ackM_few h _) (by omega)
theorem oneM_op (f : Frm) (m : Cs) (kd a b : Int) : (oneM f m kd a b).op = m.op := by
  unfold oneM
  repeat' split
  · rfl
  · exact setM_op _ _ _ _
  · exact advM_op _ _ _
  · rfl
  · exact ackM_op _ _ _

theorem upd_self {α : Type} (P : Nat → α) (i : Nat) : upd P i (P i) = P := by
  funext j
  by_cases e : j = i
  · subst e; rw [upd_same]
  · rw [upd_other _ _ e]

/-- What a call on case i leaves. -/
def CsP (r : Value) (b' np : Nat) (P : Nat → KP) (i : Nat) (m' : Cs) (tag : Nat → Nat) (w : World) (e : Ending) (w' : World) : Prop :=
  e = .returned r ∧ ∃ v' tag', CSt b' np (upd P i ⟨(P i).Q, (P i).p, v', (P i).f, m'⟩) tag' w' ∧ Kept tag tag' w w'

section
variable {b np : Nat} {P : Nat → KP} {tag : Nat → Nat} {w : World}

/-- The case has not been called. -/
theorem CSt.idle (h : CSt b np P tag w) (i : Nat) (r : Value) {w' : World} (hb : Below w.heap.size w w') {b' : Nat} (hbb : b ≤ b') {m' : Cs} (hm : m' = (P i).c) : CsP r b' np P i m' tag w (.returned r) w' := by
  subst hm
  refine ⟨rfl, (P i).v, _, ?_, Kept.fresh hb⟩
  have e : (⟨(P i).Q, (P i).p, (P i).v, (P i).f, (P i).c⟩ : KP) = P i := rfl
  rw [e, upd_self]
  exact (h.drop hb).up hbb

/-- It has. -/
theorem CSt.called (h : CSt b np P tag w) {i : Nat} (hi : i < np) {w1 w' : World} (hb : Below w.heap.size w w1) {r : Int} {m' : Cs} {e : Ending} (g : KInP (P i).Q (P i).f (P i).p r m' (P i).v w1 e w') (r' : Value) {b' : Nat} (hok : m'.Ok (P i).f) (hfew : Few b' m') (hbb : b ≤ b') : CsP r' b' np P i m' tag w (.returned r') w' := by
  obtain ⟨v', _, g1, g2⟩ := g
  obtain ⟨c1, c2⟩ := (h.drop hb).kgo hi g1 g2 hok hfew hbb
  exact ⟨rfl, v', _, c1, (Kept.fresh hb).trans c2⟩
end

set_option maxRecDepth 100000 in
set_option maxHeartbeats 4000000 in
theorem kone_any {b np : Nat} {P : Nat → KP} {tag : Nat → Nat} {w : World} (h : CSt b np P tag w) {f : Frm} {fv : Value} (hfv : FAt w f fv) {i : Nat} (hi : i < np) (hfi : (P i).f = f) (hop : (P i).c.op = true) (hbb : b ≤ 9000000000) (kd a b' : Int) (h0 : I64k kd) (h1 : I64k a) (h2 : I64k b') :
    Calls Tryd.prog 37 #[.pointer (some ⟨(P i).p.bp, 0, none⟩), fv, .agg #[.int .i64 kd, .int .i64 a, .int .i64 b']] w fun e w' => CsP (.bool true) (b + 1) np P i (oneM f (P i).c kd a b') tag w e w' := by
  have hf : f.Ok := by rw [← hfi]; exact h.fok i hi
  obtain ⟨n1, hn, hk, _, _⟩ := hf.sizes
  have hm : (P i).c.Ok f := by rw [← hfi]; exact (h.kok i hi).1
  have hfew := (h.kok i hi).2
  have hlen := few_len hm hfew (by omega)
  have PK3 := hid (fun W => kpick_any kd 3 W h0 (by omega) (by omega))
  have b3 := pickI_bd kd (n := 3) (by omega)
  have KST : Hid (∀ W, Below w.heap.size w W → KAt (P i).Q f (P i).p (P i).c (P i).v W) := fun W hW => by rw [← hfi]; exact KSt.drop (h.kst i hi) hW
  have SE := hid (fun W (hW : Below w.heap.size w W) => ksets_any hn (hfv.below hW) kd a b' h1 h2)
  have DONE : Hid (∀ W m', Below w.heap.size w W → m' = (P i).c → CsP (.bool true) (b + 1) np P i m' tag w (.returned (.bool true)) W) := fun W m' hW hm' => h.idle i _ hW (by omega) hm'
  have CALL : Hid (∀ W1 W r m' e, Below w.heap.size w W1 → KInP (P i).Q f (P i).p r m' (P i).v W1 e W → m'.Ok f → Few (b + 1) m' → CsP (.bool true) (b + 1) np P i m' tag w (.returned (.bool true)) W) := fun W1 W r m' e hW g g1 g2 => h.called hi hW (by rw [hfi]; exact g) _ (by rw [hfi]; exact g1) g2 (by omega)
  obtain ⟨aC, cC, aR, cR, aH, cH, rfl, _, _, _⟩ := hfv
  have HM := hid hm
  have HF := hid hf
  have HW := hid hfew
  have HO := hid hop
  have SK := hid (setsK_ok f a b')
  clear h hfi hop hf hm hfew
  have B0 := hid (Below.refl (w.heap.size + 1 + 1) ((w.alloc (.cells #[.slice aC f.n cC, .slice aR f.k cR, .int .i64 f.week, .slice aH f.hol.length cH] 26)).alloc (.cells #[.int .i64 kd, .int .i64 a, .int .i64 b'] 34)))
  have f0 := (two_boxes B0.out 0).1
  have f1 := (two_boxes B0.out 1).1
  have f2 := (two_boxes B0.out 2).1
  have f3 := (two_boxes B0.out 3).1
  have s0 := (two_boxes B0.out 0).2
  have s1 := (two_boxes B0.out 1).2
  have s2 := (two_boxes B0.out 2).2
  simp at f0 f1 f2 f3 s0 s1 s2
  have BW := hid (two_boxes_below B0.out)
  generalize hmm : (P i).c = m at *
  have cs : pickI kd 3 = 0 ∨ pickI kd 3 = 1 ∨ pickI kd 3 = 2 := by omega
  rcases cs with e | e | e
  · have OM : Hid (oneM f m kd a b' = if setsK f a < 0 then m else setM f m (setsK f a) (setsV f b')) := by show _ = _; unfold oneM; rw [if_pos e]
    rw [e] at PK3
    clear e b3 hmm
    rcases SK.out with ⟨e1, e2⟩ | ⟨j, e1, e2, e3, e4⟩
    · have OM2 : oneM f m kd a b' = m := by rw [OM.out, if_pos (by omega)]
      rw [OM2]
      unfold SetsP at SE
      rw [e1, e2] at SE
      clear e1 e2 OM2 OM
      go_enter Tryd.func37, Tryd.ntmps37
      go_wp2_with fail
      refine (PK3.out _).mono ?_
      rintro e w' ⟨rfl, hw⟩
      rw [hw]
      clear hw w'
      go_wp2_with fail
      refine (SE.out _ BW.out).mono ?_
      rintro e w1 ⟨rfl, hb1⟩
      have B1 : Hid (Below w.heap.size w w1) := BW.out.trans (hb1.mono (by simp; omega))
      clear hb1
      have R := hid (DONE.out w1 m B1.out rfl)
      go_wp2
      go_ret
      exact R.out
    · have hno : setNo f m (setsK f a) (setsV f b') = 0 := by
        unfold setNo
        rw [if_neg (by rw [HO.out]; simp)]
        unfold setAns
        have i4 : M.isv (setsV f b') = true := by unfold M.isv; exact decide_eq_true e4
        rw [e1, if_neg (by omega), if_neg (by simpa using e3), if_neg (by rw [i4]; simp)]
      have KS := hid (fun w1 (hB1 : Below w.heap.size w w1) => (kSet_any (setsK f a) (setsV f b') (KST.out w1 hB1) HF.out HM.out hlen).mono (fun e w' g => (show e = .returned (.int .i64 0) ∧ CsP (.bool true) (b + 1) np P i (setM f m (setsK f a) (setsV f b')) tag w (.returned (.bool true)) w' from ⟨by obtain ⟨_, g1, _⟩ := g; rw [g1, hno], CALL.out w1 w' _ _ e hB1 g (setM_ok HF.out HM.out _ _) (setM_few HF.out HW.out _ _)⟩)))
      have OM2 : oneM f m kd a b' = setM f m (setsK f a) (setsV f b') := by rw [OM.out, if_neg (by omega)]
      rw [OM2]
      unfold SetsP at SE
      have k0 : (0 : Int) ≤ setsK f a := by omega
      clear e1 e2 e3 e4 hno OM OM2 SK
      generalize setsK f a = sk at *
      generalize setsV f b' = sv at *
      go_enter Tryd.func37, Tryd.ntmps37
      go_wp2_with fail
      refine (PK3.out _).mono ?_
      rintro e w' ⟨rfl, hw⟩
      rw [hw]
      clear hw w'
      go_wp2_with fail
      refine (SE.out _ BW.out).mono ?_
      rintro e w1 ⟨rfl, hb1⟩
      have B1 : Hid (Below w.heap.size w w1) := BW.out.trans (hb1.mono (by simp; omega))
      clear hb1
      go_wp2_with fail
      refine (KS.out _ B1.out).mono ?_
      rintro e w2 ⟨rfl, hc⟩
      have R := hid hc
      clear hc
      go_wp2
      go_ret
      exact R.out
  · have OM : Hid (oneM f m kd a b' = advM f m (ontoI m.T a)) := by show _ = _; unfold oneM; rw [if_neg (by omega), if_pos e]
    rw [OM.out]
    rw [e] at PK3
    clear e b3 hmm
    have ot := ontoI_bd a HM.out.t0 HM.out.t1
    have ON := hid (fun W => konto_any m.T a W HM.out.t0 HM.out.t1 h1)
    have NW := hid (fun W (hW : Below w.heap.size w W) => now_any (KST.out W hW))
    have hno : advAns m.T (ontoI m.T a) = 0 := by unfold advAns; rw [if_neg (by omega)]
    have KA := hid (fun W (hW : Below w.heap.size w W) => (kadvance_any (ontoI m.T a) (KST.out W hW) HF.out HM.out HW.out (by omega)).mono (fun e w' g => (show e = .returned (.int .i64 0) ∧ CsP (.bool true) (b + 1) np P i (advM f m (ontoI m.T a)) tag w (.returned (.bool true)) w' from ⟨by obtain ⟨_, g1, _⟩ := g; rw [g1, hno], CALL.out W w' _ _ e hW g (advM_ok HF.out HM.out _) (few_up (advM_few HF.out HW.out _) (by omega))⟩)))
    clear hno ot
    generalize ontoI m.T a = to at *
    go_enter Tryd.func37, Tryd.ntmps37
    go_wp2_with fail
    refine (PK3.out _).mono ?_
    rintro e w' ⟨rfl, hw⟩
    rw [hw]
    clear hw w'
    go_wp2_with fail
    refine (NW.out _ BW.out).mono ?_
    rintro e w' ⟨rfl, hw⟩
    rw [hw]
    clear hw w'
    go_wp2_with fail
    refine (ON.out _).mono ?_
    rintro e w' ⟨rfl, hw⟩
    rw [hw]
    clear hw w'
    go_wp2_with fail
    refine (KA.out _ BW.out).mono ?_
    rintro e w2 ⟨rfl, hc⟩
    have R := hid hc
    clear hc
    go_wp2
    go_ret
    exact R.out
  · have OM : Hid (oneM f m kd a b' = if f.k = 0 then m else ackM f m (pickI a f.k)) := by show _ = _; unfold oneM; rw [if_neg (by omega), if_neg (by omega)]
    rw [OM.out]
    rw [e] at PK3
    clear e b3 hmm
    by_cases k0 : f.k = 0
    · rw [if_pos k0]
      have R := hid (DONE.out _ m BW.out rfl)
      have kz : ¬ ((0 : Int) < (f.k : Int)) := by omega
      clear k0
      go_enter Tryd.func37, Tryd.ntmps37
      go_wp2_with fail
      refine (PK3.out _).mono ?_
      rintro e w' ⟨rfl, hw⟩
      rw [hw]
      clear hw w'
      go_wp2
      go_ret
      exact R.out
    · rw [if_neg k0]
      have PA := hid (fun W => kpick_any a f.k W h1 (by omega) (by omega))
      have KA := hid (fun W (hW : Below w.heap.size w W) => (kAck_any (pickI a f.k) (KST.out W hW) HF.out).mono (fun e w' g => (show (∃ r, e = .returned (.int .i64 r)) ∧ CsP (.bool true) (b + 1) np P i (ackM f m (pickI a f.k)) tag w (.returned (.bool true)) w' from ⟨by obtain ⟨_, g1, _⟩ := g; exact ⟨_, g1⟩, CALL.out W w' _ _ e hW g (ackM_ok HM.out _) (few_up (ackM_few HW.out _) (by omega))⟩)))
      have kp : (0 : Int) < (f.k : Int) := by omega
      clear k0
      generalize pickI a f.k = pa at *
      go_enter Tryd.func37, Tryd.ntmps37
      go_wp2_with fail
      refine (PK3.out _).mono ?_
      rintro e w' ⟨rfl, hw⟩
      rw [hw]
      clear hw w'
      go_wp2_with fail
      refine (PA.out _).mono ?_
      rintro e w' ⟨rfl, hw⟩
      rw [hw]
      clear hw w'
      go_wp2_with fail
      refine (KA.out _ BW.out).mono ?_
      rintro e w2 ⟨⟨r, rfl⟩, hc⟩
      have R := hid hc
      clear hc
      go_wp2
      go_ret
      exact R.out

end Go.Proofs.YtnkolbngeibhpaaDoor
