/-
  SEVERAL CASES: their calls, the rooms of their logs left unsaid.
-/
import Derived.Test.YtmofidaojmiepaaDoorGE18
set_option linter.unusedVariables false
set_option linter.unusedSimpArgs false
namespace Go.Proofs.YtmofidaojmiepaaDoor
open Go.RowKit
attribute [local go_sem ↓] Go.wp_at_zero Go.wp_at_succ

/-- Four things by name. -/
def q4 {α : Type} (A B C D : α) : Nat → α
  | 0 => A
  | 1 => B
  | 2 => C
  | _ => D
section
variable {α : Type} (A B C D X : α)
theorem q4_0 : upd (q4 A B C D) 0 X = q4 X B C D := by
  funext i
  match i with
  | 0 => exact upd_same _ _ _
  | 1 => exact upd_other _ _ (by omega)
  | 2 => exact upd_other _ _ (by omega)
  | n + 3 => exact upd_other _ _ (by omega)
theorem q4_1 : upd (q4 A B C D) 1 X = q4 A X C D := by
  funext i
  match i with
  | 0 => exact upd_other _ _ (by omega)
  | 1 => exact upd_same _ _ _
  | 2 => exact upd_other _ _ (by omega)
  | n + 3 => exact upd_other _ _ (by omega)
theorem q4_2 : upd (q4 A B C D) 2 X = q4 A B X D := by
  funext i
  match i with
  | 0 => exact upd_other _ _ (by omega)
  | 1 => exact upd_other _ _ (by omega)
  | 2 => exact upd_same _ _ _
  | n + 3 => exact upd_other _ _ (by omega)
theorem q4_3 (i : Nat) (hi : i < 4) : upd (q4 A B C D) 3 X i = q4 A B C X i := by
  have : i = 0 ∨ i = 1 ∨ i = 2 ∨ i = 3 := by omega
  rcases this with rfl | rfl | rfl | rfl
  · exact upd_other _ _ (by omega)
  · exact upd_other _ _ (by omega)
  · exact upd_other _ _ (by omega)
  · exact upd_same _ _ _
end

/-- Of a case: what it stands on, its places, its form. -/
structure KS where
  Q : Nat → Prop
  p : KPl
  f : Frm

/-- Cases, and blocks that are nobody's. -/
def CN (Z : Nat → Prop) (b np : Nat) (K : Nat → KS) (M : Nat → Cs) (w : World) : Prop := ∃ V : Nat → Value, LS Z b np (fun i => ⟨(K i).Q, (K i).p, V i, (K i).f, M i⟩) w
def CNP (r : Value) (Z : Nat → Prop) (b np : Nat) (K : Nat → KS) (M : Nat → Cs) (w : World) (e : Ending) (w' : World) : Prop := e = .returned r ∧ CN Z b np K M w' ∧ StZ Z w w'
def CNA (Z : Nat → Prop) (b np : Nat) (K : Nat → KS) (M : Nat → Cs) (f : Frm) (m : Cs) (w : World) (e : Ending) (w' : World) : Prop := ∃ Q p, e = .returned (.pointer (some ⟨p.bp, 0, none⟩)) ∧ CN Z b (np + 1) (upd K np ⟨Q, p, f⟩) (upd M np m) w' ∧ StZ Z w w'

section
variable {Z : Nat → Prop} {b np : Nat} {K : Nat → KS} {M : Nat → Cs} {w w' : World}

theorem CNP.of {r : Value} {b' i : Nat} {m' : Cs} {V : Nat → Value} {e : Ending} (g : LsC r Z b' np (fun i => ⟨(K i).Q, (K i).p, V i, (K i).f, M i⟩) i m' w e w') : CNP r Z b' np K (upd M i m') w e w' := by
  obtain ⟨g0, v', g1, g2⟩ := g
  refine ⟨g0, ⟨upd V i v', g1.congr (fun j hj => ?_)⟩, g2⟩
  by_cases e : j = i
  · subst e
    rw [upd_same, upd_same, upd_same]
  · rw [upd_other _ _ e, upd_other _ _ e, upd_other _ _ e]
theorem CNA.of {b' : Nat} {f : Frm} {m' : Cs} {V : Nat → Value} {e : Ending} (g : LsA Z b' np (fun i => ⟨(K i).Q, (K i).p, V i, (K i).f, M i⟩) f m' w e w') : CNA Z b' np K M f m' w e w' := by
  obtain ⟨Q, p, v, g0, g1, g2⟩ := g
  refine ⟨Q, p, g0, ⟨upd V np v, g1.congr (fun j hj => ?_)⟩, g2⟩
  by_cases e : j = np
  · subst e
    rw [upd_same, upd_same, upd_same, upd_same]
  · rw [upd_other _ _ e, upd_other _ _ e, upd_other _ _ e, upd_other _ _ e]
theorem CN.congr (h : CN Z b np K M w) {K' : Nat → KS} {M' : Nat → Cs} (hK : ∀ i, i < np → K i = K' i) (hM : ∀ i, i < np → M i = M' i) : CN Z b np K' M' w := by
  obtain ⟨V, h⟩ := h
  exact ⟨V, h.congr (fun i hi => by rw [hK i hi, hM i hi])⟩
theorem CN.start (ht : Tab w) (K : Nat → KS) (M : Nat → Cs) (b : Nat) : CN (fun j => j < w.heap.size) b 0 K M w := ⟨fun _ => .bool false, LS.start ht _ b⟩
theorem CN.lt (h : CN Z b np K M w) : ∀ j, Z j → j < w.heap.size := by obtain ⟨v, h⟩ := h; exact h.lt
theorem CN.drop (h : CN Z b np K M w) (hb : Below w.heap.size w w') : CN (zup Z w w') b np K M w' := by obtain ⟨v, h⟩ := h; exact ⟨v, h.drop hb⟩
theorem CN.less (h : CN Z b np K M w) {Z' : Nat → Prop} (hz : ∀ j, Z' j → Z j) : CN Z' b np K M w := by obtain ⟨v, h⟩ := h; exact ⟨v, h.less hz⟩
theorem CN.keep (h : CN Z b np K M w) (hb : Below w.heap.size w w') : CN Z b np K M w' := by obtain ⟨v, h⟩ := h; exact ⟨v, h.keep hb⟩
theorem CN.up (h : CN Z b np K M w) {b2 : Nat} (hb : b ≤ b2) : CN Z b2 np K M w := by obtain ⟨v, h⟩ := h; exact ⟨v, h.up hb⟩
theorem CN.fok (h : CN Z b np K M w) {i : Nat} (hi : i < np) : (K i).f.Ok := by obtain ⟨v, h⟩ := h; exact h.fok hi
theorem CN.mok (h : CN Z b np K M w) {i : Nat} (hi : i < np) : (M i).Ok (K i).f := by obtain ⟨v, h⟩ := h; exact h.mok hi
theorem CN.len (h : CN Z b np K M w) {i : Nat} (hi : i < np) (hb : b ≤ 10000000000) : (M i).E.length ≤ 999999999000 := by obtain ⟨v, h⟩ := h; exact h.len hi hb
theorem CN.qlt (h : CN Z b np K M w) {i : Nat} (hi : i < np) : ∀ j, (K i).Q j → j < w.heap.size := by obtain ⟨v, h⟩ := h; exact h.qlt hi

theorem cnopened (h : CN Z b np K M w) (hb : 1 ≤ b) {f : Frm} (hf : f.Ok) {fv : Value} (hfv : FAt w f fv) : Calls Tryd.prog 13 #[fv] w fun e w' => CNA Z b np K M f (beginM f) w e w' := by
  obtain ⟨v, h⟩ := h
  exact (lopened h hb hf hfv).mono (fun _ _ g => CNA.of g)
theorem cnbegun (h : CN Z b np K M w) {w0 : World} (hw0 : Below w0.heap.size w0 w) (hz : ∀ j, j < w0.heap.size → Z j) {f : Frm} (hf : f.Ok) {fv : Value} (hfv : FAt w0 f fv) {aS : Option Addr} {m cS : Nat} {S : Nat → StK} (hsc : ScK w0 aS m S) (hm : m ≤ 1048576) (hb1 : 1 ≤ b) (hbb : b ≤ 8000000000) (at' : Int) (ha0 : 0 ≤ at') (ha1 : at' ≤ 1000000000) :
    Calls Tryd.prog 28 #[fv, .slice aS m cS, .int .i64 at'] w fun e w' => CNA Z (b + m) np K M f (advM f (fillM f S m) at') w e w' := by
  obtain ⟨v, h⟩ := h
  exact (lbegun h hw0 hz hf hfv hsc hm hb1 hbb at' ha0 ha1).mono (fun _ _ g => CNA.of g)
theorem cnfork (h : CN Z b np K M w) {i : Nat} (hi : i < np) (hb : b ≤ 10000000000) : Calls Tryd.prog 36 #[.pointer (some ⟨(K i).p.bp, 0, none⟩)] w fun e w' => CNA Z b np K M (K i).f (M i) w e w' := by
  obtain ⟨v, h⟩ := h
  exact (lfork h hi hb).mono (fun _ _ g => CNA.of g)
theorem cnset (h : CN Z b np K M w) {i : Nat} (hi : i < np) (hb : b ≤ 10000000000) (c v : Int) : Calls Tryd.prog 18 #[.pointer (some ⟨(K i).p.bp, 0, none⟩), .int .i64 c, .int .i64 v] w fun e w' => CNP (.int .i64 (setNo (K i).f (M i) c v)) Z (b + 1) np K (upd M i (setM (K i).f (M i) c v)) w e w' := by
  obtain ⟨v', h⟩ := h
  exact (lset h hi hb c v).mono (fun _ _ g => CNP.of g)
theorem cnadv (h : CN Z b np K M w) {i : Nat} (hi : i < np) (hb : b ≤ 10000000000) (to : Int) : Calls Tryd.prog 20 #[.pointer (some ⟨(K i).p.bp, 0, none⟩), .int .i64 to] w fun e w' => CNP (.int .i64 (advAns (M i).T to)) Z b np K (upd M i (advM (K i).f (M i) to)) w e w' := by
  obtain ⟨v', h⟩ := h
  exact (ladv h hi hb to).mono (fun _ _ g => CNP.of g)
theorem cnlook (h : CN Z b np K M w) {i : Nat} (hi : i < np) (hb : b ≤ 10000000000) {fv : Value} (hfv : FAt w (K i).f fv) : Calls Tryd.prog 23 #[.pointer (some ⟨(K i).p.bp, 0, none⟩), fv] w fun e w' => LoP (K i).f (M i) w e w' := by
  obtain ⟨v, h⟩ := h
  exact llook h hi hb hfv
theorem cnplay (h : CN Z b np K M w) {w0 : World} (hw0 : Below w0.heap.size w0 w) (hz : ∀ j, j < w0.heap.size → Z j) {f : Frm} {fv : Value} (hfv : FAt w0 f fv) {aS : Option Addr} {m cS : Nat} {S : Nat → StK} (hsc : ScK w0 aS m S) {i : Nat} (hi : i < np) (hfi : (K i).f = f) (hop : (M i).op = true) (hm : m ≤ 1048576) (hbb : b ≤ 8000000000) :
    Calls Tryd.prog 35 #[.pointer (some ⟨(K i).p.bp, 0, none⟩), fv, .slice aS m cS] w fun e w' => CNP (.bool true) Z (b + m) np K (upd M i (playM f (M i) S m)) w e w' := by
  obtain ⟨v, h⟩ := h
  exact (lplay h hw0 hz hfv hsc hi hfi hop hm hbb).mono (fun _ _ g => CNP.of g)
theorem cnone (h : CN Z b np K M w) {f : Frm} {fv : Value} (hfv : FAt w f fv) {i : Nat} (hi : i < np) (hfi : (K i).f = f) (hop : (M i).op = true) (hbb : b ≤ 9000000000) (kd a b' : Int) (h0 : I64k kd) (h1 : I64k a) (h2 : I64k b') :
    Calls Tryd.prog 37 #[.pointer (some ⟨(K i).p.bp, 0, none⟩), fv, .agg #[.int .i64 kd, .int .i64 a, .int .i64 b']] w fun e w' => CNP (.bool true) Z (b + 1) np K (upd M i (oneM f (M i) kd a b')) w e w' := by
  obtain ⟨v, h⟩ := h
  exact (lone h hfv hi hfi hop hbb kd a b' h0 h1 h2).mono (fun _ _ g => CNP.of g)

/-- A store into a block that is nobody's, and that no case stands on. -/
theorem CN.store (h : CN Z b np K M w) {g : Nat} (hg : Z g) (hq : ∀ i, i < np → ¬ (K i).Q g) (hg0 : g ≠ 0) (hs : w.heap.size ≤ w'.heap.size) (hb : ∀ j, j < w.heap.size → j ≠ g → w'.heap[j]? = w.heap[j]?) : CN Z b np K M w' := by
  obtain ⟨V, tag, h1, h2⟩ := h
  refine ⟨V, ntag tag w.heap.size 0, ⟨fun i hi => ?_, fun i hi j hj => ?_, fun i hi j hj => ?_, h1.kok, h1.fok, ⟨by have := h1.tab.1; omega, fun q hq' => ?_⟩, ?_⟩, fun j hj => ?_⟩
  · refine KSt.move (h1.kst i hi) hs (fun j hj => ?_)
    rcases hj with hj | hj
    · exact hb j (KSt.qlt (h1.kst i hi) j hj) (fun e => hq i hi (e ▸ hj))
    · refine hb j (KSt.own_lt (h1.kst i hi) j hj) (fun e => ?_)
      have t1 := h1.kown i hi j hj
      rw [e, (h2 g hg).2] at t1
      omega
  · rw [ntag_old (KSt.own_lt (h1.kst i hi) j hj)]; exact h1.kown i hi j hj
  · rw [ntag_old (KSt.qlt (h1.kst i hi) j hj)]; exact h1.kq i hi j hj
  · have := h1.tab.2 q hq'
    have e : w'.heap[0]? = w.heap[0]? := hb 0 h1.tab.1 (fun e => hg0 e.symm)
    unfold World.cell? at this ⊢
    rw [e]
    exact this
  · rw [ntag_old h1.tab.1]; exact h1.t0
  · obtain ⟨a, c⟩ := h2 j hj
    exact ⟨by omega, by rw [ntag_old a]; exact c⟩
end

end Go.Proofs.YtmofidaojmiepaaDoor

/-
  THE WALKS: docketkeep's cutTo, dayOf, works, between, number, plain.
-/
set_option linter.unusedVariables false
set_option linter.unusedSimpArgs false
namespace Go.Proofs.YtmofidaojmiepaaDoor
open Go.RowKit
attribute [local go_sem ↓] Go.wp_at_zero Go.wp_at_succ

set_option maxHeartbeats 400000 in
theorem kcutTo_any (v : Int) (w : World) : Calls Tryd.prog 88 #[.int .i64 v] w fun e w' => e = .returned (.int .i64 (M.cutv v)) ∧ w' = w := by
  go_enter Tryd.func88, Tryd.ntmps88
  go_wp2
  all_goals go_ret
  all_goals exact ⟨ret_int (by unfold M.cutv; repeat' split
                               all_goals omega), rfl⟩

set_option maxHeartbeats 400000 in
theorem knumber_any (b : Bool) (w : World) : Calls Tryd.prog 71 #[.bool b] w fun e w' => e = .returned (.int .i64 (M.num b)) ∧ w' = w := by
  cases b <;> (go_enter Tryd.func71, Tryd.ntmps71; go_wp2; go_ret; exact ⟨rfl, rfl⟩)

theorem tdiv_day {v : Int} : (v.tdiv 86400 * 86400 > v → v / 86400 = v.tdiv 86400 - 1) ∧ (¬ v.tdiv 86400 * 86400 > v → v / 86400 = v.tdiv 86400) := by
  by_cases h : 0 ≤ v
  · have e : v.tdiv 86400 = v / 86400 := Int.tdiv_eq_ediv_of_nonneg h
    omega
  · have e : v.tdiv 86400 = -((-v) / 86400) := by
      have h1 : v.tdiv 86400 = -((-v).tdiv 86400) := by rw [Int.neg_tdiv, Int.neg_neg]
      rw [h1, Int.tdiv_eq_ediv_of_nonneg (by omega)]
    omega
theorem tdiv_bd {v : Int} (h0 : -2000000000 ≤ v) (h1 : v ≤ 2000000000) : -30000 ≤ v.tdiv 86400 ∧ v.tdiv 86400 ≤ 30000 := by
  have h := tdiv_day (v := v)
  by_cases c : v.tdiv 86400 * 86400 > v
  · have := h.1 c; omega
  · have := h.2 c; omega

set_option maxHeartbeats 400000 in
theorem kdayOf_any (v : Int) (w : World) (hv : -2000000000 ≤ v) (hv' : v ≤ 2000000000) : Calls Tryd.prog 85 #[.int .i64 v] w fun e w' => e = .returned (.int .i64 (v / 86400)) ∧ w' = w := by
  obtain ⟨b0, b1⟩ := tdiv_bd hv hv'
  obtain ⟨t1, t2⟩ := tdiv_day (v := v)
  have T1 := hid t1
  have T2 := hid t2
  clear t1 t2
  by_cases c : v < v.tdiv 86400 * 86400
  · have e := T1.out c
    rw [e]
    clear e T1 T2
    go_enter Tryd.func85, Tryd.ntmps85
    go_wp2
    go_ret
    simp
  · have e := T2.out (by omega)
    rw [e]
    clear e T1 T2
    go_enter Tryd.func85, Tryd.ntmps85
    go_wp2
    go_ret
    simp

theorem kwork_eq {week : Int} (h1 : 0 ≤ week) (h2 : week ≤ 127) (d : Int) : (bits BinOp.and IntKind.i64 (week / 2 ^ (d % 7).toNat) 1 == 1) = M.atw week d := atWork_eq h1 h2 d rfl rfl

def WkP (r : Bool) (w : World) (e : Ending) (w' : World) : Prop := e = .returned (.bool r) ∧ Below w.heap.size w w'

set_option maxRecDepth 100000 in
set_option maxHeartbeats 1000000 in
theorem kworks_any {f : Frm} (hf : f.Ok) {fv : Value} {w : World} (hfv : FAt w f fv) (d : Int) (hd : -1000000 ≤ d) (hd' : d ≤ 1000000) : Calls Tryd.prog 87 #[fv, .int .i64 d] w fun e w' => WkP (M.wkd f.week f.hol d) w e w' := by
  obtain ⟨_, _, _, w1, w2⟩ := hf.sizes
  have hl := hf.hol.1
  obtain ⟨aC, cC, aR, cR, aH, cH, rfl, _, _, h3⟩ := hfv
  have HC := hid (IntsAt.cases h3)
  have hq := kwork_eq (by omega) w2 d
  have BX := hid (Below.refl (w.heap.size + 1) (w.alloc (.cells #[.slice aC f.n cC, .slice aR f.k cR, .int .i64 f.week, .slice aH f.hol.length cH] 26)))
  have BW := hid (boxed_below BX.out)
  have g2 : (w.alloc (.cells #[.slice aC f.n cC, .slice aR f.k cR, .int .i64 f.week, .slice aH f.hol.length cH] 26)).cell? ⟨w.heap.size, 2, none⟩ = some (.int .i64 f.week) := boxed BX.out 2
  have g3 : (w.alloc (.cells #[.slice aC f.n cC, .slice aR f.k cR, .int .i64 f.week, .slice aH f.hol.length cH] 26)).cell? ⟨w.heap.size, 3, none⟩ = some (.slice aH f.hol.length cH) := boxed BX.out 3
  have NO : Hid (∀ k, k < f.hol.length → f.hol.getD k 0 = d → M.wkd f.week f.hol d = false) := fun k hk e => wkd_no hk e
  have YES : Hid ((∀ i : Nat, i < f.hol.length → f.hol.getD i 0 ≠ d) → M.wkd f.week f.hol d = M.atw f.week d) := fun h => by
    have : f.hol.contains d = false := by
      rw [Bool.eq_false_iff]; intro hc
      obtain ⟨i, hi, e⟩ := List.mem_iff_getElem.1 (List.contains_iff_mem.1 hc)
      exact h i hi (by simp [List.getD, hi, e])
    simp only [M.wkd, this]; simp
  have m1 : d.tmod 7 < 0 → d.tmod 7 + 7 = d % 7 := fun h => M.mod_neg (by omega) h
  have m2 : ¬ d.tmod 7 < 0 → d.tmod 7 = d % 7 := fun h => M.mod_pos (by omega) (by omega)
  have s2 : (0 ≤ d % 7 ∧ d % 7 < 7) := by omega
  generalize M.wkd f.week f.hol d = rr at *
  generalize M.atw f.week d = ra at *
  generalize f.week = wk at *
  have M1 := hid m1
  have M2 := hid m2
  clear m1 m2 h3 hf
  go_enter Tryd.func87, Tryd.ntmps87
  go_upto_region 1 with (fail)
  generalize w.alloc (.cells #[.slice aC f.n cC, .slice aR f.k cR, .int .i64 wk, .slice aH f.hol.length cH] 26) = wB at *
  by_cases hneg : d.tmod 7 < 0
  all_goals (
    first | (have e := M1.out hneg) | (have e := M2.out hneg)
    clear M1 M2
    go_upto_region 4 with (fail)
    clear e hneg
    generalize d % 7 = dm at *
    go_wp2_with fail
    go_loop [6] (fun t => ∃ k : Nat, k ≤ f.hol.length ∧ t = .int .i64 k ∧ Hid (∀ i : Nat, i < k → f.hol.getD i 0 ≠ d)) (fun t => f.hol.length - (intOf t).toNat)
    case atStart => exact ⟨0, by omega, rfl, fun i hi => by omega⟩
    case round =>
      obtain ⟨k, k1, rfl, hk⟩ := hrel
      by_cases hlt : k < f.hol.length
      · have lt' : (k : Int) < (f.hol.length : Int) := by omega
        rcases HC.out with h0 | ⟨b, off, rfl, hb, hcell⟩
        · omega
        have hx := (BW.out.cell (p := ⟨b, off + k, none⟩) hb).trans (hcell k hlt)
        by_cases e : f.hol.getD k 0 = d
        · have R : Hid (WkP rr w (.returned (.bool false)) wB) := ⟨by rw [NO.out k hlt e], BW.out⟩
          rw [e] at hx
          clear hcell e
          go_wp2
          go_ret
          exact R.out
        · have A : Hid (∀ i : Nat, i < k + 1 → f.hol.getD i 0 ≠ d) := fun i hi => by
            by_cases c : i = k
            · subst c; exact e
            · exact hk.out i (by omega)
          have de : (f.hol.getD k 0 == d) = false := beq_eq_false_iff_ne.2 e
          clear hcell e
          generalize f.hol.getD k 0 = hx' at hx de
          go_wp2
          go_round
          case rel => exact ⟨k + 1, by omega, by go_num, A⟩
          case measure => simp [intOf]; omega
      · have R : Hid (WkP rr w (.returned (.bool ra)) wB) := ⟨by rw [YES.out (fun i hi => hk.out i (by omega))], BW.out⟩
        go_wp2
        go_ret
        exact R.out)

theorem mcnt_le (p : Int → Bool) (d : Int) : ∀ n : Nat, M.cnt p d n ≤ n
  | 0 => Nat.le_refl _
  | n + 1 => by
    have := mcnt_le p d n
    simp only [M.cnt]
    split <;> omega

def BtP (r : Nat) (w : World) (e : Ending) (w' : World) : Prop := e = .returned (.int .i64 r) ∧ Below w.heap.size w w'

set_option maxRecDepth 100000 in
set_option maxHeartbeats 1000000 in
theorem kbetween_any {f : Frm} (hf : f.Ok) {fv : Value} {w : World} (hfv : FAt w f fv) (a b : Int) (ha : -30000 ≤ a) (ha' : a ≤ 30000) (hb : -30000 ≤ b) (hb' : b ≤ 30000) : Calls Tryd.prog 86 #[fv, .int .i64 a, .int .i64 b] w fun e w' => BtP (M.cnt (M.wkd f.week f.hol) a (b - a).toNat) w e w' := by
  have HF := hid hf
  have FV := hid hfv
  obtain ⟨aC, cC, aR, cR, aH, cH, rfl, _, _, _⟩ := hfv
  have BX := hid (Below.refl (w.heap.size + 1) (w.alloc (.cells #[.slice aC f.n cC, .slice aR f.k cR, .int .i64 f.week, .slice aH f.hol.length cH] 26)))
  clear hf
  go_enter Tryd.func86, Tryd.ntmps86
  go_wp2_with fail
  go_loopw [7, 8] (fun tn td wr => ∃ j : Nat, j ≤ (b - a).toNat ∧ tn = .int .i64 (M.cnt (M.wkd f.week f.hol) a j : Nat) ∧ td = .int .i64 (a + 1 + j) ∧ Hid (Below (w.heap.size + 1) (w.alloc (.cells #[.slice aC f.n cC, .slice aR f.k cR, .int .i64 f.week, .slice aH f.hol.length cH] 26)) wr)) (fun _ td _ => (b + 1 - intOf td).toNat)
  case atStart => exact ⟨0, by omega, rfl, by go_num, BX⟩
  case round =>
    clear BX
    obtain ⟨j, j1, rfl, rfl, hbx⟩ := hrel
    have BW := hid (boxed_below hbx.out)
    have x0 := boxed hbx.out 0
    have x1 := boxed hbx.out 1
    have x2 := boxed hbx.out 2
    have x3 := boxed hbx.out 3
    simp at x0 x1 x2 x3
    have cl := mcnt_le (M.wkd f.week f.hol) a j
    by_cases hj : a + 1 + (j : Int) ≤ b
    · have WK := hid (kworks_any HF.out (FV.out.below BW.out) (a + 1 + j) (by omega) (by omega))
      have NX : Hid (M.cnt (M.wkd f.week f.hol) a (j + 1) = M.cnt (M.wkd f.week f.hol) a j + if M.wkd f.week f.hol (a + 1 + j) = true then 1 else 0) := by
        show M.cnt _ _ _ = _
        simp only [M.cnt]
        rw [show a + ((j + 1 : Nat) : Int) = a + 1 + j by omega]
      generalize M.wkd f.week f.hol (a + 1 + j) = rr at *
      generalize M.cnt (M.wkd f.week f.hol) a j = cj at *
      obtain ⟨cj1, hc1⟩ : ∃ c, M.cnt (M.wkd f.week f.hol) a (j + 1) = c := ⟨_, rfl⟩
      rw [hc1] at NX
      have HC1 := hid hc1
      clear hc1
      go_wp2_with fail
      refine WK.out.mono ?_
      rintro e w2 ⟨rfl, hb2⟩
      have N1 := hid (hbx.out.trans (hb2.mono (by have := hbx.out.size; simpa using this)))
      clear hb2 WK hbx BW
      cases rr
      · have e1 : cj1 = cj := by have := NX.out; simpa using this
        subst e1
        clear NX
        go_wp2
        go_roundw
        case rel => exact ⟨j + 1, by omega, by have := HC1.out; go_num, by go_num, N1⟩
        case measure => simp [intOf]; omega
      · have e1 : cj1 = cj + 1 := by have := NX.out; simpa using this
        clear NX
        go_wp2
        go_roundw
        case rel => exact ⟨j + 1, by omega, by have := HC1.out; go_num, by go_num, N1⟩
        case measure => simp [intOf]; omega
    · have e : j = (b - a).toNat := by omega
      have R : Hid (BtP (M.cnt (M.wkd f.week f.hol) a (b - a).toNat) w (.returned (.int .i64 (M.cnt (M.wkd f.week f.hol) a j : Nat))) wr) := ⟨by rw [e], BW.out⟩
      clear e
      generalize M.cnt (M.wkd f.week f.hol) a j = cj at *
      go_wp2
      go_ret
      exact R.out

end Go.Proofs.YtmofidaojmiepaaDoor

/-
  THE WALKS: docketkeep's plain, dueRight.
-/
set_option linter.unusedVariables false
set_option linter.unusedSimpArgs false
namespace Go.Proofs.YtmofidaojmiepaaDoor
open Go.RowKit
attribute [local go_sem ↓] Go.wp_at_zero Go.wp_at_succ

set_option maxHeartbeats 1000000 in
theorem kplain_any (kd a b : Int) (w : World) (hk : 2 ≤ kd) (hk' : kd ≤ 8) (ha : -2000000000 ≤ a) (ha' : a ≤ 2000000000) (hb : -2000000000 ≤ b) (hb' : b ≤ 2000000000) :
    Calls Tryd.prog 73 #[.int .i64 kd, .int .i64 a, .int .i64 b] w fun e w' => e = .returned (.int .i64 (M.two kd a b)) ∧ w' = w := by
  obtain ⟨hm1, hm2⟩ := mul_bd ha ha' hb hb'
  rcases two_cases hk hk' with rfl | rfl | rfl | rfl | rfl | rfl | rfl
  · go_enter Tryd.func73, Tryd.ntmps73
    go_wp2_with (go_at_call 88; refine (kcutTo_any _ _).mono ?_; rintro e w' ⟨rfl, rfl⟩)
    go_ret
    exact ⟨ret_int (by rw [two2]), rfl⟩
  · go_enter Tryd.func73, Tryd.ntmps73
    go_wp2_with (go_at_call 88; refine (kcutTo_any _ _).mono ?_; rintro e w' ⟨rfl, rfl⟩)
    go_ret
    exact ⟨ret_int (by rw [two3]), rfl⟩
  · go_enter Tryd.func73, Tryd.ntmps73
    go_wp2_with (go_at_call 88; refine (kcutTo_any _ _).mono ?_; rintro e w' ⟨rfl, rfl⟩)
    go_ret
    exact ⟨ret_int (by rw [two4]), rfl⟩
  · go_enter Tryd.func73, Tryd.ntmps73
    go_wp2_with (go_at_call 71; refine (knumber_any _ _).mono ?_; rintro e w' ⟨rfl, rfl⟩)
    go_ret
    exact ⟨ret_int (by rw [two7]), rfl⟩
  · go_enter Tryd.func73, Tryd.ntmps73
    go_wp2_with (go_at_call 71; refine (knumber_any _ _).mono ?_; rintro e w' ⟨rfl, rfl⟩)
    go_ret
    exact ⟨ret_int (by rw [two8]), rfl⟩
  · go_enter Tryd.func73, Tryd.ntmps73
    go_wp2
    all_goals go_ret
    all_goals exact ⟨ret_int (by rw [two5]; unfold M.minv; split <;> omega), rfl⟩
  · go_enter Tryd.func73, Tryd.ntmps73
    go_wp2
    all_goals go_ret
    all_goals exact ⟨ret_int (by rw [two6]; unfold M.maxv; split <;> omega), rfl⟩

/-- What is due, and what is cut. -/
theorem due_says {week : Int} {hol : List Int} {x T : Int} {k : Nat} (x0 : -2000000000 ≤ x) (x1 : x ≤ 2000000000) (h : M.IsDue (M.wkd week hol) (x / 86400) k T) :
    (M.cutv (T * 86400) = 2000000000 ∧ M.cnt (M.wkd week hol) (x / 86400) (23148 - x / 86400).toNat < k) ∨ (M.cutv (T * 86400) = -2000000000 ∧ k = 0 ∧ x / 86400 = -23149)
    ∨ (M.cutv (T * 86400) = T * 86400 ∧ -23148 ≤ T ∧ T ≤ 23148 ∧ x / 86400 ≤ T ∧ (k = 0 → T = x / 86400) ∧ (k ≠ 0 → M.cnt (M.wkd week hol) (x / 86400) (T - x / 86400).toNat = k ∧ M.wkd week hol T = true)) := by
  obtain ⟨n, rfl, h1, h2⟩ := h
  have xd : -23149 ≤ x / 86400 ∧ x / 86400 ≤ 23148 := by omega
  generalize x / 86400 = d at *
  by_cases c1 : 2000000000 < (d + n) * 86400
  · refine Or.inl ⟨by unfold M.cutv; rw [if_pos c1], ?_⟩
    have hn : 23148 < d + n := by omega
    rcases h2 with h2 | h2
    · omega
    · obtain ⟨m, rfl⟩ : ∃ m, n = m + 1 := ⟨n - 1, by omega⟩
      have hm := M.cnt_mono (M.wkd week hol) d (n := (23148 - d).toNat) (m := m) (by omega)
      have e : M.cnt (M.wkd week hol) d (m + 1) = M.cnt (M.wkd week hol) d m + 1 := by
        simp only [M.cnt]
        rw [if_pos h2]
      omega
  · by_cases c2 : (d + n) * 86400 < -2000000000
    · refine Or.inr (Or.inl ⟨by unfold M.cutv; rw [if_neg c1, if_pos c2], ?_, by omega⟩)
      have : n = 0 := by omega
      subst this
      exact h1.symm
    · refine Or.inr (Or.inr ⟨by unfold M.cutv; rw [if_neg c1, if_neg c2], by omega, by omega, by omega, fun hk => ?_, fun hk => ?_⟩)
      · rcases h2 with h2 | h2
        · omega
        · rcases Nat.eq_zero_or_pos n with e | e
          · omega
          · obtain ⟨m, rfl⟩ : ∃ m, n = m + 1 := ⟨n - 1, by omega⟩
            have e : M.cnt (M.wkd week hol) d (m + 1) = M.cnt (M.wkd week hol) d m + 1 := by
              simp only [M.cnt]
              rw [if_pos h2]
            omega
      · have e : (d + (n : Int) - d).toNat = n := by omega
        rw [e]
        refine ⟨h1, ?_⟩
        rcases h2 with h2 | h2
        · subst h2
          exact (hk h1.symm).elim
        · exact h2

set_option maxRecDepth 100000 in
set_option maxHeartbeats 2000000 in
theorem kdueRight_any {f : Frm} (hf : f.Ok) {fv : Value} {w : World} (hfv : FAt w f fv) (x T k : Int) (x0 : -2000000000 ≤ x) (x1 : x ≤ 2000000000) (k0 : 0 ≤ k) (k1 : k ≤ 250) (hd : M.IsDue (M.wkd f.week f.hol) (x / 86400) k.toNat T) :
    Calls Tryd.prog 72 #[fv, .int .i64 (M.cutv (T * 86400)), .int .i64 x, .int .i64 k] w fun e w' => TPost w e w' := by
  have FV := hid hfv
  have HF := hid hf
  have DX := hid (fun W => kdayOf_any x W x0 x1)
  have sd := due_says x0 x1 hd
  obtain ⟨aC, cC, aR, cR, aH, cH, rfl, _, _, _⟩ := hfv
  have BX := hid (Below.refl (w.heap.size + 1) (w.alloc (.cells #[.slice aC f.n cC, .slice aR f.k cR, .int .i64 f.week, .slice aH f.hol.length cH] 26)))
  have BW := hid (boxed_below BX.out)
  have g0 : (w.alloc (.cells #[.slice aC f.n cC, .slice aR f.k cR, .int .i64 f.week, .slice aH f.hol.length cH] 26)).cell? ⟨w.heap.size, 0, none⟩ = some (.slice aC f.n cC) := boxed BX.out 0
  have g1 : (w.alloc (.cells #[.slice aC f.n cC, .slice aR f.k cR, .int .i64 f.week, .slice aH f.hol.length cH] 26)).cell? ⟨w.heap.size, 1, none⟩ = some (.slice aR f.k cR) := boxed BX.out 1
  have g2 : (w.alloc (.cells #[.slice aC f.n cC, .slice aR f.k cR, .int .i64 f.week, .slice aH f.hol.length cH] 26)).cell? ⟨w.heap.size, 2, none⟩ = some (.int .i64 f.week) := boxed BX.out 2
  have g3 : (w.alloc (.cells #[.slice aC f.n cC, .slice aR f.k cR, .int .i64 f.week, .slice aH f.hol.length cH] 26)).cell? ⟨w.heap.size, 3, none⟩ = some (.slice aH f.hol.length cH) := boxed BX.out 3
  have zg : w.heap.size < (w.alloc (.cells #[.slice aC f.n cC, .slice aR f.k cR, .int .i64 f.week, .slice aH f.hol.length cH] 26)).heap.size := by simp
  have BT := hid (fun a b h1 h2 h3 h4 W (hW : Below w.heap.size w W) => kbetween_any HF.out (FV.out.below hW) a b h1 h2 h3 h4)
  have WK := hid (fun d h1 h2 W (hW : Below w.heap.size w W) => kworks_any HF.out (FV.out.below hW) d h1 h2)
  have xd : -23149 ≤ x / 86400 ∧ x / 86400 ≤ 23148 := by omega
  clear hf hd
  generalize M.cutv (T * 86400) = v at *
  generalize x / 86400 = fr at *
  go_enter Tryd.func72, Tryd.ntmps72
  go_upto_region 1 with (fail)
  generalize w.alloc (.cells #[.slice aC f.n cC, .slice aR f.k cR, .int .i64 f.week, .slice aH f.hol.length cH] 26) = wB at *
  go_wp2_with fail
  refine (DX.out _).mono ?_
  rintro e w' ⟨rfl, hw⟩
  rw [hw]
  clear hw w' DX
  rcases sd with ⟨rfl, hn⟩ | ⟨rfl, hk, hfr⟩ | ⟨hv, t0, t1, t2, hk0, hk1⟩
  · have DV := hid (fun W => kdayOf_any 2000000000 W (by omega) (by omega))
    rw [show (2000000000 : Int) / 86400 = 23148 by decide] at DV
    have hn' : ((M.cnt (M.wkd f.week f.hol) fr (23148 - fr).toNat : Nat) : Int) < k := by omega
    have BB := hid (BT.out fr 23148 (by omega) (by omega) (by omega) (by omega) wB BW.out)
    clear hn BT WK
    generalize M.cnt (M.wkd f.week f.hol) fr (23148 - fr).toNat = cn at *
    go_wp2_with fail
    refine (DV.out _).mono ?_
    rintro e w' ⟨rfl, hw⟩
    rw [hw]
    clear hw w' DV
    go_wp2_with fail
    refine BB.out.mono ?_
    rintro e w2 ⟨rfl, hb2⟩
    have R : Hid (TPost w (.returned (.bool true)) w2) := ⟨rfl, BW.out.trans (hb2.mono BW.out.size)⟩
    clear hb2
    go_wp2
    go_ret
    exact R.out
  · have DV := hid (fun W => kdayOf_any (-2000000000) W (by omega) (by omega))
    rw [show (-2000000000 : Int) / 86400 = -23149 by decide] at DV
    have ek : k = 0 := by omega
    subst ek hfr
    have R : Hid (TPost w (.returned (.bool true)) wB) := ⟨rfl, BW.out⟩
    go_wp2_with fail
    refine (DV.out _).mono ?_
    rintro e w' ⟨rfl, hw⟩
    rw [hw]
    clear hw w' DV
    go_wp2
    go_ret
    exact R.out
  · have hv2 : v ≠ 2000000000 ∧ v ≠ -2000000000 := by omega
    have d1 : (v == 2000000000) = false := beq_eq_false_iff_ne.2 hv2.1
    have d2 : (v == -2000000000) = false := beq_eq_false_iff_ne.2 hv2.2
    have DV := hid (fun W => kdayOf_any v W (by omega) (by omega))
    rw [show v / 86400 = T by omega] at DV
    have HV := hid hv
    have HK0 := hid hk0
    have HK1 := hid hk1
    have d3 : (T * 86400 != v) = false := by simp [hv]
    have d4 : ¬ (T < fr) := by omega
    clear hv hk0 hk1 hv2
    go_wp2_with fail
    refine (DV.out _).mono ?_
    rintro e w' ⟨rfl, hw⟩
    rw [hw]
    clear hw w' DV
    by_cases hk : k = 0
    · have e := HK0.out (by omega)
      subst hk e
      have R : Hid (TPost w (.returned (.bool true)) wB) := ⟨rfl, BW.out⟩
      clear HK0 HK1 BT WK
      go_wp2
      go_ret
      exact R.out
    · obtain ⟨c1, c2⟩ := HK1.out (by omega)
      have BB := hid (BT.out fr T (by omega) (by omega) (by omega) (by omega) wB BW.out)
      have WW := hid (fun W hW => WK.out T (by omega) (by omega) W hW)
      rw [c1] at BB
      rw [c2] at WW
      have kk : ((k.toNat : Nat) : Int) = k := by omega
      have dk : (k == 0) = false := beq_eq_false_iff_ne.2 hk
      unfold BtP at BB
      rw [kk] at BB
      clear c1 c2 BT WK HK0 HK1 kk hk
      go_wp2_with fail
      refine BB.out.mono ?_
      rintro e w2 ⟨rfl, hb2⟩
      have B2 := hid (BW.out.trans (hb2.mono BW.out.size))
      have g0 := (hb2.cell (p := ⟨w.heap.size, 0, none⟩) zg).trans g0
      have g1 := (hb2.cell (p := ⟨w.heap.size, 1, none⟩) zg).trans g1
      have g2 := (hb2.cell (p := ⟨w.heap.size, 2, none⟩) zg).trans g2
      have g3 := (hb2.cell (p := ⟨w.heap.size, 3, none⟩) zg).trans g3
      clear hb2 BB
      go_wp2_with fail
      refine (WW.out _ B2.out).mono ?_
      rintro e w3 ⟨rfl, hb3⟩
      have R : Hid (TPost w (.returned (.bool true)) w3) := ⟨rfl, B2.out.trans (hb3.mono B2.out.size)⟩
      clear hb3
      go_wp2
      go_ret
      exact R.out

end Go.Proofs.YtmofidaojmiepaaDoor
