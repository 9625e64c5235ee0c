/-
  SEVERAL CASES: their calls, the rooms of their logs left unsaid.
-/
import Derived.Test.YtmofidaojmiepaaDoorGE18
import Derived.BigQuiet
import Derived.Test.YtmofidaojmiepaaDoorGE5
import Derived.BigRegion
import Derived.Deep.RegionLaw
import Derived.Deep.DeepCutAuto
import Derived.Deep.CutBlock
set_option linter.unusedVariables false
set_option linter.unusedSimpArgs false
namespace Go.Proofs.YtmofidaojmiepaaDoor
open Go.RowKit
attribute [local go_sem ↓] Go.wp_at_zero Go.wp_at_succ

/-- Four things by name. -/
def q4 {α : Type} (A B C D : α) : Nat → α
  | 0 => A
  | 1 => B
  | 2 => C
  | _ => D
section
variable {α : Type} (A B C D X : α)
theorem q4_0 : upd (q4 A B C D) 0 X = q4 X B C D := by
  funext i
  match i with
  | 0 => exact upd_same _ _ _
  | 1 => exact upd_other _ _ (by omega)
  | 2 => exact upd_other _ _ (by omega)
  | n + 3 => exact upd_other _ _ (by omega)
theorem q4_1 : upd (q4 A B C D) 1 X = q4 A X C D := by
  funext i
  match i with
  | 0 => exact upd_other _ _ (by omega)
  | 1 => exact upd_same _ _ _
  | 2 => exact upd_other _ _ (by omega)
  | n + 3 => exact upd_other _ _ (by omega)
theorem q4_2 : upd (q4 A B C D) 2 X = q4 A B X D := by
  funext i
  match i with
  | 0 => exact upd_other _ _ (by omega)
  | 1 => exact upd_other _ _ (by omega)
  | 2 => exact upd_same _ _ _
  | n + 3 => exact upd_other _ _ (by omega)
theorem q4_3 (i : Nat) (hi : i < 4) : upd (q4 A B C D) 3 X i = q4 A B C X i := by
  have : i = 0 ∨ i = 1 ∨ i = 2 ∨ i = 3 := by omega
  rcases this with rfl | rfl | rfl | rfl
  · exact upd_other _ _ (by omega)
  · exact upd_other _ _ (by omega)
  · exact upd_other _ _ (by omega)
  · exact upd_same _ _ _
end

/-- Of a case: what it stands on, its places, its form. -/
structure KS where
  Q : Nat → Prop
  p : KPl
  f : Frm

/-- Cases, and blocks that are nobody's. -/
def CN (Z : Nat → Prop) (b np : Nat) (K : Nat → KS) (M : Nat → Cs) (w : World) : Prop := ∃ V : Nat → Value, LS Z b np (fun i => ⟨(K i).Q, (K i).p, V i, (K i).f, M i⟩) w
def CNP (r : Value) (Z : Nat → Prop) (b np : Nat) (K : Nat → KS) (M : Nat → Cs) (w : World) (e : Ending) (w' : World) : Prop := e = .returned r ∧ CN Z b np K M w' ∧ StZ Z w w'
def CNA (Z : Nat → Prop) (b np : Nat) (K : Nat → KS) (M : Nat → Cs) (f : Frm) (m : Cs) (w : World) (e : Ending) (w' : World) : Prop := ∃ Q p, e = .returned (.pointer (some ⟨p.bp, 0, none⟩)) ∧ CN Z b (np + 1) (upd K np ⟨Q, p, f⟩) (upd M np m) w' ∧ StZ Z w w'

section
variable {Z : Nat → Prop} {b np : Nat} {K : Nat → KS} {M : Nat → Cs} {w w' : World}

theorem CNP.of {r : Value} {b' i : Nat} {m' : Cs} {V : Nat → Value} {e : Ending} (g : LsC r Z b' np (fun i => ⟨(K i).Q, (K i).p, V i, (K i).f, M i⟩) i m' w e w') : CNP r Z b' np K (upd M i m') w e w' := by
  obtain ⟨g0, v', g1, g2⟩ := g
  refine ⟨g0, ⟨upd V i v', g1.congr (fun j hj => ?_)⟩, g2⟩
  by_cases e : j = i
  · subst e
    rw [upd_same, upd_same, upd_same]
  · rw [upd_other _ _ e, upd_other _ _ e, upd_other _ _ e]
theorem CNA.of {b' : Nat} {f : Frm} {m' : Cs} {V : Nat → Value} {e : Ending} (g : LsA Z b' np (fun i => ⟨(K i).Q, (K i).p, V i, (K i).f, M i⟩) f m' w e w') : CNA Z b' np K M f m' w e w' := by
  obtain ⟨Q, p, v, g0, g1, g2⟩ := g
  refine ⟨Q, p, g0, ⟨upd V np v, g1.congr (fun j hj => ?_)⟩, g2⟩
  by_cases e : j = np
  · subst e
    rw [upd_same, upd_same, upd_same, upd_same]
  · rw [upd_other _ _ e, upd_other _ _ e, upd_other _ _ e, upd_other _ _ e]
theorem CN.congr (h : CN Z b np K M w) {K' : Nat → KS} {M' : Nat → Cs} (hK : ∀ i, i < np → K i = K' i) (hM : ∀ i, i < np → M i = M' i) : CN Z b np K' M' w := by
  obtain ⟨V, h⟩ := h
  exact ⟨V, h.congr (fun i hi => by rw [hK i hi, hM i hi])⟩
theorem CN.start (ht : Tab w) (K : Nat → KS) (M : Nat → Cs) (b : Nat) : CN (fun j => j < w.heap.size) b 0 K M w := ⟨fun _ => .bool false, LS.start ht _ b⟩
theorem CN.lt (h : CN Z b np K M w) : ∀ j, Z j → j < w.heap.size := by obtain ⟨v, h⟩ := h; exact h.lt
theorem CN.drop (h : CN Z b np K M w) (hb : Below w.heap.size w w') : CN (zup Z w w') b np K M w' := by obtain ⟨v, h⟩ := h; exact ⟨v, h.drop hb⟩
theorem CN.less (h : CN Z b np K M w) {Z' : Nat → Prop} (hz : ∀ j, Z' j → Z j) : CN Z' b np K M w := by obtain ⟨v, h⟩ := h; exact ⟨v, h.less hz⟩
theorem CN.keep (h : CN Z b np K M w) (hb : Below w.heap.size w w') : CN Z b np K M w' := by obtain ⟨v, h⟩ := h; exact ⟨v, h.keep hb⟩
theorem CN.up (h : CN Z b np K M w) {b2 : Nat} (hb : b ≤ b2) : CN Z b2 np K M w := by obtain ⟨v, h⟩ := h; exact ⟨v, h.up hb⟩
theorem CN.fok (h : CN Z b np K M w) {i : Nat} (hi : i < np) : (K i).f.Ok := by obtain ⟨v, h⟩ := h; exact h.fok hi
theorem CN.mok (h : CN Z b np K M w) {i : Nat} (hi : i < np) : (M i).Ok (K i).f := by obtain ⟨v, h⟩ := h; exact h.mok hi
theorem CN.len (h : CN Z b np K M w) {i : Nat} (hi : i < np) (hb : b ≤ 10000000000) : (M i).E.length ≤ 999999999000 := by obtain ⟨v, h⟩ := h; exact h.len hi hb
theorem CN.qlt (h : CN Z b np K M w) {i : Nat} (hi : i < np) : ∀ j, (K i).Q j → j < w.heap.size := by obtain ⟨v, h⟩ := h; exact h.qlt hi

theorem cnopened (h : CN Z b np K M w) (hb : 1 ≤ b) {f : Frm} (hf : f.Ok) {fv : Value} (hfv : FAt w f fv) : Calls Tryd.prog 13 #[fv] w fun e w' => CNA Z b np K M f (beginM f) w e w' := by
  obtain ⟨v, h⟩ := h
  exact (lopened h hb hf hfv).mono (fun _ _ g => CNA.of g)
theorem cnbegun (h : CN Z b np K M w) {w0 : World} (hw0 : Below w0.heap.size w0 w) (hz : ∀ j, j < w0.heap.size → Z j) {f : Frm} (hf : f.Ok) {fv : Value} (hfv : FAt w0 f fv) {aS : Option Addr} {m cS : Nat} {S : Nat → StK} (hsc : ScK w0 aS m S) (hm : m ≤ 1048576) (hb1 : 1 ≤ b) (hbb : b ≤ 8000000000) (at' : Int) (ha0 : 0 ≤ at') (ha1 : at' ≤ 1000000000) :
    Calls Tryd.prog 28 #[fv, .slice aS m cS, .int .i64 at'] w fun e w' => CNA Z (b + m) np K M f (advM f (fillM f S m) at') w e w' := by
  obtain ⟨v, h⟩ := h
  exact (lbegun h hw0 hz hf hfv hsc hm hb1 hbb at' ha0 ha1).mono (fun _ _ g => CNA.of g)
theorem cnfork (h : CN Z b np K M w) {i : Nat} (hi : i < np) (hb : b ≤ 10000000000) : Calls Tryd.prog 36 #[.pointer (some ⟨(K i).p.bp, 0, none⟩)] w fun e w' => CNA Z b np K M (K i).f (M i) w e w' := by
  obtain ⟨v, h⟩ := h
  exact (lfork h hi hb).mono (fun _ _ g => CNA.of g)
theorem cnset (h : CN Z b np K M w) {i : Nat} (hi : i < np) (hb : b ≤ 10000000000) (c v : Int) : Calls Tryd.prog 18 #[.pointer (some ⟨(K i).p.bp, 0, none⟩), .int .i64 c, .int .i64 v] w fun e w' => CNP (.int .i64 (setNo (K i).f (M i) c v)) Z (b + 1) np K (upd M i (setM (K i).f (M i) c v)) w e w' := by
  obtain ⟨v', h⟩ := h
  exact (lset h hi hb c v).mono (fun _ _ g => CNP.of g)
theorem cnadv (h : CN Z b np K M w) {i : Nat} (hi : i < np) (hb : b ≤ 10000000000) (tq : Int) : Calls Tryd.prog 20 #[.pointer (some ⟨(K i).p.bp, 0, none⟩), .int .i64 tq] w fun e w' => CNP (.int .i64 (advAns (M i).T tq)) Z b np K (upd M i (advM (K i).f (M i) tq)) w e w' := by
  obtain ⟨v', h⟩ := h
  exact (ladv h hi hb tq).mono (fun _ _ g => CNP.of g)
theorem cnlook (h : CN Z b np K M w) {i : Nat} (hi : i < np) (hb : b ≤ 10000000000) {fv : Value} (hfv : FAt w (K i).f fv) : Calls Tryd.prog 23 #[.pointer (some ⟨(K i).p.bp, 0, none⟩), fv] w fun e w' => LoP (K i).f (M i) w e w' := by
  obtain ⟨v, h⟩ := h
  exact llook h hi hb hfv
theorem cnplay (h : CN Z b np K M w) {w0 : World} (hw0 : Below w0.heap.size w0 w) (hz : ∀ j, j < w0.heap.size → Z j) {f : Frm} {fv : Value} (hfv : FAt w0 f fv) {aS : Option Addr} {m cS : Nat} {S : Nat → StK} (hsc : ScK w0 aS m S) {i : Nat} (hi : i < np) (hfi : (K i).f = f) (hop : (M i).op = true) (hm : m ≤ 1048576) (hbb : b ≤ 8000000000) :
    Calls Tryd.prog 35 #[.pointer (some ⟨(K i).p.bp, 0, none⟩), fv, .slice aS m cS] w fun e w' => CNP (.bool true) Z (b + m) np K (upd M i (playM f (M i) S m)) w e w' := by
  obtain ⟨v, h⟩ := h
  exact (lplay h hw0 hz hfv hsc hi hfi hop hm hbb).mono (fun _ _ g => CNP.of g)
theorem cnone (h : CN Z b np K M w) {f : Frm} {fv : Value} (hfv : FAt w f fv) {i : Nat} (hi : i < np) (hfi : (K i).f = f) (hop : (M i).op = true) (hbb : b ≤ 9000000000) (kd a b' : Int) (h0 : I64k kd) (h1 : I64k a) (h2 : I64k b') :
    Calls Tryd.prog 37 #[.pointer (some ⟨(K i).p.bp, 0, none⟩), fv, .agg #[.int .i64 kd, .int .i64 a, .int .i64 b']] w fun e w' => CNP (.bool true) Z (b + 1) np K (upd M i (oneM f (M i) kd a b')) w e w' := by
  obtain ⟨v, h⟩ := h
  exact (lone h hfv hi hfi hop hbb kd a b' h0 h1 h2).mono (fun _ _ g => CNP.of g)

/-- A store into a block that is nobody's, and that no case stands on. -/
theorem CN.store (h : CN Z b np K M w) {g : Nat} (hg : Z g) (hq : ∀ i, i < np → ¬ (K i).Q g) (hg0 : g ≠ 0) (hs : w.heap.size ≤ w'.heap.size) (hb : ∀ j, j < w.heap.size → j ≠ g → w'.heap[j]? = w.heap[j]?) : CN Z b np K M w' := by
  obtain ⟨V, tag, h1, h2⟩ := h
  refine ⟨V, ntag tag w.heap.size 0, ⟨fun i hi => ?_, fun i hi j hj => ?_, fun i hi j hj => ?_, h1.kok, h1.fok, ⟨by have := h1.tab.1; omega, fun q hq' => ?_⟩, ?_⟩, fun j hj => ?_⟩
  · refine KSt.move (h1.kst i hi) hs (fun j hj => ?_)
    rcases hj with hj | hj
    · exact hb j (KSt.qlt (h1.kst i hi) j hj) (fun e => hq i hi (e ▸ hj))
    · refine hb j (KSt.own_lt (h1.kst i hi) j hj) (fun e => ?_)
      have t1 := h1.kown i hi j hj
      rw [e, (h2 g hg).2] at t1
      omega
  · rw [ntag_old (KSt.own_lt (h1.kst i hi) j hj)]; exact h1.kown i hi j hj
  · rw [ntag_old (KSt.qlt (h1.kst i hi) j hj)]; exact h1.kq i hi j hj
  · have := h1.tab.2 q hq'
    have e : w'.heap[0]? = w.heap[0]? := hb 0 h1.tab.1 (fun e => hg0 e.symm)
    unfold World.cell? at this ⊢
    rw [e]
    exact this
  · rw [ntag_old h1.tab.1]; exact h1.t0
  · obtain ⟨a, c⟩ := h2 j hj
    exact ⟨by omega, by rw [ntag_old a]; exact c⟩
end

end Go.Proofs.YtmofidaojmiepaaDoor

/-
  THE WALKS: docketkeep's cutTo, dayOf, works, between, number, plain.
-/
set_option linter.unusedVariables false
set_option linter.unusedSimpArgs false
namespace Go.Proofs.YtmofidaojmiepaaDoor
open Go.RowKit
attribute [local go_sem ↓] Go.wp_at_zero Go.wp_at_succ

set_option maxHeartbeats 400000 in
theorem kcutTo_any (v : Int) (w : World) : Calls Tryd.prog 88 #[.int .i64 v] w fun e w' => e = .returned (.int .i64 (M.cutv v)) ∧ w' = w := by
  go_enter Tryd.func88, Tryd.ntmps88
  go_wp2
  all_goals go_ret
  all_goals exact ⟨ret_int (by unfold M.cutv; repeat' split
                               all_goals omega), rfl⟩

set_option maxHeartbeats 400000 in
theorem knumber_any (b : Bool) (w : World) : Calls Tryd.prog 71 #[.bool b] w fun e w' => e = .returned (.int .i64 (M.num b)) ∧ w' = w := by
  cases b <;> (go_enter Tryd.func71, Tryd.ntmps71; go_wp2; go_ret; exact ⟨rfl, rfl⟩)

theorem tdiv_day {v : Int} : (v.tdiv 86400 * 86400 > v → v / 86400 = v.tdiv 86400 - 1) ∧ (¬ v.tdiv 86400 * 86400 > v → v / 86400 = v.tdiv 86400) := by
  by_cases h : 0 ≤ v
  · have e : v.tdiv 86400 = v / 86400 := Int.tdiv_eq_ediv_of_nonneg h
    omega
  · have e : v.tdiv 86400 = -((-v) / 86400) := by
      have h1 : v.tdiv 86400 = -((-v).tdiv 86400) := by rw [Int.neg_tdiv, Int.neg_neg]
      rw [h1, Int.tdiv_eq_ediv_of_nonneg (by omega)]
    omega
theorem tdiv_bd {v : Int} (h0 : -2000000000 ≤ v) (h1 : v ≤ 2000000000) : -30000 ≤ v.tdiv 86400 ∧ v.tdiv 86400 ≤ 30000 := by
  have h := tdiv_day (v := v)
  by_cases c : v.tdiv 86400 * 86400 > v
  · have := h.1 c; omega
  · have := h.2 c; omega

set_option maxHeartbeats 400000 in
theorem kdayOf_any (v : Int) (w : World) (hv : -2000000000 ≤ v) (hv' : v ≤ 2000000000) : Calls Tryd.prog 85 #[.int .i64 v] w fun e w' => e = .returned (.int .i64 (v / 86400)) ∧ w' = w := by
  obtain ⟨b0, b1⟩ := tdiv_bd hv hv'
  obtain ⟨t1, t2⟩ := tdiv_day (v := v)
  have T1 := hid t1
  have T2 := hid t2
  clear t1 t2
  by_cases c : v < v.tdiv 86400 * 86400
  · have e := T1.out c
    rw [e]
    clear e T1 T2
    go_enter Tryd.func85, Tryd.ntmps85
    go_wp2
    go_ret
    simp
  · have e := T2.out (by omega)
    rw [e]
    clear e T1 T2
    go_enter Tryd.func85, Tryd.ntmps85
    go_wp2
    go_ret
    simp

theorem kwork_eq {week : Int} (h1 : 0 ≤ week) (h2 : week ≤ 127) (d : Int) : (bits BinOp.and IntKind.i64 (week / 2 ^ (d % 7).toNat) 1 == 1) = M.atw week d := atWork_eq h1 h2 d rfl rfl

def WkP (r : Bool) (w : World) (e : Ending) (w' : World) : Prop := e = .returned (.bool r) ∧ Below w.heap.size w w'

set_option maxRecDepth 100000 in
set_option maxHeartbeats 1000000 in
theorem kworks_any {f : Frm} (hf : f.Ok) {fv : Value} {w : World} (hfv : FAt w f fv) (d : Int) (hd : -1000000 ≤ d) (hd' : d ≤ 1000000) : Calls Tryd.prog 87 #[fv, .int .i64 d] w fun e w' => WkP (M.wkd f.week f.hol d) w e w' := by
  obtain ⟨_, _, _, w1, w2⟩ := hf.sizes
  have hl := hf.hol.1
  obtain ⟨aC, cC, aR, cR, aH, cH, rfl, _, _, h3⟩ := hfv
  have HC := hid (IntsAt.cases h3)
  have hq := kwork_eq (by omega) w2 d
  have BX := hid (Below.refl (w.heap.size + 1) (w.alloc (.cells #[.slice aC f.n cC, .slice aR f.k cR, .int .i64 f.week, .slice aH f.hol.length cH] 26)))
  have BW := hid (boxed_below BX.out)
  have g2 : (w.alloc (.cells #[.slice aC f.n cC, .slice aR f.k cR, .int .i64 f.week, .slice aH f.hol.length cH] 26)).cell? ⟨w.heap.size, 2, none⟩ = some (.int .i64 f.week) := boxed BX.out 2
  have g3 : (w.alloc (.cells #[.slice aC f.n cC, .slice aR f.k cR, .int .i64 f.week, .slice aH f.hol.length cH] 26)).cell? ⟨w.heap.size, 3, none⟩ = some (.slice aH f.hol.length cH) := boxed BX.out 3
  have NO : Hid (∀ k, k < f.hol.length → f.hol.getD k 0 = d → M.wkd f.week f.hol d = false) := fun k hk e => wkd_no hk e
  have YES : Hid ((∀ i : Nat, i < f.hol.length → f.hol.getD i 0 ≠ d) → M.wkd f.week f.hol d = M.atw f.week d) := fun h => by
    have : f.hol.contains d = false := by
      rw [Bool.eq_false_iff]; intro hc
      obtain ⟨i, hi, e⟩ := List.mem_iff_getElem.1 (List.contains_iff_mem.1 hc)
      exact h i hi (by simp [List.getD, hi, e])
    simp only [M.wkd, this]; simp
  have m1 : d.tmod 7 < 0 → d.tmod 7 + 7 = d % 7 := fun h => M.mod_neg (by omega) h
  have m2 : ¬ d.tmod 7 < 0 → d.tmod 7 = d % 7 := fun h => M.mod_pos (by omega) (by omega)
  have s2 : (0 ≤ d % 7 ∧ d % 7 < 7) := by omega
  generalize M.wkd f.week f.hol d = rr at *
  generalize M.atw f.week d = ra at *
  generalize f.week = wk at *
  have M1 := hid m1
  have M2 := hid m2
  clear m1 m2 h3 hf
  go_enter Tryd.func87, Tryd.ntmps87
  go_upto_region 1 with (fail)
  generalize w.alloc (.cells #[.slice aC f.n cC, .slice aR f.k cR, .int .i64 wk, .slice aH f.hol.length cH] 26) = wB at *
  by_cases hneg : d.tmod 7 < 0
  all_goals (
    first | (have e := M1.out hneg) | (have e := M2.out hneg)
    clear M1 M2
    go_upto_region 4 with (fail)
    clear e hneg
    generalize d % 7 = dm at *
    go_wp2_with fail
    go_loop [6] (fun t => ∃ k : Nat, k ≤ f.hol.length ∧ t = .int .i64 k ∧ Hid (∀ i : Nat, i < k → f.hol.getD i 0 ≠ d)) (fun t => f.hol.length - (intOf t).toNat)
    case atStart => exact ⟨0, by omega, rfl, fun i hi => by omega⟩
    case round =>
      obtain ⟨k, k1, rfl, hk⟩ := hrel
      by_cases hlt : k < f.hol.length
      · have lt' : (k : Int) < (f.hol.length : Int) := by omega
        rcases HC.out with h0 | ⟨b, off, rfl, hb, hcell⟩
        · omega
        have hx := (BW.out.cell (p := ⟨b, off + k, none⟩) hb).trans (hcell k hlt)
        by_cases e : f.hol.getD k 0 = d
        · have R : Hid (WkP rr w (.returned (.bool false)) wB) := ⟨by rw [NO.out k hlt e], BW.out⟩
          rw [e] at hx
          clear hcell e
          go_wp2
          go_ret
          exact R.out
        · have A : Hid (∀ i : Nat, i < k + 1 → f.hol.getD i 0 ≠ d) := fun i hi => by
            by_cases c : i = k
            · subst c; exact e
            · exact hk.out i (by omega)
          have de : (f.hol.getD k 0 == d) = false := beq_eq_false_iff_ne.2 e
          clear hcell e
          generalize f.hol.getD k 0 = hx' at hx de
          go_wp2
          go_round
          case rel => exact ⟨k + 1, by omega, by go_num, A⟩
          case measure => simp [intOf]; omega
      · have R : Hid (WkP rr w (.returned (.bool ra)) wB) := ⟨by rw [YES.out (fun i hi => hk.out i (by omega))], BW.out⟩
        go_wp2
        go_ret
        exact R.out)

theorem mcnt_le (p : Int → Bool) (d : Int) : ∀ n : Nat, M.cnt p d n ≤ n
  | 0 => Nat.le_refl _
  | n + 1 => by
    have := mcnt_le p d n
    simp only [M.cnt]
    split <;> omega

def BtP (r : Nat) (w : World) (e : Ending) (w' : World) : Prop := e = .returned (.int .i64 r) ∧ Below w.heap.size w w'

set_option maxRecDepth 100000 in
set_option maxHeartbeats 1000000 in
theorem kbetween_any {f : Frm} (hf : f.Ok) {fv : Value} {w : World} (hfv : FAt w f fv) (a b : Int) (ha : -30000 ≤ a) (ha' : a ≤ 30000) (hb : -30000 ≤ b) (hb' : b ≤ 30000) : Calls Tryd.prog 86 #[fv, .int .i64 a, .int .i64 b] w fun e w' => BtP (M.cnt (M.wkd f.week f.hol) a (b - a).toNat) w e w' := by
  have HF := hid hf
  have FV := hid hfv
  obtain ⟨aC, cC, aR, cR, aH, cH, rfl, _, _, _⟩ := hfv
  have BX := hid (Below.refl (w.heap.size + 1) (w.alloc (.cells #[.slice aC f.n cC, .slice aR f.k cR, .int .i64 f.week, .slice aH f.hol.length cH] 26)))
  clear hf
  go_enter Tryd.func86, Tryd.ntmps86
  go_wp2_with fail
  go_loopw [7, 8] (fun tn td wr => ∃ j : Nat, j ≤ (b - a).toNat ∧ tn = .int .i64 (M.cnt (M.wkd f.week f.hol) a j : Nat) ∧ td = .int .i64 (a + 1 + j) ∧ Hid (Below (w.heap.size + 1) (w.alloc (.cells #[.slice aC f.n cC, .slice aR f.k cR, .int .i64 f.week, .slice aH f.hol.length cH] 26)) wr)) (fun _ td _ => (b + 1 - intOf td).toNat)
  case atStart => exact ⟨0, by omega, rfl, by go_num, BX⟩
  case round =>
    clear BX
    obtain ⟨j, j1, rfl, rfl, hbx⟩ := hrel
    have BW := hid (boxed_below hbx.out)
    have x0 := boxed hbx.out 0
    have x1 := boxed hbx.out 1
    have x2 := boxed hbx.out 2
    have x3 := boxed hbx.out 3
    simp at x0 x1 x2 x3
    have cl := mcnt_le (M.wkd f.week f.hol) a j
    by_cases hj : a + 1 + (j : Int) ≤ b
    · have WK := hid (kworks_any HF.out (FV.out.below BW.out) (a + 1 + j) (by omega) (by omega))
      have NX : Hid (M.cnt (M.wkd f.week f.hol) a (j + 1) = M.cnt (M.wkd f.week f.hol) a j + if M.wkd f.week f.hol (a + 1 + j) = true then 1 else 0) := by
        show M.cnt _ _ _ = _
        simp only [M.cnt]
        rw [show a + ((j + 1 : Nat) : Int) = a + 1 + j by omega]
      generalize M.wkd f.week f.hol (a + 1 + j) = rr at *
      generalize M.cnt (M.wkd f.week f.hol) a j = cj at *
      obtain ⟨cj1, hc1⟩ : ∃ c, M.cnt (M.wkd f.week f.hol) a (j + 1) = c := ⟨_, rfl⟩
      rw [hc1] at NX
      have HC1 := hid hc1
      clear hc1
      go_wp2_with fail
      refine WK.out.mono ?_
      rintro e w2 ⟨rfl, hb2⟩
      have N1 := hid (hbx.out.trans (hb2.mono (by have := hbx.out.size; simpa using this)))
      clear hb2 WK hbx BW
      cases rr
      · have e1 : cj1 = cj := by have := NX.out; simpa using this
        subst e1
        clear NX
        go_wp2
        go_roundw
        case rel => exact ⟨j + 1, by omega, by have := HC1.out; go_num, by go_num, N1⟩
        case measure => simp [intOf]; omega
      · have e1 : cj1 = cj + 1 := by have := NX.out; simpa using this
        clear NX
        go_wp2
        go_roundw
        case rel => exact ⟨j + 1, by omega, by have := HC1.out; go_num, by go_num, N1⟩
        case measure => simp [intOf]; omega
    · have e : j = (b - a).toNat := by omega
      have R : Hid (BtP (M.cnt (M.wkd f.week f.hol) a (b - a).toNat) w (.returned (.int .i64 (M.cnt (M.wkd f.week f.hol) a j : Nat))) wr) := ⟨by rw [e], BW.out⟩
      clear e
      generalize M.cnt (M.wkd f.week f.hol) a j = cj at *
      go_wp2
      go_ret
      exact R.out

end Go.Proofs.YtmofidaojmiepaaDoor

/-
  THE WALKS: docketkeep's plain, dueRight.
-/
set_option linter.unusedVariables false
set_option linter.unusedSimpArgs false
namespace Go.Proofs.YtmofidaojmiepaaDoor
open Go.RowKit
attribute [local go_sem ↓] Go.wp_at_zero Go.wp_at_succ

set_option maxHeartbeats 1000000 in
theorem kplain_any (kd a b : Int) (w : World) (hk : 2 ≤ kd) (hk' : kd ≤ 8) (ha : -2000000000 ≤ a) (ha' : a ≤ 2000000000) (hb : -2000000000 ≤ b) (hb' : b ≤ 2000000000) :
    Calls Tryd.prog 73 #[.int .i64 kd, .int .i64 a, .int .i64 b] w fun e w' => e = .returned (.int .i64 (M.two kd a b)) ∧ w' = w := by
  obtain ⟨hm1, hm2⟩ := mul_bd ha ha' hb hb'
  rcases two_cases hk hk' with rfl | rfl | rfl | rfl | rfl | rfl | rfl
  · go_enter Tryd.func73, Tryd.ntmps73
    go_wp2_with (go_at_call 88; refine (kcutTo_any _ _).mono ?_; rintro e w' ⟨rfl, rfl⟩)
    go_ret
    exact ⟨ret_int (by rw [two2]), rfl⟩
  · go_enter Tryd.func73, Tryd.ntmps73
    go_wp2_with (go_at_call 88; refine (kcutTo_any _ _).mono ?_; rintro e w' ⟨rfl, rfl⟩)
    go_ret
    exact ⟨ret_int (by rw [two3]), rfl⟩
  · go_enter Tryd.func73, Tryd.ntmps73
    go_wp2_with (go_at_call 88; refine (kcutTo_any _ _).mono ?_; rintro e w' ⟨rfl, rfl⟩)
    go_ret
    exact ⟨ret_int (by rw [two4]), rfl⟩
  · go_enter Tryd.func73, Tryd.ntmps73
    go_wp2_with (go_at_call 71; refine (knumber_any _ _).mono ?_; rintro e w' ⟨rfl, rfl⟩)
    go_ret
    exact ⟨ret_int (by rw [two7]), rfl⟩
  · go_enter Tryd.func73, Tryd.ntmps73
    go_wp2_with (go_at_call 71; refine (knumber_any _ _).mono ?_; rintro e w' ⟨rfl, rfl⟩)
    go_ret
    exact ⟨ret_int (by rw [two8]), rfl⟩
  · go_enter Tryd.func73, Tryd.ntmps73
    go_wp2
    all_goals go_ret
    all_goals exact ⟨ret_int (by rw [two5]; unfold M.minv; split <;> omega), rfl⟩
  · go_enter Tryd.func73, Tryd.ntmps73
    go_wp2
    all_goals go_ret
    all_goals exact ⟨ret_int (by rw [two6]; unfold M.maxv; split <;> omega), rfl⟩

/-- What is due, and what is cut. -/
theorem due_says {week : Int} {hol : List Int} {x T : Int} {k : Nat} (x0 : -2000000000 ≤ x) (x1 : x ≤ 2000000000) (h : M.IsDue (M.wkd week hol) (x / 86400) k T) :
    (M.cutv (T * 86400) = 2000000000 ∧ M.cnt (M.wkd week hol) (x / 86400) (23148 - x / 86400).toNat < k) ∨ (M.cutv (T * 86400) = -2000000000 ∧ k = 0 ∧ x / 86400 = -23149)
    ∨ (M.cutv (T * 86400) = T * 86400 ∧ -23148 ≤ T ∧ T ≤ 23148 ∧ x / 86400 ≤ T ∧ (k = 0 → T = x / 86400) ∧ (k ≠ 0 → M.cnt (M.wkd week hol) (x / 86400) (T - x / 86400).toNat = k ∧ M.wkd week hol T = true)) := by
  obtain ⟨n, rfl, h1, h2⟩ := h
  have xd : -23149 ≤ x / 86400 ∧ x / 86400 ≤ 23148 := by omega
  generalize x / 86400 = d at *
  by_cases c1 : 2000000000 < (d + n) * 86400
  · refine Or.inl ⟨by unfold M.cutv; rw [if_pos c1], ?_⟩
    have hn : 23148 < d + n := by omega
    rcases h2 with h2 | h2
    · omega
    · obtain ⟨m, rfl⟩ : ∃ m, n = m + 1 := ⟨n - 1, by omega⟩
      have hm := M.cnt_mono (M.wkd week hol) d (n := (23148 - d).toNat) (m := m) (by omega)
      have e : M.cnt (M.wkd week hol) d (m + 1) = M.cnt (M.wkd week hol) d m + 1 := by
        simp only [M.cnt]
        rw [if_pos h2]
      omega
  · by_cases c2 : (d + n) * 86400 < -2000000000
    · refine Or.inr (Or.inl ⟨by unfold M.cutv; rw [if_neg c1, if_pos c2], ?_, by omega⟩)
      have : n = 0 := by omega
      subst this
      exact h1.symm
    · refine Or.inr (Or.inr ⟨by unfold M.cutv; rw [if_neg c1, if_neg c2], by omega, by omega, by omega, fun hk => ?_, fun hk => ?_⟩)
      · rcases h2 with h2 | h2
        · omega
        · rcases Nat.eq_zero_or_pos n with e | e
          · omega
          · obtain ⟨m, rfl⟩ : ∃ m, n = m + 1 := ⟨n - 1, by omega⟩
            have e : M.cnt (M.wkd week hol) d (m + 1) = M.cnt (M.wkd week hol) d m + 1 := by
              simp only [M.cnt]
              rw [if_pos h2]
            omega
      · have e : (d + (n : Int) - d).toNat = n := by omega
        rw [e]
        refine ⟨h1, ?_⟩
        rcases h2 with h2 | h2
        · subst h2
          exact (hk h1.symm).elim
        · exact h2

set_option maxRecDepth 100000 in
set_option maxHeartbeats 2000000 in
theorem kdueRight_any {f : Frm} (hf : f.Ok) {fv : Value} {w : World} (hfv : FAt w f fv) (x T k : Int) (x0 : -2000000000 ≤ x) (x1 : x ≤ 2000000000) (k0 : 0 ≤ k) (k1 : k ≤ 250) (hd : M.IsDue (M.wkd f.week f.hol) (x / 86400) k.toNat T) :
    Calls Tryd.prog 72 #[fv, .int .i64 (M.cutv (T * 86400)), .int .i64 x, .int .i64 k] w fun e w' => TPost w e w' := by
  have FV := hid hfv
  have HF := hid hf
  have DX := hid (fun W => kdayOf_any x W x0 x1)
  have sd := due_says x0 x1 hd
  obtain ⟨aC, cC, aR, cR, aH, cH, rfl, _, _, _⟩ := hfv
  have BX := hid (Below.refl (w.heap.size + 1) (w.alloc (.cells #[.slice aC f.n cC, .slice aR f.k cR, .int .i64 f.week, .slice aH f.hol.length cH] 26)))
  have BW := hid (boxed_below BX.out)
  have g0 : (w.alloc (.cells #[.slice aC f.n cC, .slice aR f.k cR, .int .i64 f.week, .slice aH f.hol.length cH] 26)).cell? ⟨w.heap.size, 0, none⟩ = some (.slice aC f.n cC) := boxed BX.out 0
  have g1 : (w.alloc (.cells #[.slice aC f.n cC, .slice aR f.k cR, .int .i64 f.week, .slice aH f.hol.length cH] 26)).cell? ⟨w.heap.size, 1, none⟩ = some (.slice aR f.k cR) := boxed BX.out 1
  have g2 : (w.alloc (.cells #[.slice aC f.n cC, .slice aR f.k cR, .int .i64 f.week, .slice aH f.hol.length cH] 26)).cell? ⟨w.heap.size, 2, none⟩ = some (.int .i64 f.week) := boxed BX.out 2
  have g3 : (w.alloc (.cells #[.slice aC f.n cC, .slice aR f.k cR, .int .i64 f.week, .slice aH f.hol.length cH] 26)).cell? ⟨w.heap.size, 3, none⟩ = some (.slice aH f.hol.length cH) := boxed BX.out 3
  have zg : w.heap.size < (w.alloc (.cells #[.slice aC f.n cC, .slice aR f.k cR, .int .i64 f.week, .slice aH f.hol.length cH] 26)).heap.size := by simp
  have BT := hid (fun a b h1 h2 h3 h4 W (hW : Below w.heap.size w W) => kbetween_any HF.out (FV.out.below hW) a b h1 h2 h3 h4)
  have WK := hid (fun d h1 h2 W (hW : Below w.heap.size w W) => kworks_any HF.out (FV.out.below hW) d h1 h2)
  have xd : -23149 ≤ x / 86400 ∧ x / 86400 ≤ 23148 := by omega
  clear hf hd
  generalize M.cutv (T * 86400) = v at *
  generalize x / 86400 = fr at *
  go_enter Tryd.func72, Tryd.ntmps72
  go_upto_region 1 with (fail)
  generalize w.alloc (.cells #[.slice aC f.n cC, .slice aR f.k cR, .int .i64 f.week, .slice aH f.hol.length cH] 26) = wB at *
  go_wp2_with fail
  refine (DX.out _).mono ?_
  rintro e w' ⟨rfl, hw⟩
  rw [hw]
  clear hw w' DX
  rcases sd with ⟨rfl, hn⟩ | ⟨rfl, hk, hfr⟩ | ⟨hv, t0, t1, t2, hk0, hk1⟩
  · have DV := hid (fun W => kdayOf_any 2000000000 W (by omega) (by omega))
    rw [show (2000000000 : Int) / 86400 = 23148 by decide] at DV
    have hn' : ((M.cnt (M.wkd f.week f.hol) fr (23148 - fr).toNat : Nat) : Int) < k := by omega
    have BB := hid (BT.out fr 23148 (by omega) (by omega) (by omega) (by omega) wB BW.out)
    clear hn BT WK
    generalize M.cnt (M.wkd f.week f.hol) fr (23148 - fr).toNat = cn at *
    go_wp2_with fail
    refine (DV.out _).mono ?_
    rintro e w' ⟨rfl, hw⟩
    rw [hw]
    clear hw w' DV
    go_wp2_with fail
    refine BB.out.mono ?_
    rintro e w2 ⟨rfl, hb2⟩
    have R : Hid (TPost w (.returned (.bool true)) w2) := ⟨rfl, BW.out.trans (hb2.mono BW.out.size)⟩
    clear hb2
    go_wp2
    go_ret
    exact R.out
  · have DV := hid (fun W => kdayOf_any (-2000000000) W (by omega) (by omega))
    rw [show (-2000000000 : Int) / 86400 = -23149 by decide] at DV
    have ek : k = 0 := by omega
    subst ek hfr
    have R : Hid (TPost w (.returned (.bool true)) wB) := ⟨rfl, BW.out⟩
    go_wp2_with fail
    refine (DV.out _).mono ?_
    rintro e w' ⟨rfl, hw⟩
    rw [hw]
    clear hw w' DV
    go_wp2
    go_ret
    exact R.out
  · have hv2 : v ≠ 2000000000 ∧ v ≠ -2000000000 := by omega
    have d1 : (v == 2000000000) = false := beq_eq_false_iff_ne.2 hv2.1
    have d2 : (v == -2000000000) = false := beq_eq_false_iff_ne.2 hv2.2
    have DV := hid (fun W => kdayOf_any v W (by omega) (by omega))
    rw [show v / 86400 = T by omega] at DV
    have HV := hid hv
    have HK0 := hid hk0
    have HK1 := hid hk1
    have d3 : (T * 86400 != v) = false := by simp [hv]
    have d4 : ¬ (T < fr) := by omega
    clear hv hk0 hk1 hv2
    go_wp2_with fail
    refine (DV.out _).mono ?_
    rintro e w' ⟨rfl, hw⟩
    rw [hw]
    clear hw w' DV
    by_cases hk : k = 0
    · have e := HK0.out (by omega)
      subst hk e
      have R : Hid (TPost w (.returned (.bool true)) wB) := ⟨rfl, BW.out⟩
      clear HK0 HK1 BT WK
      go_wp2
      go_ret
      exact R.out
    · obtain ⟨c1, c2⟩ := HK1.out (by omega)
      have BB := hid (BT.out fr T (by omega) (by omega) (by omega) (by omega) wB BW.out)
      have WW := hid (fun W hW => WK.out T (by omega) (by omega) W hW)
      rw [c1] at BB
      rw [c2] at WW
      have kk : ((k.toNat : Nat) : Int) = k := by omega
      have dk : (k == 0) = false := beq_eq_false_iff_ne.2 hk
      unfold BtP at BB
      rw [kk] at BB
      clear c1 c2 BT WK HK0 HK1 kk hk
      go_wp2_with fail
      refine BB.out.mono ?_
      rintro e w2 ⟨rfl, hb2⟩
      have B2 := hid (BW.out.trans (hb2.mono BW.out.size))
      have g0 := (hb2.cell (p := ⟨w.heap.size, 0, none⟩) zg).trans g0
      have g1 := (hb2.cell (p := ⟨w.heap.size, 1, none⟩) zg).trans g1
      have g2 := (hb2.cell (p := ⟨w.heap.size, 2, none⟩) zg).trans g2
      have g3 := (hb2.cell (p := ⟨w.heap.size, 3, none⟩) zg).trans g3
      clear hb2 BB
      go_wp2_with fail
      refine (WW.out _ B2.out).mono ?_
      rintro e w3 ⟨rfl, hb3⟩
      have R : Hid (TPost w (.returned (.bool true)) w3) := ⟨rfl, B2.out.trans (hb3.mono B2.out.size)⟩
      clear hb3
      go_wp2
      go_ret
      exact R.out

end Go.Proofs.YtmofidaojmiepaaDoor

/-
  THE WALKS: docketkeep's fits.
-/
set_option linter.unusedVariables false
set_option linter.unusedSimpArgs false
namespace Go.Proofs.YtmofidaojmiepaaDoor
open Go.RowKit
attribute [local go_sem ↓] Go.wp_at_zero Go.wp_at_succ

theorem intsV_at (V : Nat → Int) {n j : Nat} (h : j < n) : (intsV V n)[j]? = some (.int .i64 (V j)) := by simp [intsV, h]
theorem pk_at {V : Nat → Int} {n j : Nat} (h : j < n) : pk V n (j : Int) = V j := by
  unfold pk
  rw [if_pos (by omega)]
  rfl
theorem age_says {v k g : Int} (hk : 1000000 ≤ k) (hk' : k ≤ 1000000000) (g0 : 0 ≤ g) (g1 : g ≤ 3000000000) (h : v = g / k) : 0 ≤ v ∧ v ≤ 3000 ∧ v * k ≤ g ∧ g < (v + 1) * k ∧ v * k ≤ 3000000000 ∧ (v + 1) * k ≤ 4000000000 ∧ 0 ≤ v * k ∧ 0 ≤ (v + 1) * k := by
  subst h
  have a1 : 0 ≤ g / k := Int.ediv_nonneg g0 (by omega)
  have a2 : g / k * k ≤ g := Int.ediv_mul_le _ (by omega)
  have a3 : g < (g / k + 1) * k := Int.lt_ediv_add_one_mul_self g (by omega)
  have a5 : (g / k + 1) * k = g / k * k + k := by rw [Int.add_mul, Int.one_mul]
  have a6 : g / k ≤ 3000 := by
    rcases Int.lt_or_le 3000 (g / k) with h | h
    · exfalso
      have h1 : 3001 * k ≤ g / k * k := Int.mul_le_mul_of_nonneg_right (by omega) (by omega)
      omega
    · exact h
  have a7 : 0 ≤ g / k * k := Int.mul_nonneg a1 (by omega)
  exact ⟨a1, a6, a2, a3, by omega, by omega, a7, by omega⟩

set_option maxRecDepth 100000 in
set_option maxHeartbeats 8000000 in
theorem kfits_any {f : Frm} (hs : f.Shaped) {fv : Value} {w : World} (hfv : FAt w f fv) {Bv Bf : Nat} {vV vF : Value} {V F : Nat → Int} {now : Int} (hV : w.ownsRow Bv 3 1 vV f.n (intsV V f.n)) (hF : w.ownsRow Bf 3 1 vF f.n (intsV F f.n)) (t0 : 0 ≤ now) (t1 : now ≤ 1000000000) {i : Nat} (hi : i < f.n) (hl : LocalAt (effC f.C F) f.n f.week f.hol now V i) (hv : ∀ j, j < f.n → IsV (V j)) :
    Calls Tryd.prog 50 #[fv, vV, vF, .int .i64 i, .int .i64 now] w fun e w' => TPost w e w' := by
  have HF := hid hs.ok
  have FV := hid hfv
  obtain ⟨n1, n20, k6, _, _⟩ := hs.ok.sizes
  obtain ⟨aC, cC, aR, cR, aH, cH, rfl, hc, _, _⟩ := hfv
  obtain ⟨bC, oC, rfl, zC, hC⟩ : ∃ b off, aC = some ⟨b, off, none⟩ ∧ b < w.heap.size ∧ ∀ m, m < f.n → CelIs w b (off + m * 5) (f.C m) := by
    rcases hc with h | h
    · omega
    · exact h
  obtain ⟨gV, cV, rfl, zV, xV⟩ := own_cell hV (by omega)
  obtain ⟨gF, cF, rfl, zF, xF⟩ := own_cell hF (by omega)
  obtain ⟨ia, hia⟩ := Int.eq_ofNat_of_zero_le (hs.a0 i hi).1
  obtain ⟨ib, hib⟩ := Int.eq_ofNat_of_zero_le (hs.b0 i hi).1
  obtain ⟨ic, hic⟩ := Int.eq_ofNat_of_zero_le (hs.c0 i hi).1
  have la : ia < f.n := by have := (hs.a0 i hi).2; omega
  have lb : ib < f.n := by have := (hs.b0 i hi).2; omega
  have lc : ic < f.n := by have := (hs.c0 i hi).2; omega
  have yI := xV i (by omega)
  have yA := xV ia (by omega)
  have yB := xV ib (by omega)
  have yC := xV ic (by omega)
  have yF := xF i (by omega)
  rw [intsV_at V hi] at yI
  rw [intsV_at V la] at yA
  rw [intsV_at V lb] at yB
  rw [intsV_at V lc] at yC
  rw [intsV_at F hi] at yF
  obtain ⟨x0, x1, x2, x3, x4⟩ := hC i hi
  obtain ⟨kd0, kd1, hK, _⟩ := hs.ok.cells i hi
  obtain ⟨r0, r2, r9, r10, r11, r12⟩ := hl
  have vA := hv ia la
  have vB := hv ib lb
  have vI := hv i hi
  have e1 : pk V f.n (effC f.C F i).a = V ia := by show pk V f.n (f.C i).a = _; rw [hia]; exact pk_at la
  have e2 : pk V f.n (effC f.C F i).b = V ib := by show pk V f.n (f.C i).b = _; rw [hib]; exact pk_at lb
  have e3 : pk V f.n (effC f.C F i).c = V ic := by show pk V f.n (f.C i).c = _; rw [hic]; exact pk_at lc
  rw [e1] at r2 r9 r10 r11 r12
  rw [e2] at r2 r9
  rw [e3] at r9
  have r0a : (f.C i).kind = 0 → V i = F i := fun e => by
    have := r0 (Or.inl e)
    rw [this]
    show (if (f.C i).kind = 0 then F i else _) = _
    rw [if_pos e]
  have kk : (f.C i).kind ≠ 0 → (effC f.C F i).k = (f.C i).k := fun e => by
    show (if (f.C i).kind = 0 then F i else _) = _
    rw [if_neg e]
  have r0b : (f.C i).kind = 1 → V i = (f.C i).k := fun e => by rw [r0 (Or.inr e), kk (by omega)]
  have r11b : (f.C i).kind = 11 → V i = if now < V ia then 0 else (now - V ia) / (f.C i).k := fun e => by rw [r11 e, kk (by omega)]
  have r12b : (f.C i).kind = 12 → ∃ T, M.IsDue (M.wkd f.week f.hol) (V ia / 86400) (f.C i).k.toNat T ∧ V i = M.cutv (T * 86400) := fun e => by
    have := r12 e
    rw [kk (by omega)] at this
    exact this
  have R0 := hid r0a
  have R1 := hid r0b
  have R2 : Hid ((2 ≤ (f.C i).kind ∧ (f.C i).kind ≤ 8) → V i = M.two (f.C i).kind (V ia) (V ib)) := r2
  have R9 : Hid ((f.C i).kind = 9 → V i = if V ia = 0 then V ic else V ib) := r9
  have R10 : Hid ((f.C i).kind = 10 → V i = M.num (decide (V ia ≤ now))) := r10
  have R11 := hid r11b
  have R12 := hid r12b
  have HK : Hid (KOk (f.C i)) := hK
  rw [hia] at x1
  rw [hib] at x2
  rw [hic] at x3
  obtain ⟨va0, va1⟩ := vA
  obtain ⟨vb0, vb1⟩ := vB
  have DR : Hid (∀ T k W, Below w.heap.size w W → 0 ≤ k → k ≤ 250 → M.IsDue (M.wkd f.week f.hol) (V ia / 86400) k.toNat T → Calls Tryd.prog 72 #[.agg #[.slice (some ⟨bC, oC, none⟩) f.n cC, .slice aR f.k cR, .int .i64 f.week, .slice aH f.hol.length cH], .int .i64 (M.cutv (T * 86400)), .int .i64 (V ia), .int .i64 k] W fun e w' => TPost W e w') := fun T k W hW k0 k1 hd => kdueRight_any HF.out (FV.out.below hW) (V ia) T k va0 va1 k0 k1 hd
  unfold KOk at HK
  clear r0 r0a r0b r2 r9 r10 r11 r11b r12 r12b kk hia hib hic e1 e2 e3 hK vI hC xV xF hs hc hV hF hv
  generalize (f.C i).kind = kd at *
  generalize (f.C i).k = ck at *
  generalize V i = vi at *
  generalize V ia = va at *
  generalize V ib = vb at *
  generalize V ic = vc at *
  generalize F i = fi at *
  have BX := hid (Below.refl (w.heap.size + 1) (w.alloc (.cells #[.slice (some ⟨bC, oC, none⟩) f.n cC, .slice aR f.k cR, .int .i64 f.week, .slice aH f.hol.length cH] 26)))
  have BW := hid (boxed_below BX.out)
  have g0 : (w.alloc (.cells #[.slice (some ⟨bC, oC, none⟩) f.n cC, .slice aR f.k cR, .int .i64 f.week, .slice aH f.hol.length cH] 26)).cell? ⟨w.heap.size, 0, none⟩ = some (Value.slice (some ⟨bC, oC, none⟩) f.n cC) := boxed BX.out 0
  have g1 : (w.alloc (.cells #[.slice (some ⟨bC, oC, none⟩) f.n cC, .slice aR f.k cR, .int .i64 f.week, .slice aH f.hol.length cH] 26)).cell? ⟨w.heap.size, 1, none⟩ = some (Value.slice aR f.k cR) := boxed BX.out 1
  have g2 : (w.alloc (.cells #[.slice (some ⟨bC, oC, none⟩) f.n cC, .slice aR f.k cR, .int .i64 f.week, .slice aH f.hol.length cH] 26)).cell? ⟨w.heap.size, 2, none⟩ = some (.int .i64 f.week) := boxed BX.out 2
  have g3 : (w.alloc (.cells #[.slice (some ⟨bC, oC, none⟩) f.n cC, .slice aR f.k cR, .int .i64 f.week, .slice aH f.hol.length cH] 26)).cell? ⟨w.heap.size, 3, none⟩ = some (Value.slice aH f.hol.length cH) := boxed BX.out 3
  have zg : w.heap.size < (w.alloc (.cells #[.slice (some ⟨bC, oC, none⟩) f.n cC, .slice aR f.k cR, .int .i64 f.week, .slice aH f.hol.length cH] 26)).heap.size := by simp
  have x0 := (BW.out.cell (p := ⟨bC, oC + i * 5, none⟩) zC).trans x0
  have x1 := (BW.out.cell (p := ⟨bC, oC + i * 5 + 1, none⟩) zC).trans x1
  have x2 := (BW.out.cell (p := ⟨bC, oC + i * 5 + 2, none⟩) zC).trans x2
  have x3 := (BW.out.cell (p := ⟨bC, oC + i * 5 + 3, none⟩) zC).trans x3
  have x4 := (BW.out.cell (p := ⟨bC, oC + i * 5 + 4, none⟩) zC).trans x4
  have yI := (BW.out.cell (p := ⟨gV, i, none⟩) zV).trans yI
  have yA := (BW.out.cell (p := ⟨gV, ia, none⟩) zV).trans yA
  have yB := (BW.out.cell (p := ⟨gV, ib, none⟩) zV).trans yB
  have yC := (BW.out.cell (p := ⟨gV, ic, none⟩) zV).trans yC
  have yF := (BW.out.cell (p := ⟨gF, i, none⟩) zF).trans yF
  have li : (i : Int) < (f.n : Int) := by omega
  have la' : (ia : Int) < (f.n : Int) := by omega
  have lb' : (ib : Int) < (f.n : Int) := by omega
  have lc' : (ic : Int) < (f.n : Int) := by omega
  have zs := BW.out.size
  go_enter Tryd.func50, Tryd.ntmps50
  go_upto_region 1 with (fail)
  generalize w.alloc (.cells #[.slice (some ⟨bC, oC, none⟩) f.n cC, .slice aR f.k cR, .int .i64 f.week, .slice aH f.hol.length cH] 26) = wB at *
  generalize hgg : w.heap.size = g at *
  have HG := hid hgg
  clear hgg BX
  go_upto_region 2 with (fail)
  have BY := hid (Below.refl (wB.heap.size + 1) (wB.alloc (.cells #[.int .i64 kd, .int .i64 ia, .int .i64 ib, .int .i64 ic, .int .i64 ck] 82)))
  have BZ := hid (boxed_below BY.out)
  have c0 : (wB.alloc (.cells #[.int .i64 kd, .int .i64 ia, .int .i64 ib, .int .i64 ic, .int .i64 ck] 82)).cell? ⟨wB.heap.size, 0, none⟩ = some (.int .i64 kd) := boxed BY.out 0
  have c1 : (wB.alloc (.cells #[.int .i64 kd, .int .i64 ia, .int .i64 ib, .int .i64 ic, .int .i64 ck] 82)).cell? ⟨wB.heap.size, 1, none⟩ = some (.int .i64 ia) := boxed BY.out 1
  have c2 : (wB.alloc (.cells #[.int .i64 kd, .int .i64 ia, .int .i64 ib, .int .i64 ic, .int .i64 ck] 82)).cell? ⟨wB.heap.size, 2, none⟩ = some (.int .i64 ib) := boxed BY.out 2
  have c3 : (wB.alloc (.cells #[.int .i64 kd, .int .i64 ia, .int .i64 ib, .int .i64 ic, .int .i64 ck] 82)).cell? ⟨wB.heap.size, 3, none⟩ = some (.int .i64 ic) := boxed BY.out 3
  have c4 : (wB.alloc (.cells #[.int .i64 kd, .int .i64 ia, .int .i64 ib, .int .i64 ic, .int .i64 ck] 82)).cell? ⟨wB.heap.size, 4, none⟩ = some (.int .i64 ck) := boxed BY.out 4
  have yI := (BZ.out.cell (p := ⟨gV, i, none⟩) (by show gV < _; omega)).trans yI
  have yA := (BZ.out.cell (p := ⟨gV, ia, none⟩) (by show gV < _; omega)).trans yA
  have yB := (BZ.out.cell (p := ⟨gV, ib, none⟩) (by show gV < _; omega)).trans yB
  have yC := (BZ.out.cell (p := ⟨gV, ic, none⟩) (by show gV < _; omega)).trans yC
  have yF := (BZ.out.cell (p := ⟨gF, i, none⟩) (by show gF < _; omega)).trans yF
  have g0 := (BZ.out.cell (p := ⟨g, 0, none⟩) zg).trans g0
  have g1 := (BZ.out.cell (p := ⟨g, 1, none⟩) zg).trans g1
  have g2 := (BZ.out.cell (p := ⟨g, 2, none⟩) zg).trans g2
  have g3 := (BZ.out.cell (p := ⟨g, 3, none⟩) zg).trans g3
  have BA : Hid (Below w.heap.size w (wB.alloc (.cells #[.int .i64 kd, .int .i64 ia, .int .i64 ib, .int .i64 ic, .int .i64 ck] 82))) := by
    have h1 := BW.out
    rw [HG.out]
    exact h1.trans (BZ.out.mono (by omega))
  have zz : wB.heap.size < (wB.alloc (.cells #[.int .i64 kd, .int .i64 ia, .int .i64 ib, .int .i64 ic, .int .i64 ck] 82)).heap.size := by simp
  clear BY BZ BW x0 x1 x2 x3 x4
  generalize wB.alloc (.cells #[.int .i64 kd, .int .i64 ia, .int .i64 ib, .int .i64 ic, .int .i64 ck] 82) = wC at *
  generalize wB.heap.size = gc at *
  have RT : Hid (TPost w (.returned (.bool true)) wC) := ⟨rfl, BA.out⟩
  have RW : Hid (∀ W, Below wC.heap.size wC W → TPost w (.returned (.bool true)) W) := fun W hW => ⟨rfl, BA.out.trans (hW.mono BA.out.size)⟩
  go_upto_region 3 with (fail)
  have cs : kd = 0 ∨ kd = 1 ∨ (2 ≤ kd ∧ kd ≤ 8) ∨ kd = 9 ∨ kd = 10 ∨ kd = 11 ∨ kd = 12 := by omega
  rcases cs with rfl | rfl | ⟨k2, k8⟩ | rfl | rfl | rfl | rfl
  · have e := R0.out rfl
    subst e
    clear R0 R1 R2 R9 R10 R11 R12 HK DR
    go_wp2
    go_region
    go_wp2
    go_ret
    exact RW.out _ (Below.refl _ _).drew
  · have e := R1.out rfl
    subst e
    clear R0 R1 R2 R9 R10 R11 R12 HK DR
    go_wp2
    go_region
    go_wp2
    go_ret
    exact RW.out _ (Below.refl _ _).drew
  · have e := R2.out ⟨k2, k8⟩
    have d0 : (kd == 0) = false := beq_eq_false_iff_ne.2 (by omega)
    have d1 : (kd == 1) = false := beq_eq_false_iff_ne.2 (by omega)
    have d9 : (kd == 9) = false := beq_eq_false_iff_ne.2 (by omega)
    have d10 : (kd == 10) = false := beq_eq_false_iff_ne.2 (by omega)
    have d11 : (kd == 11) = false := beq_eq_false_iff_ne.2 (by omega)
    have d12 : (kd == 12) = false := beq_eq_false_iff_ne.2 (by omega)
    have PL := hid (fun W => kplain_any kd va vb W k2 k8 va0 va1 vb0 vb1)
    subst e
    clear R0 R1 R2 R9 R10 R11 R12 HK DR
    generalize M.two kd va vb = tw at *
    go_upto_region 21 with (fail)
    go_region_held3 (fun w' => w'.cell? ⟨gV, i, none⟩ = some (.int .i64 tw) ∧ w'.cell? ⟨gV, ib, none⟩ = some (.int .i64 vb) ∧ w'.cell? ⟨gc, 0, none⟩ = some (.int .i64 kd) ∧ w'.cell? ⟨gc, 2, none⟩ = some (.int .i64 ib))
      (refine ⟨?_, ?_, ?_, ?_⟩ <;> assumption)
      ((go_at_call 73; refine (PL.out _).mono ?_; rintro e w' ⟨rfl, hw⟩; rw [hw]; clear hw w'))
    all_goals (
      go_wp2
      go_ret
      exact RW.out _ (Below.refl _ _).drew)
  · have e := R9.out rfl
    clear R0 R1 R2 R9 R10 R11 R12 HK DR
    by_cases hz : va = 0
    · rw [if_pos hz] at e
      subst e hz
      go_wp2
      go_region
      go_wp2
      go_ret
      exact RW.out _ (Below.refl _ _).drew
    · rw [if_neg hz] at e
      have dz : (va != 0) = true := by simp [hz]
      subst e
      clear hz
      go_wp2
      go_region
      go_wp2
      go_ret
      exact RW.out _ (Below.refl _ _).drew
  · have e := R10.out rfl
    have NU := hid (fun b W => knumber_any b W)
    subst e
    clear R0 R1 R2 R9 R10 R11 R12 HK DR
    go_upto_region 13 with (fail)
    by_cases hle : va ≤ now
    · rw [show decide (va ≤ now) = true from decide_eq_true hle] at yI
      go_region_held3 (fun w' => w'.cell? ⟨gV, i, none⟩ = some (.int .i64 (M.num true)))
        (assumption)
        ((go_at_call 71; refine (NU.out _ _).mono ?_; rintro e w' ⟨rfl, hw⟩; rw [hw]; clear hw w'))
      all_goals (
        go_wp2
        go_ret
        first | exact RW.out _ (Below.refl _ _).drew | (have h := RW.out _ (Below.refl _ _).drew; simpa [hle] using h))
    · rw [show decide (va ≤ now) = false from decide_eq_false hle] at yI
      go_region_held3 (fun w' => w'.cell? ⟨gV, i, none⟩ = some (.int .i64 (M.num false)))
        (assumption)
        ((go_at_call 71; refine (NU.out _ _).mono ?_; rintro e w' ⟨rfl, hw⟩; rw [hw]; clear hw w'))
      all_goals (
        go_wp2
        go_ret
        first | exact RW.out _ (Below.refl _ _).drew | (have h := RW.out _ (Below.refl _ _).drew; simpa [hle] using h))
  · have e := R11.out rfl
    obtain ⟨hk0, hk1⟩ := HK.out.2.1 rfl
    clear R0 R1 R2 R9 R10 R11 R12 HK DR
    by_cases hlt : now < va
    · rw [if_pos hlt] at e
      subst e
      go_wp2
      go_ret
      exact RT.out
    · rw [if_neg hlt] at e
      obtain ⟨a1, a2, a3, a4, a5, a6, a7, a8⟩ := age_says hk0 hk1 (g := now - va) (by omega) (by omega) e
      clear e
      generalize hm1 : vi * ck = m1 at *
      generalize hm2 : (vi + 1) * ck = m2 at *
      have e1 : decide (0 ≤ vi) = true := decide_eq_true a1
      have e2 : decide (vi ≤ 3000) = true := decide_eq_true a2
      have e3 : decide (m1 ≤ now - va) = true := decide_eq_true a3
      have e4 : decide (now - va < m2) = true := decide_eq_true a4
      go_upto_region 18 with (fail)
      go_quiet (fail)
      go_wp2
      go_ret
      exact RW.out _ (below_drewN (Below.refl _ _) _)
  · obtain ⟨Td, hT, e⟩ := R12.out rfl
    obtain ⟨hk0, hk1⟩ := HK.out.2.2 rfl
    have DD := hid (fun W (hW : Below w.heap.size w W) => DR.out Td ck W (by have h := hW; rw [HG.out] at h; exact h) hk0 hk1 hT)
    rw [← e] at DD
    clear R0 R1 R2 R9 R10 R11 R12 HK DR e hT
    have zgC : g < wC.heap.size := by omega
    have zVC : gV < wC.heap.size := by omega
    have zcC : gc < wC.heap.size := by omega
    go_upto_region 20 with (fail)
    go_region_held3 (fun w' => w'.cell? ⟨g, 0, none⟩ = some (.slice (some ⟨bC, oC, none⟩) f.n cC) ∧ w'.cell? ⟨g, 1, none⟩ = some (.slice aR f.k cR) ∧ w'.cell? ⟨g, 2, none⟩ = some (.int .i64 f.week) ∧ w'.cell? ⟨g, 3, none⟩ = some (.slice aH f.hol.length cH) ∧ w'.cell? ⟨gV, i, none⟩ = some (.int .i64 vi) ∧ w'.cell? ⟨gc, 4, none⟩ = some (.int .i64 ck))
      (refine ⟨?_, ?_, ?_, ?_, ?_, ?_⟩ <;> assumption)
      ((go_at_call 72; refine (DD.out _ BA.out.drew).mono ?_; rintro e w5 ⟨rfl, hb5⟩; have m0 := (hb5.cell (p := ⟨g, 0, none⟩) zgC).trans g0; have m1 := (hb5.cell (p := ⟨g, 1, none⟩) zgC).trans g1; have m2 := (hb5.cell (p := ⟨g, 2, none⟩) zgC).trans g2; have m3 := (hb5.cell (p := ⟨g, 3, none⟩) zgC).trans g3; have m4 := (hb5.cell (p := ⟨gV, i, none⟩) zVC).trans yI; have m5 := (hb5.cell (p := ⟨gc, 4, none⟩) zcC).trans c4))
    all_goals (
      have R : Hid (TPost w (.returned (.bool true)) w5) := ⟨rfl, BA.out.trans ((show Below wC.heap.size wC w5 from ⟨hb5.os, hb5.tape, hb5.output, hb5.size, hb5.block⟩).mono BA.out.size)⟩
      clear hb5
      go_wp2
      go_ret
      exact R.out)

end Go.Proofs.YtmofidaojmiepaaDoor

/-
  THE WALKS: docketkeep's defaults, local.
-/
set_option linter.unusedVariables false
set_option linter.unusedSimpArgs false
namespace Go.Proofs.YtmofidaojmiepaaDoor
open Go.RowKit
attribute [local go_sem ↓] Go.wp_at_zero Go.wp_at_succ

theorem C1.store {Z : Nat → Prop} {b : Nat} {f : Frm} {Q : Nat → Prop} {p : KPl} {m : Cs} {w w' : World} (h : C1 Z b f Q p m w) {g : Nat} (hg : Z g) (hq : ¬ Q g) (hg0 : g ≠ 0) (hs : w.heap.size ≤ w'.heap.size) (hb : ∀ j, j < w.heap.size → j ≠ g → w'.heap[j]? = w.heap[j]?) : C1 Z b f Q p m w' := by
  obtain ⟨v, h⟩ := h
  have h1 : CN Z b 1 (fun _ => ⟨Q, p, f⟩) (fun _ => m) w := ⟨fun _ => v, h⟩
  obtain ⟨V, h2⟩ := h1.store hg (fun i hi => hq) hg0 hs hb
  exact ⟨V 0, h2.congr (fun i hi => by
    have e : i = 0 := by omega
    subst e
    rfl)⟩

theorem own_set {w : World} {B g n c : Nat} {F : Nat → Int} (h : w.ownsRow B 3 1 (.slice (some ⟨g, 0, none⟩) n c) n (intsV F n)) {k : Nat} (hk : k < n) (v : Int) : (w.setCell ⟨g, k, none⟩ (.int .i64 v)).ownsRow B 3 1 (.slice (some ⟨g, 0, none⟩) n c) n (intsV (upd F k v) n) := by
  obtain ⟨h1, h2⟩ := h
  refine ⟨by simp [intsV], Or.inr ?_⟩
  rcases h2 with ⟨e, _⟩ | ⟨g', cap, cur, e, a1, a2, a3, a4, a5, a6⟩
  · cases e
  · simp at e
    obtain ⟨rfl, rfl⟩ := e
    refine ⟨g, c, cur.setIfInBounds k (.int .i64 v), rfl, a1, ?_, a3, a4, by simpa using a5, ?_⟩
    · simp [World.setCell, Array.getElem?_modify, a2]
    · apply List.ext_getElem?
      intro j
      have e1 : cur.toList.take (n * 1) = intsV F n := a6
      by_cases hj : j < n
      · rw [List.getElem?_take, if_pos (by omega), intsV_at _ hj]
        have e2 : cur[j]? = some (.int .i64 (F j)) := by
          have : (cur.toList.take (n * 1))[j]? = (intsV F n)[j]? := by rw [e1]
          rw [List.getElem?_take, if_pos (by omega), intsV_at _ hj] at this
          simpa using this
        have hjs : j < cur.size := by
          rcases Nat.lt_or_ge j cur.size with h | h
          · exact h
          · rw [Array.getElem?_eq_none h] at e2; cases e2
        rw [Array.getElem?_toList, Array.getElem?_setIfInBounds]
        by_cases ejk : k = j
        · subst ejk
          rw [if_pos rfl, if_pos hjs, upd_same]
        · rw [if_neg ejk, upd_other _ _ (fun h => ejk h.symm)]
          exact e2
      · rw [List.getElem?_eq_none (by simp [List.length_take]; omega), List.getElem?_eq_none (by simp [intsV]; omega)]
theorem own_frozen {w : World} {B g n c : Nat} {xs : List Value} (h : w.ownsRow B 3 1 (.slice (some ⟨g, 0, none⟩) n c) n xs) (k : Nat) : w.frozen? ⟨g, k, none⟩ = false := by
  rcases h.2 with ⟨e, _⟩ | ⟨g', cap, cur, e, a1, a2, _⟩
  · cases e
  · simp at e
    obtain ⟨rfl, rfl⟩ := e
    simp [World.frozen?, a2]

def DfP (f : Frm) (w : World) (e : Ending) (w' : World) : Prop := ∃ v, e = .returned v ∧ w'.ownsRow w.heap.size 3 1 v f.n (intsV (fun j => (f.C j).k) f.n) ∧ Below w.heap.size w w'

set_option maxRecDepth 100000 in
set_option maxHeartbeats 2000000 in
theorem kdefaults_any {f : Frm} {fv : Value} {w : World} (hn : f.n ≤ 20) (h : FAt w f fv) : Calls Tryd.prog 14 #[fv] w fun e w' => DfP f w e w' := by
  obtain ⟨aC, cC, aR, cR, aH, cH, rfl, h1, _, _⟩ := h
  obtain ⟨i3, y3, y4⟩ := Option.map_eq_some_iff.1 info3
  simp only [Prod.mk.injEq] at y4
  have I3 := hid y3
  have Z3 := hid y4
  clear y3 y4
  have HC := hid h1
  clear h1
  have B0 := hid (Below.refl (w.heap.size + 1) (w.alloc (.cells #[.slice aC f.n cC, .slice aR f.k cR, .int .i64 f.week, .slice aH f.hol.length cH] 26)))
  go_enter Tryd.func14, Tryd.ntmps14
  go_wp2
  go_loopw [3, 4] (fun tq ti wr => ∃ (i : Nat) (v : Value), i ≤ f.n ∧ ti = .int .i64 i ∧ v = tq ∧ Hid (wr.ownsRow (w.heap.size + 1) 3 1 v i (intsV (fun j => (f.C j).k) i)) ∧ Hid (Below (w.heap.size + 1) (w.alloc (.cells #[.slice aC f.n cC, .slice aR f.k cR, .int .i64 f.week, .slice aH f.hol.length cH] 26)) wr)) (fun _ ti _ => f.n - (intOf ti).toNat)
  case atStart => exact ⟨0, .slice none 0 0, by omega, rfl, rfl, ⟨rfl, Or.inl ⟨rfl, rfl⟩⟩, B0⟩
  case round =>
    clear B0
    obtain ⟨i, v, i1, rfl, rfl, hown, hb⟩ := hrel
    have hbw := hid (boxed_below hb.out)
    have f0 := boxed hb.out 0
    simp at f0
    have zw := hb.out.size
    simp at zw
    by_cases hit : i < f.n
    · have lt' : (i : Int) < (f.n : Int) := by omega
      obtain ⟨bC, oC, hac, zC, hC⟩ : ∃ b off, aC = some ⟨b, off, none⟩ ∧ b < wr.heap.size ∧ ∀ m, m < f.n → CelIs wr b (off + m * 5) (f.C m) := by
        rcases HC.out.below hbw.out with h | h
        · omega
        · exact h
      have g4 := (hC i hit).2.2.2.2
      subst hac
      clear hC
      have MR := hid (intsV_more (fun j => (f.C j).k) i)
      go_wp2_with (at_builtin; refine wpList_append_lies _ rfl (.tmp 12) (.tmp 19) 24 rfl (w.heap.size + 1) 3 i3 _ 1 8 Tryd.underlying24 I3.out Z3.out.1 Z3.out.2.1 Z3.out.2.2 rfl (by omega) v i (intsV (fun j => (f.C j).k) i) (by rfl) (own_alloc0 hown.out _) ⟨wr.heap.size, 0, none⟩ 1 1 [.int .i64 (f.C i).k] (by rfl) (by rfl) (news1k _ _ _) (by simp [Value.oneCell']) (by omega) (by unfold maxLen; omega) (by omega) (by simp; omega) (wr.heap.size + 1) (by simp) ?_; intro g cap w6 hown2 hgrow hat hlt; refine stopH ?_)
      have N1 : Hid (w6.ownsRow (w.heap.size + 1) 3 1 (.slice (some ⟨g, 0, none⟩) (i + 1) cap) (i + 1) (intsV (fun j => (f.C j).k) (i + 1))) := by
        rw [MR.out]
        exact hown2
      have N2 := hid (hb.out.trans (grow_below0 hgrow (by omega) (fun g hg' => own_base hown.out hg')))
      clear hown2 hgrow hat hlt hown hb hbw MR
      refine hid ?_
      go_wp2
      go_roundw
      case rel => exact ⟨i + 1, _, by omega, by go_num, rfl, N1, N2⟩
      case measure => simp [intOf]; omega
    · obtain rfl : i = f.n := by omega
      have R : Hid (DfP f w (.returned v) wr) := by
        refine ⟨v, rfl, ?_, hbw.out⟩
        exact own_monoL hown.out (by omega)
      go_wp2
      go_ret
      exact R.out

set_option maxRecDepth 100000 in
set_option maxHeartbeats 4000000 in
theorem klocal_any {Z : Nat → Prop} {b : Nat} {f : Frm} {Q : Nat → Prop} {p : KPl} {m : Cs} {w : World} (h : C1 Z b f Q p m w) (hb : b ≤ 10000000000) (hs : f.Shaped) {fv : Value} (hfv : FAt w f fv) {Bf : Nat} {vF : Value} (hF : w.ownsRow Bf 3 1 vF f.n (intsV m.F f.n)) :
    Calls Tryd.prog 15 #[.pointer (some ⟨p.bp, 0, none⟩), fv, vF] w fun e w' => TPost w e w' := by
  have HM := hid h.mok
  have HS := hid hs
  obtain ⟨n1, n20, k6, _, _⟩ := hs.ok.sizes
  have HV := hid (vals_local hs.ok h.mok.fv h.mok.t0 h.mok.t1)
  have FV := hid hfv
  have HF := hid hF
  obtain ⟨aF, cF, rfl⟩ := own_len hF
  obtain ⟨aC', cC', aR', cR', aH', cH', rfl, _, _, _⟩ := hfv
  have BX := hid (Below.refl (w.heap.size + 1) (w.alloc (.cells #[.slice aC' f.n cC', .slice aR' f.k cR', .int .i64 f.week, .slice aH' f.hol.length cH'] 26)))
  have BW := hid (boxed_below BX.out)
  have g0 : (w.alloc (.cells #[.slice aC' f.n cC', .slice aR' f.k cR', .int .i64 f.week, .slice aH' f.hol.length cH'] 26)).cell? ⟨w.heap.size, 0, none⟩ = some (Value.slice aC' f.n cC') := boxed BX.out 0
  have g1 : (w.alloc (.cells #[.slice aC' f.n cC', .slice aR' f.k cR', .int .i64 f.week, .slice aH' f.hol.length cH'] 26)).cell? ⟨w.heap.size, 1, none⟩ = some (Value.slice aR' f.k cR') := boxed BX.out 1
  have g2 : (w.alloc (.cells #[.slice aC' f.n cC', .slice aR' f.k cR', .int .i64 f.week, .slice aH' f.hol.length cH'] 26)).cell? ⟨w.heap.size, 2, none⟩ = some (.int .i64 f.week) := boxed BX.out 2
  have g3 : (w.alloc (.cells #[.slice aC' f.n cC', .slice aR' f.k cR', .int .i64 f.week, .slice aH' f.hol.length cH'] 26)).cell? ⟨w.heap.size, 3, none⟩ = some (Value.slice aH' f.hol.length cH') := boxed BX.out 3
  have zg : w.heap.size < (w.alloc (.cells #[.slice aC' f.n cC', .slice aR' f.k cR', .int .i64 f.week, .slice aH' f.hol.length cH'] 26)).heap.size := by simp
  have LK : Hid (Calls Tryd.prog 23 #[.pointer (some ⟨p.bp, 0, none⟩), .agg #[.slice aC' f.n cC', .slice aR' f.k cR', .int .i64 f.week, .slice aH' f.hol.length cH']] (w.alloc (.cells #[.slice aC' f.n cC', .slice aR' f.k cR', .int .i64 f.week, .slice aH' f.hol.length cH'] 26)) fun e w' => LoP f m (w.alloc (.cells #[.slice aC' f.n cC', .slice aR' f.k cR', .int .i64 f.week, .slice aH' f.hol.length cH'] 26)) e w') := c1look (h.keep BW.out) hb (FV.out.below BW.out)
  have t0 := HM.out.t0
  have t1 := HM.out.t1
  have zs := BW.out.size
  clear h hs hF BX
  go_enter Tryd.func15, Tryd.ntmps15
  go_upto_region 1 with (fail)
  generalize w.alloc (.cells #[.slice aC' f.n cC', .slice aR' f.k cR', .int .i64 f.week, .slice aH' f.hol.length cH'] 26) = wB at *
  go_wp2_with fail
  refine LK.out.mono ?_
  rintro e ax ⟨vx, rfl, l, bb⟩
  obtain ⟨xV, xS, xL, rfl, r1, r2, r3⟩ := l.ex
  obtain ⟨xa1, xc1, rfl⟩ := own_len r1
  obtain ⟨xa2, xc2, rfl⟩ := own_len r2
  obtain ⟨xa3, xc3, rfl⟩ := own_len r3
  have BB : Hid (Below ax.heap.size ax (ax.alloc (.cells #[.int .i64 m.T, .slice xa1 f.n xc1, .slice xa2 f.k xc2, .slice xa3 m.E.length xc3, .bool true] 46))) := boxed_below (Below.refl (ax.heap.size + 1) (ax.alloc (.cells #[.int .i64 m.T, .slice xa1 f.n xc1, .slice xa2 f.k xc2, .slice xa3 m.E.length xc3, .bool true] 46)))
  have NW : Hid (Below wB.heap.size wB (ax.alloc (.cells #[.int .i64 m.T, .slice xa1 f.n xc1, .slice xa2 f.k xc2, .slice xa3 m.E.length xc3, .bool true] 46))) := bb.trans (BB.out.mono bb.size)
  have RV := hid (own_of_block r1 (w' := ax.alloc (.cells #[.int .i64 m.T, .slice xa1 f.n xc1, .slice xa2 f.k xc2, .slice xa3 m.E.length xc3, .bool true] 46)) (fun g _ hlt => BB.out.block g hlt))
  have B1 : Hid (Below w.heap.size w (ax.alloc (.cells #[.int .i64 m.T, .slice xa1 f.n xc1, .slice xa2 f.k xc2, .slice xa3 m.E.length xc3, .bool true] 46))) := BW.out.trans (NW.out.mono zs)
  have cx0 : (ax.alloc (.cells #[.int .i64 m.T, .slice xa1 f.n xc1, .slice xa2 f.k xc2, .slice xa3 m.E.length xc3, .bool true] 46)).cell? ⟨ax.heap.size, 0, none⟩ = some (.int .i64 m.T) := boxed (Below.refl (ax.heap.size + 1) (ax.alloc (.cells #[.int .i64 m.T, .slice xa1 f.n xc1, .slice xa2 f.k xc2, .slice xa3 m.E.length xc3, .bool true] 46))) 0
  have cx1 : (ax.alloc (.cells #[.int .i64 m.T, .slice xa1 f.n xc1, .slice xa2 f.k xc2, .slice xa3 m.E.length xc3, .bool true] 46)).cell? ⟨ax.heap.size, 1, none⟩ = some (.slice xa1 f.n xc1) := boxed (Below.refl (ax.heap.size + 1) (ax.alloc (.cells #[.int .i64 m.T, .slice xa1 f.n xc1, .slice xa2 f.k xc2, .slice xa3 m.E.length xc3, .bool true] 46))) 1
  have cx2 : (ax.alloc (.cells #[.int .i64 m.T, .slice xa1 f.n xc1, .slice xa2 f.k xc2, .slice xa3 m.E.length xc3, .bool true] 46)).cell? ⟨ax.heap.size, 2, none⟩ = some (.slice xa2 f.k xc2) := boxed (Below.refl (ax.heap.size + 1) (ax.alloc (.cells #[.int .i64 m.T, .slice xa1 f.n xc1, .slice xa2 f.k xc2, .slice xa3 m.E.length xc3, .bool true] 46))) 2
  have cx3 : (ax.alloc (.cells #[.int .i64 m.T, .slice xa1 f.n xc1, .slice xa2 f.k xc2, .slice xa3 m.E.length xc3, .bool true] 46)).cell? ⟨ax.heap.size, 3, none⟩ = some (.slice xa3 m.E.length xc3) := boxed (Below.refl (ax.heap.size + 1) (ax.alloc (.cells #[.int .i64 m.T, .slice xa1 f.n xc1, .slice xa2 f.k xc2, .slice xa3 m.E.length xc3, .bool true] 46))) 3
  have cx4 : (ax.alloc (.cells #[.int .i64 m.T, .slice xa1 f.n xc1, .slice xa2 f.k xc2, .slice xa3 m.E.length xc3, .bool true] 46)).cell? ⟨ax.heap.size, 4, none⟩ = some (.bool true) := boxed (Below.refl (ax.heap.size + 1) (ax.alloc (.cells #[.int .i64 m.T, .slice xa1 f.n xc1, .slice xa2 f.k xc2, .slice xa3 m.E.length xc3, .bool true] 46))) 4
  have g0 := (NW.out.cell (p := ⟨w.heap.size, 0, none⟩) zg).trans g0
  have g1 := (NW.out.cell (p := ⟨w.heap.size, 1, none⟩) zg).trans g1
  have g2 := (NW.out.cell (p := ⟨w.heap.size, 2, none⟩) zg).trans g2
  have g3 := (NW.out.cell (p := ⟨w.heap.size, 3, none⟩) zg).trans g3
  have zg2 : w.heap.size < (ax.alloc (.cells #[.int .i64 m.T, .slice xa1 f.n xc1, .slice xa2 f.k xc2, .slice xa3 m.E.length xc3, .bool true] 46)).heap.size := by have := NW.out.size; omega
  have zx : ax.heap.size < (ax.alloc (.cells #[.int .i64 m.T, .slice xa1 f.n xc1, .slice xa2 f.k xc2, .slice xa3 m.E.length xc3, .bool true] 46)).heap.size := by simp
  clear r1 r2 r3 l bb BB NW LK
  go_upto_region 4 with (fail)
  generalize ax.alloc (.cells #[.int .i64 m.T, .slice xa1 f.n xc1, .slice xa2 f.k xc2, .slice xa3 m.E.length xc3, .bool true] 46) = u at *
  generalize ax.heap.size = gx at *
  go_wp2_with fail
  go_loopw [8] (fun t wr => ∃ i : Nat, i ≤ f.n ∧ t = .int .i64 i ∧ Hid (Below u.heap.size u wr)) (fun t _ => f.n - (intOf t).toNat)
  case atStart => exact ⟨0, by omega, rfl, Below.refl _ _⟩
  case round =>
    obtain ⟨i, i1, rfl, hbu⟩ := hrel
    have y0 := (hbu.out.cell (p := ⟨w.heap.size, 0, none⟩) zg2).trans g0
    by_cases hit : i < f.n
    · have lt' : (i : Int) < (f.n : Int) := by omega
      have y1 := (hbu.out.cell (p := ⟨w.heap.size, 1, none⟩) zg2).trans g1
      have y2 := (hbu.out.cell (p := ⟨w.heap.size, 2, none⟩) zg2).trans g2
      have y3 := (hbu.out.cell (p := ⟨w.heap.size, 3, none⟩) zg2).trans g3
      have d0 := (hbu.out.cell (p := ⟨gx, 0, none⟩) zx).trans cx0
      have d1 := (hbu.out.cell (p := ⟨gx, 1, none⟩) zx).trans cx1
      have BT := hid (B1.out.trans (hbu.out.mono B1.out.size))
      have FT := hid (kfits_any HS.out (FV.out.below BT.out) (own_of_block RV.out (w' := wr) (fun g _ hlt => hbu.out.block g hlt)) (own_of_block HF.out (w' := wr) (fun g _ hlt => BT.out.block g hlt)) t0 t1 hit (HV.out.1 i hit) HV.out.2)
      go_wp2_with fail
      refine FT.out.mono ?_
      rintro e w2 ⟨rfl, hb2⟩
      have N := hid (hbu.out.trans (hb2.mono hbu.out.size))
      clear hb2 FT hbu BT
      go_wp2
      go_roundw
      case rel => exact ⟨i + 1, by omega, by go_num, N⟩
      case measure => simp [intOf]; omega
    · have R : Hid (TPost w (.returned (.bool true)) wr) := ⟨rfl, B1.out.trans (hbu.out.mono B1.out.size)⟩
      go_wp2
      go_ret
      exact R.out


end Go.Proofs.YtmofidaojmiepaaDoor

/-
  THE WALKS: docketkeep.Local.
-/
set_option linter.unusedVariables false
set_option linter.unusedSimpArgs false
namespace Go.Proofs.YtmofidaojmiepaaDoor
open Go.RowKit
attribute [local go_sem ↓] Go.wp_at_zero Go.wp_at_succ

/-- What a raw step of Local does. -/
def locM (f : Frm) (m : Cs) (s : StK) : Cs :=
  if pickI s.kd 2 = 0 then (if setsK f s.a < 0 then m else setM f m (setsK f s.a) (setsV f s.b)) else advM f m (ontoI m.T s.a)
theorem locM_op (f : Frm) (m : Cs) (s : StK) : (locM f m s).op = m.op := by
  unfold locM
  repeat' split
  · rfl
  · exact setM_op _ _ _ _
  · exact advM_op _ _ _
theorem setM_F {f : Frm} {m : Cs} {c v : Int} (h : setNo f m c v = 0) : (setM f m c v).F = upd m.F c.toNat v := by
  unfold setM
  rw [if_pos h, settle_F]
  rfl

set_option maxRecDepth 100000 in
set_option maxHeartbeats 4000000 in
theorem klocalL_any (C : Nat → Cel) (R : Nat → Rul) (hol : List Int) (aC aR aH : Option Addr) (n cC k cR cH : Nat) (week : Int) (w : World) (ht : Tab w) (hn : n ≤ 1000000000) (hk : k ≤ 1000000000) (hhl : hol.length ≤ 1000000000) (h64 : Raw64 C n R k week hol)
    (hcs : CAt w aC n C) (hrs : RAt w aR k R) (hhs : IntsAt w (.slice aH hol.length cH) hol) {aS : Option Addr} {mS cS : Nat} {S : Nat → StK} (hsc : ScK w aS mS S) (hm : mS ≤ 1048576) :
    Calls Tryd.prog 3 #[.agg #[.slice aC n cC, .slice aR k cR, .int .i64 week, .slice aH hol.length cH], .slice aS mS cS] w fun e w' => TPost w e w' := by
  have BX := hid (Below.refl (w.heap.size + 1) (w.alloc (.cells #[.slice aC n cC, .slice aR k cR, .int .i64 week, .slice aH hol.length cH] 26)))
  have BW := hid (boxed_below BX.out)
  have SH := hid (kshaped_any C R hol aC aR aH n cC k cR cH week _ hn hk hhl h64 (hcs.below BW.out) (hrs.below BW.out) (SlAt.below hhs BW.out (Nat.le_refl _)))
  have FSO := hid (shF_ok C n R k week hol)
  have HT := hid ht
  have HSC := hid hsc
  clear hcs hrs hhs h64 ht hsc
  generalize shF C n R k week hol = f at *
  go_enter Tryd.func3, Tryd.ntmps3
  go_wp2_with fail
  refine SH.out.mono ?_
  rintro e w1 ⟨fv, rfl, fa, hb1⟩
  have FA := hid fa
  obtain ⟨aC', cC', aR', cR', aH', cH', rfl, fa1, fa2, fa3⟩ := fa
  clear fa1 fa2 fa3
  have B1 : Hid (Below w.heap.size w w1) := BW.out.trans (hb1.mono (by simp))
  clear hb1 BX BW SH
  have BX := hid (Below.refl (w1.heap.size + 1) (w1.alloc (.cells #[.slice aC' f.n cC', .slice aR' f.k cR', .int .i64 f.week, .slice aH' f.hol.length cH'] 26)))
  have BB := hid (boxed_below BX.out)
  have f0 : (w1.alloc (.cells #[.slice aC' f.n cC', .slice aR' f.k cR', .int .i64 f.week, .slice aH' f.hol.length cH'] 26)).cell? ⟨w1.heap.size, 0, none⟩ = some (Value.slice aC' f.n cC') := boxed BX.out 0
  have f1 : (w1.alloc (.cells #[.slice aC' f.n cC', .slice aR' f.k cR', .int .i64 f.week, .slice aH' f.hol.length cH'] 26)).cell? ⟨w1.heap.size, 1, none⟩ = some (Value.slice aR' f.k cR') := boxed BX.out 1
  have f2 : (w1.alloc (.cells #[.slice aC' f.n cC', .slice aR' f.k cR', .int .i64 f.week, .slice aH' f.hol.length cH'] 26)).cell? ⟨w1.heap.size, 2, none⟩ = some (.int .i64 f.week) := boxed BX.out 2
  have f3 : (w1.alloc (.cells #[.slice aC' f.n cC', .slice aR' f.k cR', .int .i64 f.week, .slice aH' f.hol.length cH'] 26)).cell? ⟨w1.heap.size, 3, none⟩ = some (Value.slice aH' f.hol.length cH') := boxed BX.out 3
  have zg : w1.heap.size < (w1.alloc (.cells #[.slice aC' f.n cC', .slice aR' f.k cR', .int .i64 f.week, .slice aH' f.hol.length cH'] 26)).heap.size := by simp
  have B0 : Hid (Below w.heap.size w (w1.alloc (.cells #[.slice aC' f.n cC', .slice aR' f.k cR', .int .i64 f.week, .slice aH' f.hol.length cH'] 26))) := B1.out.trans (BB.out.mono B1.out.size)
  have FA0 := hid (FA.out.below BB.out)
  have SC0 := hid (HSC.out.below B0.out)
  have T0 := hid (HT.out.below B0.out (Nat.le_refl _))
  clear BX BB FA B1 HT HSC
  go_upto_region 2 with (fail)
  generalize w1.alloc (.cells #[.slice aC' f.n cC', .slice aR' f.k cR', .int .i64 f.week, .slice aH' f.hol.length cH'] 26) = w0 at *
  generalize w1.heap.size = g at *
  obtain ⟨n1, n20, k6, _, _⟩ := FSO.out.ok.sizes
  have OPN := hid (c1opened T0.out FSO.out.ok FA0.out)
  go_wp2_with fail
  refine OPN.out.mono ?_
  rintro e w2 ⟨Q, p, rfl, c2, s2⟩
  have C2 := hid c2
  have S2 := hid s2
  have B2 := hid (s2.below (Below.refl _ _) (fun j hj => hj))
  have f0' := (s2.cell 0 zg).trans f0
  have f1' := (s2.cell 1 zg).trans f1
  have f2' := (s2.cell 2 zg).trans f2
  have f3' := (s2.cell 3 zg).trans f3
  have DF := hid (kdefaults_any n20 (FA0.out.below B2.out))
  have QLT := hid C2.out.qlt
  clear c2 s2 OPN
  go_wp2_with fail
  refine DF.out.mono ?_
  rintro e w3 ⟨vF, rfl, hown, hb3⟩
  obtain ⟨gF, cF, rfl, zF, _⟩ := own_cell hown (by omega)
  have hgF : w2.heap.size ≤ gF := own_from hown rfl
  have C3 := hid (C2.out.drop hb3)
  have ZF : Hid (zup (fun j => j < w0.heap.size) w2 w3 gF) := Or.inr ⟨hgF, zF⟩
  have HZ : Hid (∀ j, j < w0.heap.size → zup (fun j => j < w0.heap.size) w2 w3 j) := fun j hj => Or.inl hj
  have S3 : Hid (StZ (fun j => j < w0.heap.size) w0 w3) := S2.out.trans (StZ.of hb3 (fun j hj => by have := S2.out.size; omega))
  have OW : Hid (w3.ownsRow 0 3 1 (.slice (some ⟨gF, 0, none⟩) f.n cF) f.n (intsV (beginM f).F f.n)) := own_monoL hown (Nat.zero_le _)
  have w20 := S2.out.size
  have t00 := T0.out.1
  have OB : Hid ((beginM f).op = true ∧ (beginM f).T = 0) := ⟨beginM_op f, beginM_T f⟩
  clear hown hb3 DF C2 S2 B2 f0' f1' f2' f3'
  generalize zup (fun j => j < w0.heap.size) w2 w3 = Z at *
  generalize beginM f = mb at *
  have g0 := (S3.out.cell 0 zg).trans f0
  have g1 := (S3.out.cell 1 zg).trans f1
  have g2 := (S3.out.cell 2 zg).trans f2
  have g3 := (S3.out.cell 3 zg).trans f3
  have LC := hid (klocal_any C3.out (by omega) FSO.out (FA0.out.below (S3.out.below (Below.refl _ _) (fun j hj => hj))) OW.out)
  go_wp2_with fail
  refine LC.out.mono ?_
  rintro e w4 ⟨rfl, hb4⟩
  have C4 := hid (C3.out.keep hb4)
  have S4 := hid (S3.out.trans (StZ.of hb4 (fun j hj => by have := S3.out.size; omega)))
  have OW := hid (own_of_block OW.out (w' := w4) (fun g _ hlt => hb4.block g hlt))
  have eT := OB.out.2
  clear hb4 LC C3 S3 g0 g1 g2 g3
  go_wp2_with fail
  go_loopw [8, 9, 10] (fun tn tq ti wr => ∃ (i : Nat) (m : Cs) (now : Int), i ≤ mS ∧ tn = .int .i64 now ∧ tq = .bool true ∧ ti = .int .i64 i ∧ Hid (m.op = true ∧ m.T = now) ∧ Hid (C1 Z (1 + i) f Q p m wr) ∧ Hid (wr.ownsRow 0 3 1 (.slice (some ⟨gF, 0, none⟩) f.n cF) f.n (intsV m.F f.n)) ∧ Hid (StZ (fun j => j < w0.heap.size) w0 wr)) (fun _ _ ti _ => mS - (intOf ti).toNat)
  case atStart => exact ⟨0, mb, 0, by omega, rfl, rfl, rfl, OB, C4, OW, S4⟩
  case round =>
    clear C4 OW S4
    obtain ⟨i, m, now, i1, rfl, rfl, rfl, ho, hc, hw, hs⟩ := hrel
    have BL := hid (hs.out.below (Below.refl _ _) (fun j hj => hj))
    by_cases hit : i < mS
    · have lt' : (i : Int) < (mS : Int) := by omega
      have x0 := (hs.out.cell 0 zg).trans f0
      have x1 := (hs.out.cell 1 zg).trans f1
      have x2 := (hs.out.cell 2 zg).trans f2
      have x3 := (hs.out.cell 3 zg).trans f3
      obtain ⟨sc1, sc2⟩ := SC0.out.below BL.out
      obtain ⟨bX, oX, hax, zX, hX⟩ : ∃ b off, aS = some ⟨b, off, none⟩ ∧ b < wr.heap.size ∧ ∀ i, i < mS → wr.cell? ⟨b, off + i * 3, none⟩ = some (.int .i64 (S i).kd) ∧ wr.cell? ⟨b, off + i * 3 + 1, none⟩ = some (.int .i64 (S i).a) ∧ wr.cell? ⟨b, off + i * 3 + 2, none⟩ = some (.int .i64 (S i).b) := by
        rcases sc1 with h | h
        · omega
        · exact h
      obtain ⟨y0, y1, y2⟩ := hX i hit
      obtain ⟨s0, s1, s2⟩ := sc2 i hit
      have HM := hid hc.out.mok
      have zgr : g < wr.heap.size := by have := BL.out.size; omega
      subst hax
      clear hX sc1 sc2
      obtain ⟨sk, hsk⟩ : ∃ s, S i = s := ⟨_, rfl⟩
      rw [hsk] at y0 y1 y2 s0 s1 s2
      have PK := hid (fun W => kpick_any sk.kd 2 W s0 (by omega) (by omega))
      have pb := pickI_bd sk.kd (n := 2) (by omega)
      have SE := hid (fun W (hW : Below wr.heap.size wr W) => ksets_any n20 (FA0.out.below (BL.out.trans (hW.mono BL.out.size))) sk.kd sk.a sk.b s1 s2)
      have LOC := hid (fun (m2 : Cs) (b2 : Nat) (W : World) (h1 : C1 Z b2 f Q p m2 W) (h2 : b2 ≤ 10000000000) (h3 : StZ (fun j => j < w0.heap.size) w0 W) (h4 : W.ownsRow 0 3 1 (.slice (some ⟨gF, 0, none⟩) f.n cF) f.n (intsV m2.F f.n)) => klocal_any h1 h2 FSO.out (FA0.out.below (h3.below (Below.refl _ _) (fun j hj => hj))) h4)
      have OPM := ho.out.1
      have OTM := ho.out.2
      have HOP := hid OPM
      have HOT := hid OTM
      have nt0 : 0 ≤ now := by have := HM.out.t0; omega
      have nt1 : now ≤ 1000000000 := by have := HM.out.t1; omega
      clear OPM OTM hsk ho
      generalize hkd : sk.kd = kd at *
      generalize hka : sk.a = sa at *
      generalize hkb : sk.b = sb at *
      clear hkd hka hkb
      have BX := hid (Below.refl (wr.heap.size + 1) (wr.alloc (.cells #[.int .i64 kd, .int .i64 sa, .int .i64 sb] 34)))
      have BW := hid (boxed_below BX.out)
      have b0 : (wr.alloc (.cells #[.int .i64 kd, .int .i64 sa, .int .i64 sb] 34)).cell? ⟨wr.heap.size, 0, none⟩ = some (.int .i64 kd) := boxed BX.out 0
      have b1 : (wr.alloc (.cells #[.int .i64 kd, .int .i64 sa, .int .i64 sb] 34)).cell? ⟨wr.heap.size, 1, none⟩ = some (.int .i64 sa) := boxed BX.out 1
      have b2 : (wr.alloc (.cells #[.int .i64 kd, .int .i64 sa, .int .i64 sb] 34)).cell? ⟨wr.heap.size, 2, none⟩ = some (.int .i64 sb) := boxed BX.out 2
      have x0 := (BW.out.cell (p := ⟨g, 0, none⟩) zgr).trans x0
      have x1 := (BW.out.cell (p := ⟨g, 1, none⟩) zgr).trans x1
      have x2 := (BW.out.cell (p := ⟨g, 2, none⟩) zgr).trans x2
      have x3 := (BW.out.cell (p := ⟨g, 3, none⟩) zgr).trans x3
      have C5 := hid (hc.out.keep BW.out)
      have O5 := hid (own_of_block hw.out (w' := wr.alloc (.cells #[.int .i64 kd, .int .i64 sa, .int .i64 sb] 34)) (fun g _ hlt => BW.out.block g hlt))
      have S5 : Hid (StZ (fun j => j < w0.heap.size) w0 (wr.alloc (.cells #[.int .i64 kd, .int .i64 sa, .int .i64 sb] 34))) := hs.out.trans (StZ.of BW.out (fun j hj => by have := hs.out.size; omega))
      have zs5 : g < (wr.alloc (.cells #[.int .i64 kd, .int .i64 sa, .int .i64 sb] 34)).heap.size := by have := BW.out.size; omega
      clear hc hw BX hs
      go_upto_region 12 with (fail)
      generalize wr.alloc (.cells #[.int .i64 kd, .int .i64 sa, .int .i64 sb] 34) = w5 at *
      generalize wr.heap.size = gs at *
      go_wp2_with fail
      refine (PK.out _).mono ?_
      rintro e w' ⟨rfl, hw'⟩
      rw [hw']
      clear hw' w' PK
      have pcs : pickI kd 2 = 0 ∨ pickI kd 2 = 1 := by omega
      clear pb
      rcases pcs with e | e
      · rw [e]
        clear e
        have S0 := hid (setsK_ok f sa sb)
        have HNO := hid (fun h => sets_no (f := f) HOP.out sa sb h)
        unfold SetsP at SE
        generalize setsK f sa = ks at *
        generalize setsV f sb = vs at *
        have SE' := hid (SE.out w5 BW.out)
        go_wp2_with fail
        refine SE'.out.mono ?_
        rintro e w6 ⟨rfl, hb6⟩
        have C6 := hid (C5.out.keep hb6)
        have O6 := hid (own_of_block O5.out (w' := w6) (fun g _ hlt => hb6.block g hlt))
        have S6 : Hid (StZ (fun j => j < w0.heap.size) w0 w6) := S5.out.trans (StZ.of hb6 (fun j hj => by have := S5.out.size; omega))
        clear hb6 SE' SE C5 O5 S5 x0 x1 x2 x3 b0 b1 b2
        rcases S0.out with ⟨e1, e2⟩ | ⟨kk, e1, e2, e3, e4⟩
        · subst e1 e2
          have MO : Hid (m.op = true) := HOP.out
          have MT : Hid (m.T = now) := HOT.out
          have NW : Hid (Calls Tryd.prog 21 #[.pointer (some ⟨p.bp, 0, none⟩)] w6 fun e w' => e = .returned (.int .i64 now) ∧ w' = w6) := (c1now C6.out).mono (fun e w' g => ⟨by rw [g.1, MT.out], g.2⟩)
          have LL := hid (LOC.out m (1 + i) w6 C6.out (by omega) S6.out O6.out)
          have z0 := (S6.out.cell 0 zg).trans f0
          have z1 := (S6.out.cell 1 zg).trans f1
          have z2 := (S6.out.cell 2 zg).trans f2
          have z3 := (S6.out.cell 3 zg).trans f3
          go_wp2_with fail
          refine NW.out.mono ?_
          rintro e w' ⟨rfl, hw'⟩
          rw [hw']
          clear hw' w' NW
          go_wp2_with fail
          refine LL.out.mono ?_
          rintro e w9 ⟨rfl, hb9⟩
          have N1 : Hid (C1 Z (1 + (i + 1)) f Q p m w9) := (C6.out.keep hb9).up (by omega)
          have N2 := hid (own_of_block O6.out (w' := w9) (fun g _ hlt => hb9.block g hlt))
          have N3 := hid (S6.out.trans (StZ.of hb9 (fun j hj => by have := S6.out.size; omega)))
          clear hb9 LL LOC
          go_wp2
          go_roundw
          case rel => exact ⟨i + 1, m, now, by omega, by go_num, rfl, by go_num, ⟨MO.out, MT.out⟩, N1, N2, N3⟩
          case measure => simp [intOf]; omega
        · have hno : setNo f m ks vs = 0 := HNO.out (by omega)
          have MO : Hid ((setM f m ks vs).op = true) := by show _ = _; rw [setM_op]; exact HOP.out
          have MT : Hid ((setM f m ks vs).T = now) := by show _ = _; rw [setM_T]; exact HOT.out
          have MF : Hid ((setM f m ks vs).F = upd m.F kk vs) := by show _ = _; rw [setM_F hno, e1]; rfl
          have SS := hid ((c1set C6.out (by omega) ks vs).mono (fun _ _ g => C1P.as g (r' := .int .i64 0) (m' := setM f m ks vs) (congrArg (Value.int .i64) hno) rfl))
          have kp : 0 ≤ ks := by omega
          have kl : (kk : Int) < (f.n : Int) := by omega
          subst e1
          clear hno S0 HNO e3 e4
          generalize setM f m kk vs = m2 at *
          go_wp2_with fail
          refine SS.out.mono ?_
          rintro e w7 ⟨rfl, c7, s7⟩
          have C7 := hid c7
          have O7 := hid (own_of_block O6.out (w' := w7) (fun g hg _ => s7.block g (by cases hg; exact ZF.out)))
          have S7 := hid (S6.out.trans (s7.less HZ.out))
          obtain ⟨_, _, e7, zF7, xF7⟩ := own_cell O7.out (by omega)
          simp at e7
          obtain ⟨rfl, rfl⟩ := e7
          have q1 := xF7 kk (by omega)
          rw [intsV_at _ e2] at q1
          have q2 := own_frozen O7.out kk
          have C8 : Hid (C1 Z (1 + i + 1) f Q p m2 (w7.setCell ⟨gF, kk, none⟩ (.int .i64 vs))) := C7.out.store ZF.out (fun h => by have := QLT.out _ h; omega) (by omega) (by simp [World.setCell]) (fun j _ hj => Go.Deep.blk_setCell_other _ _ _ _ hj)
          have O8 : Hid ((w7.setCell ⟨gF, kk, none⟩ (.int .i64 vs)).ownsRow 0 3 1 (.slice (some ⟨gF, 0, none⟩) f.n cF) f.n (intsV m2.F f.n)) := by
            rw [MF.out]
            exact own_set O7.out e2 vs
          have S8 : Hid (StZ (fun j => j < w0.heap.size) w0 (w7.setCell ⟨gF, kk, none⟩ (.int .i64 vs))) := S7.out.trans ⟨rfl, rfl, rfl, by simp [World.setCell], fun j hj => Go.Deep.blk_setCell_other _ _ _ _ (by show j ≠ gF; omega)⟩
          clear c7 s7 SS C6 O6 S6 C7 O7 S7 xF7
          go_upto_region 22 with (fail)
          generalize w7.setCell ⟨gF, kk, none⟩ (.int .i64 vs) = w8 at *
          have NW : Hid (Calls Tryd.prog 21 #[.pointer (some ⟨p.bp, 0, none⟩)] w8 fun e w' => e = .returned (.int .i64 now) ∧ w' = w8) := (c1now C8.out).mono (fun e w' g => ⟨by rw [g.1, MT.out], g.2⟩)
          have LL := hid (LOC.out m2 (1 + i + 1) w8 C8.out (by omega) S8.out O8.out)
          have z0 := (S8.out.cell 0 zg).trans f0
          have z1 := (S8.out.cell 1 zg).trans f1
          have z2 := (S8.out.cell 2 zg).trans f2
          have z3 := (S8.out.cell 3 zg).trans f3
          go_wp2_with fail
          refine NW.out.mono ?_
          rintro e w' ⟨rfl, hw'⟩
          rw [hw']
          clear hw' w' NW
          go_wp2_with fail
          refine LL.out.mono ?_
          rintro e w9 ⟨rfl, hb9⟩
          have N1 : Hid (C1 Z (1 + (i + 1)) f Q p m2 w9) := (C8.out.keep hb9).up (by omega)
          have N2 := hid (own_of_block O8.out (w' := w9) (fun g _ hlt => hb9.block g hlt))
          have N3 := hid (S8.out.trans (StZ.of hb9 (fun j hj => by have := S8.out.size; omega)))
          clear hb9 LL LOC
          go_wp2
          go_roundw
          case rel => exact ⟨i + 1, m2, now, by omega, by go_num, rfl, by go_num, ⟨MO.out, MT.out⟩, N1, N2, N3⟩
          case measure => simp [intOf]; omega
      · rw [e]
        clear e SE
        have ot := ontoI_bd sa nt0 nt1
        have ON := hid (fun W => konto_any now sa W nt0 nt1 s1)
        generalize ontoI now sa = tq at *
        have MO : Hid ((advM f m tq).op = true) := by show _ = _; rw [advM_op]; exact HOP.out
        have MT : Hid ((advM f m tq).T = tq) := by show _ = _; exact advM_T f m (by have := HOT.out; omega) ot.2
        have MF : Hid ((advM f m tq).F = m.F) := advM_F _ _ _
        have AN : Hid (advAns m.T tq = 0) := by show _ = _; unfold advAns; rw [if_neg (by have := HOT.out; omega)]
        have AA := hid ((c1adv C5.out (by omega) tq).mono (fun _ _ g => C1P.as g (r' := .int .i64 0) (m' := advM f m tq) (congrArg (Value.int .i64) AN.out) rfl))
        generalize advM f m tq = m2 at *
        go_wp2_with fail
        refine (ON.out _).mono ?_
        rintro e w' ⟨rfl, hw'⟩
        rw [hw']
        clear hw' w' ON
        go_wp2_with fail
        refine AA.out.mono ?_
        rintro e w7 ⟨rfl, c7, s7⟩
        have C7 := hid c7
        have O7 : Hid (w7.ownsRow 0 3 1 (.slice (some ⟨gF, 0, none⟩) f.n cF) f.n (intsV m2.F f.n)) := by
          rw [MF.out]
          exact own_of_block O5.out (w' := w7) (fun g hg _ => s7.block g (by cases hg; exact ZF.out))
        have S7 := hid (S5.out.trans (s7.less HZ.out))
        clear c7 s7 AA C5 O5 S5 x0 x1 x2 x3 b0 b1 b2
        have NW : Hid (Calls Tryd.prog 21 #[.pointer (some ⟨p.bp, 0, none⟩)] w7 fun e w' => e = .returned (.int .i64 tq) ∧ w' = w7) := (c1now C7.out).mono (fun e w' g => ⟨by rw [g.1, MT.out], g.2⟩)
        have LL := hid (LOC.out m2 (1 + i) w7 C7.out (by omega) S7.out O7.out)
        have z0 := (S7.out.cell 0 zg).trans f0
        have z1 := (S7.out.cell 1 zg).trans f1
        have z2 := (S7.out.cell 2 zg).trans f2
        have z3 := (S7.out.cell 3 zg).trans f3
        go_wp2_with fail
        refine NW.out.mono ?_
        rintro e w' ⟨rfl, hw'⟩
        rw [hw']
        clear hw' w' NW
        go_wp2_with fail
        refine LL.out.mono ?_
        rintro e w9 ⟨rfl, hb9⟩
        have N1 : Hid (C1 Z (1 + (i + 1)) f Q p m2 w9) := (C7.out.keep hb9).up (by omega)
        have N2 := hid (own_of_block O7.out (w' := w9) (fun g _ hlt => hb9.block g hlt))
        have N3 := hid (S7.out.trans (StZ.of hb9 (fun j hj => by have := S7.out.size; omega)))
        clear hb9 LL LOC
        go_wp2
        go_roundw
        case rel => exact ⟨i + 1, m2, tq, by omega, by go_num, rfl, by go_num, ⟨MO.out, MT.out⟩, N1, N2, N3⟩
        case measure => simp [intOf]; omega
    · have R : Hid (TPost w (.returned (.bool true)) wr) := ⟨rfl, B0.out.trans (BL.out.mono B0.out.size)⟩
      go_wp2
      go_ret
      exact R.out

end Go.Proofs.YtmofidaojmiepaaDoor

/-
  PLAIN MATHEMATICS: a form with its cells the other way round.
-/
set_option linter.unusedVariables false
set_option linter.unusedSimpArgs false
namespace Go.Proofs.YtmofidaojmiepaaDoor
open Go.RowKit

/-- The i-th cell of the form the other way round. -/
def mirC (c : Cel) (n : Nat) : Cel :=
  ⟨c.kind, if 0 < M.needs c.kind then n - 1 - c.a else 0, if 1 < M.needs c.kind then n - 1 - c.b else 0, if 2 < M.needs c.kind then n - 1 - c.c else 0, c.k⟩
def Frm.mir (f : Frm) : Frm := ⟨fun i => mirC (f.C (f.n - 1 - i)) f.n, f.n, fun i => ⟨f.n - 1 - (f.R i).guard, (f.R i).steps⟩, f.k, f.hol, f.week⟩

theorem way_map {E E' : Nat → Nat → Prop} {g : Nat → Nat} (h : ∀ i j, E i j → E' (g i) (g j)) {i : Nat} : ∀ {s j : Nat}, M.Way E s i j → M.Way E' s (g i) (g j)
  | 0, j, e => by
    have e' : i = j := e
    subst e'
    exact rfl
  | s + 1, j, e => by
    obtain ⟨k, h1, h2⟩ := e
    exact ⟨g k, way_map h h1, h _ _ h2⟩

theorem mir_ed {f : Frm} (hc : CellsOk f.C f.n) (i j : Nat) (h : Ed f.mir.C f.n i j) : Ed f.C f.n (f.n - 1 - i) (f.n - 1 - j) := by
  obtain ⟨hi, h⟩ := h
  obtain ⟨_, _, _, ha, hb, hcc⟩ := hc (f.n - 1 - i) (by omega)
  refine ⟨by omega, ?_⟩
  have h' : (0 < M.needs (f.C (f.n - 1 - i)).kind ∧ (if 0 < M.needs (f.C (f.n - 1 - i)).kind then (f.n : Int) - 1 - (f.C (f.n - 1 - i)).a else 0) = j) ∨ (1 < M.needs (f.C (f.n - 1 - i)).kind ∧ (if 1 < M.needs (f.C (f.n - 1 - i)).kind then (f.n : Int) - 1 - (f.C (f.n - 1 - i)).b else 0) = j) ∨ (2 < M.needs (f.C (f.n - 1 - i)).kind ∧ (if 2 < M.needs (f.C (f.n - 1 - i)).kind then (f.n : Int) - 1 - (f.C (f.n - 1 - i)).c else 0) = j) := h
  rcases h' with ⟨p, e⟩ | ⟨p, e⟩ | ⟨p, e⟩
  · rw [if_pos p] at e
    have := ha p
    exact Or.inl ⟨p, by omega⟩
  · rw [if_pos p] at e
    have := hb p
    exact Or.inr (Or.inl ⟨p, by omega⟩)
  · rw [if_pos p] at e
    have := hcc p
    exact Or.inr (Or.inr ⟨p, by omega⟩)

theorem mir_ok {f : Frm} (hf : f.Ok) : f.mir.Ok := by
  refine ⟨hf.sizes, hf.hol, fun i hi => ?_, fun i hi => ?_, fun i hi => ?_⟩
  · have hi' : i < f.n := hi
    obtain ⟨k0, k1, hK, ha, hb, hc⟩ := hf.cells (f.n - 1 - i) (by omega)
    refine ⟨k0, k1, hK, fun p => ?_, fun p => ?_, fun p => ?_⟩
    · have p' : 0 < M.needs (f.C (f.n - 1 - i)).kind := p
      show 0 ≤ (if 0 < M.needs (f.C (f.n - 1 - i)).kind then (f.n : Int) - 1 - (f.C (f.n - 1 - i)).a else 0) ∧ (if 0 < M.needs (f.C (f.n - 1 - i)).kind then (f.n : Int) - 1 - (f.C (f.n - 1 - i)).a else 0) < f.n
      rw [if_pos p']
      have := ha p'
      omega
    · have p' : 1 < M.needs (f.C (f.n - 1 - i)).kind := p
      show 0 ≤ (if 1 < M.needs (f.C (f.n - 1 - i)).kind then (f.n : Int) - 1 - (f.C (f.n - 1 - i)).b else 0) ∧ (if 1 < M.needs (f.C (f.n - 1 - i)).kind then (f.n : Int) - 1 - (f.C (f.n - 1 - i)).b else 0) < f.n
      rw [if_pos p']
      have := hb p'
      omega
    · have p' : 2 < M.needs (f.C (f.n - 1 - i)).kind := p
      show 0 ≤ (if 2 < M.needs (f.C (f.n - 1 - i)).kind then (f.n : Int) - 1 - (f.C (f.n - 1 - i)).c else 0) ∧ (if 2 < M.needs (f.C (f.n - 1 - i)).kind then (f.n : Int) - 1 - (f.C (f.n - 1 - i)).c else 0) < f.n
      rw [if_pos p']
      have := hc p'
      omega
  · rintro ⟨s, s1, hw⟩
    have hi' : i < f.n := hi
    exact hf.ring (f.n - 1 - i) (by omega) ⟨s, s1, way_map (g := fun i => f.n - 1 - i) (mir_ed hf.cells) hw⟩
  · obtain ⟨g0, g1, g2, g3⟩ := hf.rules i hi
    exact ⟨by show 0 ≤ (f.n : Int) - 1 - (f.R i).guard; omega, by show (f.n : Int) - 1 - (f.R i).guard < f.n; omega, g2, g3⟩

theorem needs_two {kd : Int} (h : 2 ≤ kd ∧ kd ≤ 8) : M.needs kd = 2 := by
  unfold M.needs
  rw [if_neg (by omega), if_neg (by omega), if_neg (by omega), if_pos h]
theorem crel_same {week : Int} {hol : List Int} {t : Int} {c c' : Cel} {x y z x' y' z' v : Int} (hk : c'.kind = c.kind) (hK : c'.k = c.k) (hx : 0 < M.needs c.kind → x' = x) (hy : 1 < M.needs c.kind → y' = y) (hz : 2 < M.needs c.kind → z' = z) (h : CRel week hol t c x y z v) : CRel week hol t c' x' y' z' v := by
  obtain ⟨h0, h2, h9, h10, h11, h12⟩ := h
  refine ⟨fun e => ?_, fun e => ?_, fun e => ?_, fun e => ?_, fun e => ?_, fun e => ?_⟩
  · rw [hK]; exact h0 (by rw [← hk]; exact e)
  · rw [hk] at e ⊢
    rw [hx (by rw [needs_two e]; omega), hy (by rw [needs_two e]; omega)]
    exact h2 e
  · rw [hk] at e
    have n : M.needs c.kind = 3 := by rw [e]; rfl
    rw [hx (by omega), hy (by omega), hz (by omega)]
    exact h9 e
  · rw [hk] at e
    have n : M.needs c.kind = 1 := by rw [e]; rfl
    rw [hx (by omega)]
    exact h10 e
  · rw [hk] at e
    have n : M.needs c.kind = 1 := by rw [e]; rfl
    rw [hx (by omega), hK]
    exact h11 e
  · rw [hk] at e
    have n : M.needs c.kind = 1 := by rw [e]; rfl
    rw [hx (by omega), hK]
    exact h12 e

/-- What is filled in, the other way round. -/
def MirF (f : Frm) (F F' : Nat → Int) : Prop := ∀ i, i < f.n → F' i = F (f.n - 1 - i)

theorem mir_fv {f : Frm} {F F' : Nat → Int} (hF : FV f F) (h : MirF f F F') : FV f.mir F' := fun i hi hk => by
  have hi' : i < f.n := hi
  rw [h i hi']
  exact hF _ (by omega) hk

theorem mir_vals {f : Frm} (hf : f.Ok) {F F' : Nat → Int} (hF : FV f F) (h : MirF f F F') {T : Int} (t0 : 0 ≤ T) (t1 : T ≤ 1000000000) : ∀ i, i < f.n → f.mir.vals F' T i = f.vals F T (f.n - 1 - i) := by
  intro i hi
  have hl := (vals_local hf hF t0 t1).1
  symm
  refine vals_eq (mir_ok hf) (mir_fv hF h) (V := fun i => f.vals F T (f.n - 1 - i)) (fun i hi => ?_) i hi
  have hi' : i < f.n := hi
  obtain ⟨_, _, _, ha, hb, hc⟩ := hf.cells (f.n - 1 - i) (by omega)
  have q := hl (f.n - 1 - i) (by omega)
  have back : ∀ a : Int, 0 ≤ a ∧ a < f.n → pk (fun i => f.vals F T (f.n - 1 - i)) f.n ((f.n : Int) - 1 - a) = pk (f.vals F T) f.n a := fun a ha => by
    unfold pk
    rw [if_pos (by omega), if_pos ha]
    show f.vals F T (f.n - 1 - ((f.n : Int) - 1 - a).toNat) = _
    congr 1
    omega
  refine crel_same (c := effC f.C F (f.n - 1 - i)) rfl ?_ (fun p => ?_) (fun p => ?_) (fun p => ?_) q
  · show (if (f.C (f.n - 1 - i)).kind = 0 then F' i else (f.C (f.n - 1 - i)).k) = (if (f.C (f.n - 1 - i)).kind = 0 then F (f.n - 1 - i) else (f.C (f.n - 1 - i)).k)
    rw [h i hi']
  · have p' : 0 < M.needs (f.C (f.n - 1 - i)).kind := p
    show pk _ f.n (if 0 < M.needs (f.C (f.n - 1 - i)).kind then (f.n : Int) - 1 - (f.C (f.n - 1 - i)).a else 0) = _
    rw [if_pos p']
    exact back _ (ha p')
  · have p' : 1 < M.needs (f.C (f.n - 1 - i)).kind := p
    show pk _ f.n (if 1 < M.needs (f.C (f.n - 1 - i)).kind then (f.n : Int) - 1 - (f.C (f.n - 1 - i)).b else 0) = _
    rw [if_pos p']
    exact back _ (hb p')
  · have p' : 2 < M.needs (f.C (f.n - 1 - i)).kind := p
    show pk _ f.n (if 2 < M.needs (f.C (f.n - 1 - i)).kind then (f.n : Int) - 1 - (f.C (f.n - 1 - i)).c else 0) = _
    rw [if_pos p']
    exact back _ (hc p')

/-- Two cases that show the same, the cells the other way round. -/
structure Mir (f : Frm) (m m' : Cs) : Prop where
  F : MirF f m.F m'.F
  T : m'.T = m.T
  op : m'.op = m.op
  S : m'.S = m.S
  E : m'.E = m.E

theorem flat_congr {α β : Type} {g h : α → List β} : ∀ {l : List α}, (∀ x, x ∈ l → g x = h x) → l.flatMap g = l.flatMap h
  | [], _ => rfl
  | x :: l, e => by
    rw [List.flatMap_cons, List.flatMap_cons, e x (by simp), flat_congr (fun y hy => e y (by simp [hy]))]

theorem mir_settle {f : Frm} (hf : f.Ok) {m m' : Cs} (hF : FV f m.F) (t0 : 0 ≤ m.T) (t1 : m.T ≤ 1000000000) (h : Mir f m m') : Mir f (m.settle f) (m'.settle f.mir) := by
  have hv := mir_vals hf hF h.F t0 t1
  have hg : ∀ i, i < f.k → grd f.mir.R (f.mir.vals m'.F m.T) i = grd f.R (f.vals m.F m.T) i := fun i hi => by
    obtain ⟨g0, g1, _⟩ := hf.rules i hi
    show f.mir.vals m'.F m.T ((f.n : Int) - 1 - (f.R i).guard).toNat = f.vals m.F m.T (f.R i).guard.toNat
    rw [hv _ (by omega)]
    congr 1
    omega
  unfold Cs.settle
  by_cases ho : m.op = true
  · rw [if_pos ho, if_pos (by rw [h.op]; exact ho)]
    refine ⟨h.F, h.T, h.op, ?_, ?_⟩
    · show setS f.mir (f.mir.vals m'.F m'.T) m'.T m'.S = setS f (f.vals m.F m.T) m.T m.S
      rw [h.T, h.S]
      funext i
      unfold setS
      by_cases hi : i < f.k
      · rw [if_pos (show i < f.mir.k from hi), if_pos hi, hg i hi]
        rfl
      · rw [if_neg (show ¬ i < f.mir.k from hi), if_neg hi]
    · show m'.E ++ setE f.mir (f.mir.vals m'.F m'.T) m'.T m'.S = m.E ++ setE f (f.vals m.F m.T) m.T m.S
      rw [h.T, h.S, h.E]
      congr 1
      unfold setE
      show (List.range f.k).flatMap _ = _
      refine flat_congr ?_
      intro i hi
      rw [hg i (List.mem_range.1 hi)]
      rfl
  · rw [if_neg ho, if_neg (by rw [h.op]; exact ho)]
    exact h

theorem mir_go {f : Frm} (hf : f.Ok) {m m' : Cs} (hm : m.Ok f) (h : Mir f m m') : ∀ j : Nat, m.T + j ≤ 1000000000 → Mir f (m.go f j) (m'.go f.mir j) := by
  intro j
  induction j with
  | zero => exact fun _ => h
  | succ j ih =>
    intro hj
    have i := ih (by omega)
    have t0 := hm.t0
    show Mir f (Cs.settle f ((m.go f j).at (m.T + (j + 1 : Nat)))) (Cs.settle f.mir ((m'.go f.mir j).at (m'.T + (j + 1 : Nat))))
    rw [h.T]
    exact mir_settle hf (by show FV f (m.go f j).F; rw [go_F]; exact hm.fv) (by show 0 ≤ m.T + _; omega) hj ⟨i.F, rfl, i.op, i.S, i.E⟩
theorem mir_adv {f : Frm} (hf : f.Ok) {m m' : Cs} (hm : m.Ok f) (h : Mir f m m') (tq : Int) : Mir f (advM f m tq) (advM f.mir m' tq) ∧ advAns m'.T tq = advAns m.T tq := by
  refine ⟨?_, by rw [h.T]⟩
  unfold advM
  rw [h.T]
  split
  · exact h
  · exact mir_go hf hm h _ (by omega)
theorem mir_set {f : Frm} (hf : f.Ok) {m m' : Cs} (hm : m.Ok f) (h : Mir f m m') {k : Nat} (hk : k < f.n) (v : Int) : Mir f (setM f m k v) (setM f.mir m' ((f.n - 1 - k : Nat) : Int) v) ∧ setNo f.mir m' ((f.n - 1 - k : Nat) : Int) v = setNo f m k v := by
  have e : setNo f.mir m' ((f.n - 1 - k : Nat) : Int) v = setNo f m k v := by
    unfold setNo setAns
    rw [h.op]
    have ek : (f.mir.C (((f.n - 1 - k : Nat) : Int)).toNat).kind = (f.C ((k : Int)).toNat).kind := by
      show (f.C (f.n - 1 - (((f.n - 1 - k : Nat) : Int)).toNat)).kind = _
      congr 2
      omega
    rw [ek]
    have e1 : ¬ ((((f.n - 1 - k : Nat) : Int)) < 0 ∨ (f.mir.n : Int) ≤ ((f.n - 1 - k : Nat) : Int)) := by show ¬ (_ ∨ (f.n : Int) ≤ _); omega
    rw [if_neg e1, if_neg (show ¬ ((k : Int) < 0 ∨ (f.n : Int) ≤ k) by omega)]
  refine ⟨?_, e⟩
  unfold setM
  rw [e]
  split
  · rename_i h0
    have hv : FV f (m.fill (k : Int).toNat v).F := by
      intro i hi hki
      show IsV (upd m.F (k : Int).toNat v i)
      by_cases ei : i = (k : Int).toNat
      · rw [ei, upd_same]
        unfold setNo at h0
        split at h0
        · cases h0
        · exact (setAns_zero h0).2.2.2
      · rw [upd_other _ _ ei]
        exact hm.fv i hi hki
    refine mir_settle hf hv hm.t0 hm.t1 ⟨fun i hi => ?_, h.T, h.op, h.S, h.E⟩
    show upd m'.F (((f.n - 1 - k : Nat) : Int)).toNat v i = upd m.F (k : Int).toNat v (f.n - 1 - i)
    by_cases ei : i = f.n - 1 - k
    · rw [show (((f.n - 1 - k : Nat) : Int)).toNat = i by omega, show (k : Int).toNat = f.n - 1 - i by omega, upd_same, upd_same]
    · rw [upd_other _ _ (by omega), upd_other _ _ (by omega)]
      exact h.F i hi
  · exact h
theorem mir_begin {f : Frm} (hf : f.Ok) : Mir f (beginM f) (beginM f.mir) := by
  unfold beginM
  exact mir_settle hf (begin_fv hf) (Int.le_refl _) (by show (0 : Int) ≤ _; omega) ⟨fun i hi => rfl, rfl, rfl, rfl, rfl⟩

end Go.Proofs.YtmofidaojmiepaaDoor

/-
  THE WALKS: docketkeep's mirrored.
-/
set_option linter.unusedVariables false
set_option linter.unusedSimpArgs false
namespace Go.Proofs.YtmofidaojmiepaaDoor
open Go.RowKit
attribute [local go_sem ↓] Go.wp_at_zero Go.wp_at_succ

theorem own_rulesI {w : World} {base : Nat} {v : Value} {R : Nat → Rul} {sv : Nat → Value} {m : Nat} (h : w.ownsRow base 86 2 v m (rules2 R sv m)) (hs : ∀ i, i < m → ∃ a c, sv i = .slice a (R i).steps.length c ∧ IntsAt w (.slice a (R i).steps.length c) (R i).steps) (hl : ∀ i, i < m → (R i).steps.length ≤ 1000000000) : ∃ a c, v = .slice a m c ∧ RAt w a m R := by
  obtain ⟨a, c, rfl, h2⟩ := own_at h
  refine ⟨a, c, rfl, ?_⟩
  rcases h2 with h2 | ⟨g, rfl, hg, hc⟩
  · exact Or.inl h2
  · refine Or.inr ⟨g, 0, rfl, hg, fun i hi => ?_⟩
    have at' : ∀ j, j < m * 2 → w.cell? ⟨g, j, none⟩ = some (rulV R sv j) := fun j hj => by rw [hc j hj]; simp [rules2, hj]
    obtain ⟨as', cs', e1, e2⟩ := hs i hi
    rw [Nat.zero_add]
    refine ⟨?_, as', cs', ?_, e2, hl i hi⟩
    · rw [at' _ (by omega)]; unfold rulV; rw [if_pos (by omega), show i * 2 / 2 = i by omega]
    · rw [at' _ (by omega)]; unfold rulV; rw [if_neg (by omega), show (i * 2 + 1) / 2 = i by omega, e1]
theorem fat_mir {w : World} {base : Nat} {f : Frm} {vC vR : Value} {sv : Nat → Value} {aH : Option Addr} {cH : Nat} (hC : w.ownsRow base 82 5 vC f.n (cells5 f.C f.n)) (hR : w.ownsRow base 86 2 vR f.k (rules2 f.R sv f.k)) (hS : ∀ i, i < f.k → ∃ a c, sv i = .slice a (f.R i).steps.length c ∧ IntsAt w (.slice a (f.R i).steps.length c) (f.R i).steps) (hl : ∀ i, i < f.k → (f.R i).steps.length ≤ 1000000000) (hH : IntsAt w (.slice aH f.hol.length cH) f.hol) : FAt w f (.agg #[vC, vR, .int .i64 f.week, .slice aH f.hol.length cH]) := by
  obtain ⟨aC, cC, rfl, h1⟩ := own_cells hC
  obtain ⟨aR, cR, rfl, h2⟩ := own_rulesI hR hS hl
  exact ⟨aC, cC, aR, cR, aH, cH, rfl, h1, h2, hH⟩
theorem x_row (W : World) (a b c d e : Int) (N : Nat) (hN : N = W.heap.size) : (W.alloc (.cells #[.int .i64 a, .int .i64 b, .int .i64 c, .int .i64 d, .int .i64 e] 82)).rowIs N 82 5 (fun i => if i = 0 then .int .i64 a else if i = 1 then .int .i64 b else if i = 2 then .int .i64 c else if i = 3 then .int .i64 d else .int .i64 e) := by
  subst hN
  exact World.rowIs_alloc W #[.int .i64 a, .int .i64 b, .int .i64 c, .int .i64 d, .int .i64 e] 82 _ (fun i hi => by
    have hi' : i = 0 ∨ i = 1 ∨ i = 2 ∨ i = 3 ∨ i = 4 := by simp at hi; omega
    rcases hi' with rfl | rfl | rfl | rfl | rfl <;> rfl)

set_option maxRecDepth 100000 in
set_option maxHeartbeats 8000000 in
theorem kmirrored_any {f : Frm} (hs : f.Shaped) {fv : Value} {w : World} (hfv : FAt w f fv) : Calls Tryd.prog 22 #[fv] w fun e w' => ShP f.mir w e w' := by
  obtain ⟨i76, y1, y2⟩ := Option.map_eq_some_iff.1 info76
  obtain ⟨i80, y5, y6⟩ := Option.map_eq_some_iff.1 info80
  simp only [Prod.mk.injEq] at y2 y6
  have I76 := hid y1
  have Z76 := hid y2
  have I80 := hid y5
  have Z80 := hid y6
  clear y1 y2 y5 y6
  have HS := hid hs
  obtain ⟨n1, n20, k6, _, _⟩ := hs.ok.sizes
  obtain ⟨aC, cC, aR, cR, aH, cH, rfl, hcs, hrs, hhs⟩ := hfv
  have HCS := hid hcs
  have HRS := hid hrs
  have HHS := hid hhs
  have MCE : Hid (∀ i, i < f.n → f.mir.C (f.n - (i + 1)) = mirC (f.C i) f.n) := fun i hi => by
    show mirC (f.C (f.n - 1 - (f.n - (i + 1)))) f.n = _
    rw [show f.n - 1 - (f.n - (i + 1)) = i by omega]
  have MRE : Hid (∀ i, f.mir.R i = ⟨f.n - 1 - (f.R i).guard, (f.R i).steps⟩) := fun i => rfl
  clear hcs hrs hhs hs
  have B0 := hid (Below.refl (w.heap.size + 1 + 1) ((w.alloc (.cells #[.slice aC f.n cC, .slice aR f.k cR, .int .i64 f.week, .slice aH f.hol.length cH] 26)).alloc (.cells #[.slice none 0 0, .slice none 0 0, .int .i64 0, .slice none 0 0] 26)))
  have G0 : Hid ((((w.alloc (.cells #[.slice aC f.n cC, .slice aR f.k cR, .int .i64 f.week, .slice aH f.hol.length cH] 26)).alloc (.cells #[.slice none 0 0, .slice none 0 0, .int .i64 0, .slice none 0 0] 26)).alloc (.cells #[.slice none 0 0, .slice none 0 0, .int .i64 f.week, .slice aH f.hol.length cH] 26)).rowIs (w.heap.size + 1 + 1) 26 4 (gCopy (.slice none 0 0) (.slice aH f.hol.length cH) f.week (.slice none 0 0))) := by
    have := World.rowIs_alloc ((w.alloc (.cells #[.slice aC f.n cC, .slice aR f.k cR, .int .i64 f.week, .slice aH f.hol.length cH] 26)).alloc (.cells #[.slice none 0 0, .slice none 0 0, .int .i64 0, .slice none 0 0] 26)) #[.slice none 0 0, .slice none 0 0, .int .i64 f.week, .slice aH f.hol.length cH] 26 (gCopy (.slice none 0 0) (.slice aH f.hol.length cH) f.week (.slice none 0 0)) (fun i hi => by
      have hi' : i = 0 ∨ i = 1 ∨ i = 2 ∨ i = 3 := by simp at hi; omega
      rcases hi' with rfl | rfl | rfl | rfl <;> rfl)
    simp only [World.size_alloc] at this
    exact this
  have B1 : Hid (Below (w.heap.size + 1 + 1) ((w.alloc (.cells #[.slice aC f.n cC, .slice aR f.k cR, .int .i64 f.week, .slice aH f.hol.length cH] 26)).alloc (.cells #[.slice none 0 0, .slice none 0 0, .int .i64 0, .slice none 0 0] 26)) (((w.alloc (.cells #[.slice aC f.n cC, .slice aR f.k cR, .int .i64 f.week, .slice aH f.hol.length cH] 26)).alloc (.cells #[.slice none 0 0, .slice none 0 0, .int .i64 0, .slice none 0 0] 26)).alloc (.cells #[.slice none 0 0, .slice none 0 0, .int .i64 f.week, .slice aH f.hol.length cH] 26))) := B0.out.alloc (by simp) _
  go_enter Tryd.func22, Tryd.ntmps22
  go_wp2
  go_loopw [5] (fun t wr => ∃ (q : Nat) (v : Value), q ≤ f.n ∧ t = .int .i64 ((q : Int) - 1) ∧ w.heap.size + 1 + 1 < wr.heap.size ∧ Hid (Below (w.heap.size + 1 + 1) ((w.alloc (.cells #[.slice aC f.n cC, .slice aR f.k cR, .int .i64 f.week, .slice aH f.hol.length cH] 26)).alloc (.cells #[.slice none 0 0, .slice none 0 0, .int .i64 0, .slice none 0 0] 26)) wr) ∧ Hid (wr.rowIs (w.heap.size + 1 + 1) 26 4 (gCopy v (.slice aH f.hol.length cH) f.week (.slice none 0 0))) ∧ Hid (wr.ownsRow (w.heap.size + 1 + 1 + 1) 82 5 v (f.n - q) (cells5 f.mir.C (f.n - q)))) (fun t _ => (intOf t + 1).toNat)
  case atStart => exact ⟨f.n, .slice none 0 0, by omega, by go_num, G0.out.lt, B1, G0, by rw [Nat.sub_self]; exact ⟨rfl, Or.inl ⟨rfl, rfl⟩⟩⟩
  case round =>
    clear G0 B0 B1
    obtain ⟨q, v, q1, rfl, hsz, hb, hg, hown⟩ := hrel
    have hbw := hid (two_boxes_below hb.out)
    have f0 := (two_boxes hb.out 0).1
    have f1 := (two_boxes hb.out 1).1
    have f2 := (two_boxes hb.out 2).1
    have f3 := (two_boxes hb.out 3).1
    simp at f0 f1 f2 f3
    by_cases hq0 : q = 0
    · subst hq0
      rw [show (((0 : Nat) : Int)) - 1 = -1 by omega]
      have e1 : f.n - 0 = f.n := by omega
      have T3 : Hid (wr.ownsRow (w.heap.size + 1 + 1 + 1) 82 5 v f.n (cells5 f.mir.C f.n)) := by
        have := hown.out
        rw [e1] at this
        exact this
      have T1 := hb
      have T2 := hg
      have T4 := hid hsz
      clear hb hg hown hbw e1
      obtain ⟨av, cv, rfl⟩ := own_len T3.out
      go_wp2
      go_loopw [9] (fun t wr => ∃ (j : Nat) (v2 : Value) (sv : Nat → Value), j ≤ f.k ∧ t = .int .i64 j ∧ w.heap.size + 1 + 1 < wr.heap.size ∧ Hid (Below (w.heap.size + 1 + 1) ((w.alloc (.cells #[.slice aC f.n cC, .slice aR f.k cR, .int .i64 f.week, .slice aH f.hol.length cH] 26)).alloc (.cells #[.slice none 0 0, .slice none 0 0, .int .i64 0, .slice none 0 0] 26)) wr) ∧ Hid (wr.rowIs (w.heap.size + 1 + 1) 26 4 (gCopy (.slice av f.n cv) (.slice aH f.hol.length cH) f.week v2)) ∧ Hid (wr.ownsRow (w.heap.size + 1 + 1 + 1) 82 5 (.slice av f.n cv) f.n (cells5 f.mir.C f.n)) ∧ Hid (wr.ownsRow (w.heap.size + 1 + 1 + 1) 86 2 v2 j (rules2 f.mir.R sv j)) ∧ Hid (∀ x, x < j → ∃ a c, sv x = .slice a (f.R x).steps.length c ∧ IntsAt w (.slice a (f.R x).steps.length c) (f.R x).steps)) (fun t _ => f.k - (intOf t).toNat)
      case atStart => exact ⟨0, .slice none 0 0, fun _ => .slice none 0 0, by omega, rfl, T4.out, T1, T2, T3, ⟨rfl, Or.inl ⟨rfl, rfl⟩⟩, fun x hx => by omega⟩
      case round =>
        clear T1 T2 T3 T4 f0 f1 f2 f3 hsz
        obtain ⟨j, v2, sv, j1, rfl, hsz, hb, hg, hown, hru, hst⟩ := hrel
        have hbw := hid (two_boxes_below hb.out)
        have f1 := (two_boxes hb.out 1).1
        simp at f1
        by_cases hit : j < f.k
        · obtain ⟨bR, oR, haR, zR, zR0, hRR⟩ : ∃ b off, aR = some ⟨b, off, none⟩ ∧ b < wr.heap.size ∧ b < w.heap.size ∧ ∀ m, m < f.k → RuleIs w b (off + m * 2) (f.R m) := by
            rcases HRS.out with h | ⟨b, o, e1, e2, e3⟩
            · omega
            · exact ⟨b, o, e1, by have := hbw.out.size; omega, e2, e3⟩
          subst haR
          obtain ⟨u0, ast, caps, u1, u2, u3⟩ := hRR j hit
          have lt' : (j : Int) < (f.k : Int) := by omega
          have q0 : wr.cell? ⟨bR, oR + j * 2, none⟩ = some (.int .i64 (f.R j).guard) := (hbw.out.cell (p := ⟨bR, oR + j * 2, none⟩) zR0).trans u0
          have q1 : wr.cell? ⟨bR, oR + j * 2 + 1, none⟩ = some (.slice ast (f.R j).steps.length caps) := (hbw.out.cell (p := ⟨bR, oR + j * 2 + 1, none⟩) zR0).trans u1
          obtain ⟨rg0, rg1, _⟩ := HS.out.ok.rules j hit
          have U2 := hid u2
          have GJ : Hid ((f.mir.R j).guard = f.n - 1 - (f.R j).guard) := by show _ = _; rw [MRE.out]
          have d1 := hg.out.cell (i := 1) (by omega)
          have d9 := hg.out.frozen 1
          simp [gCopy] at d1
          have d1a : ∀ o, (wr.alloc o).cell? ⟨w.heap.size + 1 + 1, 1, none⟩ = some v2 := fun o => by rw [World.cell?_alloc_lt (h := hsz)]; exact d1
          have NE : Hid (v2.ownBlock ≠ some (w.heap.size + 1 + 1)) := fun e => by have := own_base hru.out e; omega
          clear hRR u0 u1 u2
          generalize (f.R j).guard = rg at *
          obtain ⟨gj, hgj⟩ : ∃ s : Int, f.n - 1 - rg = s := ⟨_, rfl⟩
          rw [hgj] at GJ
          have EW : Hid (IntKind.i64.wrap (IntKind.i64.wrap ((f.n : Int) - 1) - rg) = gj) := by show _ = _; simp only [IntKind.wrap_i64]; omega
          clear hgj
          have FIN : Hid (∀ (g cap : Nat) (w6 : World) (o : Obj), w6.ownsRow (w.heap.size + 1 + 1 + 1) 86 2 (.slice (some ⟨g, 0, none⟩) (j + 1) cap) (j + 1) (rules2 f.mir.R sv j ++ [.int .i64 (IntKind.i64.wrap (IntKind.i64.wrap ((f.n : Int) - 1) - rg)), .slice ast (f.R j).steps.length caps]) → ((wr.alloc o).drew).grownBy w6 v2.ownBlock → ∃ (v2 : Value) (sv : Nat → Value), w.heap.size + 1 + 1 < (w6.setCell ⟨w.heap.size + 1 + 1, 1, none⟩ (.slice (some ⟨g, 0, none⟩) (j + 1) cap)).heap.size ∧ Hid (Below (w.heap.size + 1 + 1) ((w.alloc (.cells #[.slice aC f.n cC, .slice (some ⟨bR, oR, none⟩) f.k cR, .int .i64 f.week, .slice aH f.hol.length cH] 26)).alloc (.cells #[.slice none 0 0, .slice none 0 0, .int .i64 0, .slice none 0 0] 26)) (w6.setCell ⟨w.heap.size + 1 + 1, 1, none⟩ (.slice (some ⟨g, 0, none⟩) (j + 1) cap))) ∧ Hid ((w6.setCell ⟨w.heap.size + 1 + 1, 1, none⟩ (.slice (some ⟨g, 0, none⟩) (j + 1) cap)).rowIs (w.heap.size + 1 + 1) 26 4 (gCopy (.slice av f.n cv) (.slice aH f.hol.length cH) f.week v2)) ∧ Hid ((w6.setCell ⟨w.heap.size + 1 + 1, 1, none⟩ (.slice (some ⟨g, 0, none⟩) (j + 1) cap)).ownsRow (w.heap.size + 1 + 1 + 1) 82 5 (.slice av f.n cv) f.n (cells5 f.mir.C f.n)) ∧ Hid ((w6.setCell ⟨w.heap.size + 1 + 1, 1, none⟩ (.slice (some ⟨g, 0, none⟩) (j + 1) cap)).ownsRow (w.heap.size + 1 + 1 + 1) 86 2 v2 (j + 1) (rules2 f.mir.R sv (j + 1))) ∧ Hid (∀ x, x < j + 1 → ∃ a c, sv x = .slice a (f.R x).steps.length c ∧ IntsAt w (.slice a (f.R x).steps.length c) (f.R x).steps)) := fun g cap w6 o hown2 hgrow => by
            have hbk : w6.heap[w.heap.size + 1 + 1]? = wr.heap[w.heap.size + 1 + 1]? := ev_far wr _ hgrow hsz NE.out
            have GBl : Below (w.heap.size + 1 + 1) wr w6 := grow_below hgrow (by omega) (fun g hg' => by have := own_base hru.out hg'; omega)
            have s6 := GBl.size
            have lo : w.heap.size + 1 + 1 < w.heap.size + 1 + 1 + 1 := by omega
            have N1 := hid ((hb.out.trans GBl).setCell (p := ⟨w.heap.size + 1 + 1, 1, none⟩) (Nat.le_refl _) (.slice (some ⟨g, 0, none⟩) (j + 1) cap))
            have N2 : Hid ((w6.setCell ⟨w.heap.size + 1 + 1, 1, none⟩ (.slice (some ⟨g, 0, none⟩) (j + 1) cap)).rowIs (w.heap.size + 1 + 1) 26 4 (gCopy (.slice av f.n cv) (.slice aH f.hol.length cH) f.week (.slice (some ⟨g, 0, none⟩) (j + 1) cap))) := ((hg.out.of_block hbk).set 1 _).congr (fun x _ => gCopy_set x)
            have N3 : Hid ((w6.setCell ⟨w.heap.size + 1 + 1, 1, none⟩ (.slice (some ⟨g, 0, none⟩) (j + 1) cap)).ownsRow (w.heap.size + 1 + 1 + 1) 82 5 (.slice av f.n cv) f.n (cells5 f.mir.C f.n)) := ownsRow_setCell_below (own_far hown.out hru.out (by decide) hgrow) lo _
            have N4 : Hid ((w6.setCell ⟨w.heap.size + 1 + 1, 1, none⟩ (.slice (some ⟨g, 0, none⟩) (j + 1) cap)).ownsRow (w.heap.size + 1 + 1 + 1) 86 2 (.slice (some ⟨g, 0, none⟩) (j + 1) cap) (j + 1) (rules2 f.mir.R (upd sv j (.slice ast (f.R j).steps.length caps)) (j + 1))) := by
              rw [rules2_more, GJ.out, ← EW.out]
              exact ownsRow_setCell_below hown2 lo _
            have N5 : Hid (∀ x, x < j + 1 → ∃ a c, upd sv j (.slice ast (f.R j).steps.length caps) x = .slice a (f.R x).steps.length c ∧ IntsAt w (.slice a (f.R x).steps.length c) (f.R x).steps) := fun x hx => by
              by_cases e : x = j
              · subst e
                rw [upd_same]
                exact ⟨ast, caps, rfl, U2.out⟩
              · rw [upd_other _ _ e]
                exact hst.out x (by omega)
            have N6 : Hid (w.heap.size + 1 + 1 < (w6.setCell ⟨w.heap.size + 1 + 1, 1, none⟩ (.slice (some ⟨g, 0, none⟩) (j + 1) cap)).heap.size) := by show _ < _; simp; omega
            exact ⟨.slice (some ⟨g, 0, none⟩) (j + 1) cap, upd sv j (.slice ast (f.R j).steps.length caps), N6.out, N1, N2, N3, N4, N5⟩
          go_upto_block 3 with (fail)
          go_cut [] (fun wx => ∃ (v2 : Value) (sv : Nat → Value), w.heap.size + 1 + 1 < wx.heap.size ∧ Hid (Below (w.heap.size + 1 + 1) ((w.alloc (.cells #[.slice aC f.n cC, .slice (some ⟨bR, oR, none⟩) f.k cR, .int .i64 f.week, .slice aH f.hol.length cH] 26)).alloc (.cells #[.slice none 0 0, .slice none 0 0, .int .i64 0, .slice none 0 0] 26)) wx) ∧ Hid (wx.rowIs (w.heap.size + 1 + 1) 26 4 (gCopy (.slice av f.n cv) (.slice aH f.hol.length cH) f.week v2)) ∧ Hid (wx.ownsRow (w.heap.size + 1 + 1 + 1) 82 5 (.slice av f.n cv) f.n (cells5 f.mir.C f.n)) ∧ Hid (wx.ownsRow (w.heap.size + 1 + 1 + 1) 86 2 v2 (j + 1) (rules2 f.mir.R sv (j + 1))) ∧ Hid (∀ x, x < j + 1 → ∃ a c, sv x = .slice a (f.R x).steps.length c ∧ IntsAt w (.slice a (f.R x).steps.length c) (f.R x).steps))
          case rest =>
            obtain ⟨v3, sv3, r1, r2, r3, r4, r5, r6⟩ := hcut
            go_wp2
            go_roundw
            case rel => exact ⟨j + 1, v3, sv3, by omega, by go_num, r1, r2, r3, r4, r5, r6⟩
            case measure => simp [intOf]; omega
          case first =>
            go_upto_region 19 with (fail)
            go_region_law (first | (refine step_append_lies _ rfl (.tmp 75) (.tmp 92) 23 rfl (w.heap.size + 1 + 1 + 1) 86 i80 _ 2 32 Tryd.underlying23 I80.out Z80.out.1 Z80.out.2.1 Z80.out.2.2 rfl (by omega) v2 j (rules2 f.mir.R sv j) (by simp [Act.eval, Act.put]) (by exact own_alloc_drew hru.out _) ⟨wr.heap.size, 0, none⟩ 1 1 [.int .i64 (IntKind.i64.wrap (IntKind.i64.wrap ((f.n : Int) - 1) - rg)), .slice ast (f.R j).steps.length caps] (by simp [Act.eval, Act.put]) (by rfl) (by exact news2 _ _ _ _) (by simp [Value.oneCell']) (by omega) (by unfold maxLen; omega) (by omega) (by simp; omega) (wr.heap.size + 1) (by simp) ?_; intro g cap w6 hown2 hgrow hat hlt; have hbk : w6.heap[w.heap.size + 1 + 1]? = wr.heap[w.heap.size + 1 + 1]? := ev_far wr _ hgrow hsz NE.out; have e8 : w6.cell? ⟨w.heap.size + 1 + 1, 1, none⟩ = some v2 := (by rw [World.cell?_of_block (w := wr) hbk]; exact d1); have e9 : w6.frozen? ⟨w.heap.size + 1 + 1, 1, none⟩ = false := (by rw [World.frozen?_of_block (w := wr) hbk]; exact d9); have k1 : w6.cell? ⟨w.heap.size, 1, none⟩ = some (.slice (some ⟨bR, oR, none⟩) f.k cR) := (by rw [World.cell?_of_block (w := wr) (show w6.heap[w.heap.size]? = wr.heap[w.heap.size]? from ev_far wr _ hgrow (by omega) (fun e => by have := own_base hru.out e; omega))]; exact f1); have k2 : w6.cell? ⟨bR, oR + j * 2, none⟩ = some (.int .i64 rg) := (by rw [World.cell?_of_block (w := wr) (show w6.heap[bR]? = wr.heap[bR]? from ev_far wr _ hgrow zR (fun e => by have := own_base hru.out e; omega))]; exact q0); have k3 : w6.cell? ⟨bR, oR + j * 2 + 1, none⟩ = some (.slice ast (f.R j).steps.length caps) := (by rw [World.cell?_of_block (w := wr) (show w6.heap[bR]? = wr.heap[bR]? from ev_far wr _ hgrow zR (fun e => by have := own_base hru.out e; omega))]; exact q1)) | fail)
            all_goals (go_wp2_with fail; go_meet; exact FIN.out _ _ _ _ hown2 hgrow)
        · obtain rfl : j = f.k := by omega
          obtain ⟨a2, c2, rfl⟩ := own_len hru.out
          obtain ⟨_, F2⟩ := two_rows hb.out (gCopy (.slice aC f.n cC) (.slice aH f.hol.length cH) f.week (.slice aR f.k cR)) (gf 0) (fun i hi => by
            have hi' : i = 0 ∨ i = 1 ∨ i = 2 ∨ i = 3 := by simp at hi; omega
            rcases hi' with rfl | rfl | rfl | rfl <;> rfl) (fun i hi => by
            have hi' : i = 0 ∨ i = 1 ∨ i = 2 ∨ i = 3 := by simp at hi; omega
            rcases hi' with rfl | rfl | rfl | rfl <;> rfl)
          have F2' : wr.rowIs (w.heap.size + 1) 26 4 (gf 0) := F2
          have d0 := hg.out.cell (i := 0) (by omega)
          have d1 := hg.out.cell (i := 1) (by omega)
          have d2 := hg.out.cell (i := 2) (by omega)
          have d3 := hg.out.cell (i := 3) (by omega)
          simp [gCopy] at d0 d1 d2 d3
          have r0 := F2'.cell (i := 0) (by omega)
          have r1 := F2'.cell (i := 1) (by omega)
          have r2 := F2'.cell (i := 2) (by omega)
          have r3 := F2'.cell (i := 3) (by omega)
          have rz : ∀ x, wr.frozen? ⟨w.heap.size + 1, x, none⟩ = false := fun x => F2'.frozen x
          simp [gf] at r0 r1 r2 r3
          obtain ⟨FW, hFW⟩ : ∃ FW, FW = ((((wr.setCell ⟨w.heap.size + 1, 0, none⟩ (.slice av f.n cv)).setCell ⟨w.heap.size + 1, 1, none⟩ (.slice a2 f.k c2)).setCell ⟨w.heap.size + 1, 2, none⟩ (.int .i64 f.week)).setCell ⟨w.heap.size + 1, 3, none⟩ (.slice aH f.hol.length cH)) := ⟨_, rfl⟩
          have P0 : Hid (FW.rowIs (w.heap.size + 1) 26 4 (fun x => if x = 3 then .slice aH f.hol.length cH else if x = 2 then .int .i64 f.week else if x = 1 then .slice a2 f.k c2 else if x = 0 then .slice av f.n cv else gf 0 x)) := by
            rw [hFW]
            exact (((F2'.set _ _).set _ _).set _ _).set _ _
          have l1 : w.heap.size + 1 < w.heap.size + 1 + 1 + 1 := by omega
          have MV : ∀ e sz v nn xs, wr.ownsRow (w.heap.size + 1 + 1 + 1) e sz v nn xs → FW.ownsRow (w.heap.size + 1 + 1 + 1) e sz v nn xs := fun e sz v nn xs h => by
            rw [hFW]
            exact ownsRow_setCell_below (ownsRow_setCell_below (ownsRow_setCell_below (ownsRow_setCell_below h l1 _) l1 _) l1 _) l1 _
          have P2 : Below w.heap.size w FW := by
            rw [hFW]
            exact (((hbw.out.setCell (by show _ ≤ w.heap.size + 1; omega) _).setCell (by show _ ≤ w.heap.size + 1; omega) _).setCell (by show _ ≤ w.heap.size + 1; omega) _).setCell (by show _ ≤ w.heap.size + 1; omega) _
          have Q : Hid (ShP f.mir w (.returned (.agg #[.slice av f.n cv, .slice a2 f.k c2, .int .i64 f.week, .slice aH f.hol.length cH])) FW) := by
            refine ⟨_, rfl, ?_, P2⟩
            exact fat_mir (f := f.mir) (MV _ _ _ _ _ hown.out) (MV _ _ _ _ _ hru.out) (fun x hx => by
              obtain ⟨a, c, e1, e2⟩ := hst.out x hx
              exact ⟨a, c, e1, SlAt.below e2 P2 (Nat.le_refl _)⟩) (fun x hx => by
              have := (HS.out.ok.rules x hx).2.2.1
              show (f.R x).steps.length ≤ _
              omega) (SlAt.below HHS.out P2 (Nat.le_refl _))
          have HFW := hid hFW
          clear hFW P2 MV hb hg hown hru hst F2 F2'
          go_wp2
          rw [← HFW.out]
          have x0 := P0.out.cell (i := 0) (by omega)
          have x1 := P0.out.cell (i := 1) (by omega)
          have x2 := P0.out.cell (i := 2) (by omega)
          have x3 := P0.out.cell (i := 3) (by omega)
          simp at x0 x1 x2 x3
          exact bodyPost_ret (v := .agg #[.slice av f.n cv, .slice a2 f.k c2, .int .i64 f.week, .slice aH f.hol.length cH]) (by simp [results, Tryd.results22, go_sem, x0, x1, x2, x3]) rfl Q.out
    · obtain ⟨i, rfl⟩ : ∃ i, q = i + 1 := ⟨q - 1, by omega⟩
      rw [show (((i + 1 : Nat) : Int)) - 1 = i by omega]
      obtain ⟨bC, oC, hac, zC, hC⟩ : ∃ b off, aC = some ⟨b, off, none⟩ ∧ b < wr.heap.size ∧ ∀ m, m < f.n → CelIs wr b (off + m * 5) (f.C m) := by
        rcases HCS.out.below hbw.out with h | h
        · omega
        · exact h
      subst hac
      obtain ⟨g0, g1, g2, g3, g4⟩ := hC i (by omega)
      obtain ⟨kd0, kd1, _⟩ := HS.out.ok.cells i (by omega)
      have a0 := HS.out.a0 i (by omega)
      have b0 := HS.out.b0 i (by omega)
      have c0 := HS.out.c0 i (by omega)
      have KN := hid (fun W => kneeds_any (f.C i).kind W kd0 kd1)
      have lt' : (i : Int) < (f.n : Int) := by omega
      have MC := MCE.out i (by omega)
      have MR : Hid (cells5 f.mir.C (f.n - i) = cells5 f.mir.C (f.n - (i + 1)) ++ [.int .i64 (mirC (f.C i) f.n).kind, .int .i64 (mirC (f.C i) f.n).a, .int .i64 (mirC (f.C i) f.n).b, .int .i64 (mirC (f.C i) f.n).c, .int .i64 (mirC (f.C i) f.n).k]) := by
        have := cells5_more f.mir.C (f.n - (i + 1))
        rw [MC] at this
        rw [show f.n - i = f.n - (i + 1) + 1 by omega]
        exact this
      have NV : M.needs (f.C i).kind = 0 ∨ M.needs (f.C i).kind = 1 ∨ M.needs (f.C i).kind = 2 ∨ M.needs (f.C i).kind = 3 := by
        unfold M.needs
        repeat' split
        all_goals omega
      clear hC MC f1 f2 f3 kd0 kd1
      unfold mirC at MR
      generalize (f.C i).kind = kd at *
      generalize (f.C i).a = ca at *
      generalize (f.C i).b = cb at *
      generalize (f.C i).c = cc at *
      generalize (f.C i).k = ck at *
      rcases NV with e | e | e | e
      · rw [e] at KN MR
        have MR : Hid (cells5 f.mir.C (f.n - i) = cells5 f.mir.C (f.n - (i + 1)) ++ [.int .i64 kd, .int .i64 (0), .int .i64 (0), .int .i64 (0), .int .i64 ck]) := MR.out
        clear e
        go_wp2_with fail
        refine (KN.out _).mono ?_
        rintro e w' ⟨rfl, hw⟩
        rw [hw]
        clear hw w' KN
        obtain ⟨w5, hw5⟩ : ∃ W, W = ((wr.alloc (.cells #[.int .i64 kd, .int .i64 ca, .int .i64 cb, .int .i64 cc, .int .i64 ck] 82)).alloc (.cells #[.int .i64 kd, .int .i64 (0), .int .i64 (0), .int .i64 (0), .int .i64 ck] 82)) := ⟨_, rfl⟩
        have XR := (x_row (wr.alloc (.cells #[.int .i64 kd, .int .i64 ca, .int .i64 cb, .int .i64 cc, .int .i64 ck] 82)) kd (0) (0) (0) ck (wr.heap.size + 1) (by simp))
        rw [← hw5] at XR
        have B5 : Hid (Below wr.heap.size wr w5) := by
          rw [hw5]
          exact ((Below.refl wr.heap.size wr).alloc (Nat.le_refl _) _).alloc (by simp) _
        have s5 : wr.heap.size + 2 ≤ w5.heap.size := by rw [hw5]; simp
        have x0 := XR.cell (i := 0) (by omega)
        have x1 := XR.cell (i := 1) (by omega)
        have x2 := XR.cell (i := 2) (by omega)
        have x3 := XR.cell (i := 3) (by omega)
        have x4 := XR.cell (i := 4) (by omega)
        simp at x0 x1 x2 x3 x4
        have HW5 := hid hw5
        clear hw5 XR
        go_upto_region 15 with (fail)
        rw [← HW5.out]
        clear HW5 g0 g1 g2 g3 g4 f0
        skip
        have K1 := hid (hb.out.trans (B5.out.mono (by omega)))
        have K2 := hid (hg.out.of_block (B5.out.block _ hsz))
        have K3 := hid (own_of_block hown.out (w' := w5) (fun g _ hlt => B5.out.block g hlt))
        clear hb hg hown hbw B5
        have d0 := K2.out.cell (i := 0) (by omega)
        have d9 := K2.out.frozen 0
        simp [gCopy] at d0
        have z5 : w.heap.size + 1 + 1 < w5.heap.size := by omega
        have zx5 : wr.heap.size + 1 < w5.heap.size := by omega
        have d0a : ∀ o, (w5.alloc o).cell? ⟨w.heap.size + 1 + 1, 0, none⟩ = some v := fun o => by rw [World.cell?_alloc_lt (h := z5)]; exact d0
        have NE : Hid (v.ownBlock ≠ some (w.heap.size + 1 + 1)) := fun e => by have := own_base K3.out e; omega
        have jn : f.n - (i + 1) ≤ 20 := by omega
        have jn1 : Hid (f.n - i = f.n - (i + 1) + 1) := by show _ = _; omega
        generalize f.n - (i + 1) = jj at *
        go_wp2_with (at_builtin; refine wpList_append_lies _ rfl (.tmp 62) (.tmp 64) 22 rfl (w.heap.size + 1 + 1 + 1) 82 i76 _ 5 40 Tryd.underlying22 I76.out Z76.out.1 Z76.out.2.1 Z76.out.2.2 rfl (by omega) v jj (cells5 f.mir.C jj) (by rfl) (own_alloc0 K3.out _) ⟨w5.heap.size, 0, none⟩ 1 1 [.int .i64 kd, .int .i64 (0), .int .i64 (0), .int .i64 (0), .int .i64 ck] (by rfl) (by rfl) (news5k _ _ _ _ _ _ _ (by simp)) (by simp [Value.oneCell']) (by omega) (by unfold maxLen; omega) (by omega) (by simp; omega) (w5.heap.size + 1) (by simp) ?_; intro g cap w6 hown2 hgrow hat hlt; refine stopH ?_)
        have hbk : w6.heap[w.heap.size + 1 + 1]? = w5.heap[w.heap.size + 1 + 1]? := ev_far0 w5 _ hgrow z5 NE.out
        have e8 : w6.cell? ⟨w.heap.size + 1 + 1, 0, none⟩ = some v := by rw [World.cell?_of_block (w := w5) hbk]; exact d0
        have e9 : w6.frozen? ⟨w.heap.size + 1 + 1, 0, none⟩ = false := by rw [World.frozen?_of_block (w := w5) hbk]; exact d9
        have B6 : Below (w.heap.size + 1 + 1) w5 w6 := grow_below0 hgrow (by omega) (fun g hg' => by have := own_base K3.out hg'; omega)
        have s6 := B6.size
        have lo : w.heap.size + 1 + 1 < w.heap.size + 1 + 1 + 1 := by omega
        have N1 := hid ((K1.out.trans B6).setCell (p := ⟨w.heap.size + 1 + 1, 0, none⟩) (Nat.le_refl _) (.slice (some ⟨g, 0, none⟩) (jj + 1) cap))
        have N2 : Hid ((w6.setCell ⟨w.heap.size + 1 + 1, 0, none⟩ (.slice (some ⟨g, 0, none⟩) (jj + 1) cap)).rowIs (w.heap.size + 1 + 1) 26 4 (gCopy (.slice (some ⟨g, 0, none⟩) (jj + 1) cap) (.slice aH f.hol.length cH) f.week (.slice none 0 0))) := ((K2.out.of_block hbk).set 0 _).congr (fun x hx => by
          have : x = 0 ∨ x = 1 ∨ x = 2 ∨ x = 3 := by omega
          rcases this with rfl | rfl | rfl | rfl <;> rfl)
        have N3 : Hid ((w6.setCell ⟨w.heap.size + 1 + 1, 0, none⟩ (.slice (some ⟨g, 0, none⟩) (jj + 1) cap)).ownsRow (w.heap.size + 1 + 1 + 1) 82 5 (.slice (some ⟨g, 0, none⟩) (jj + 1) cap) (f.n - i) (cells5 f.mir.C (f.n - i))) := by
          rw [MR.out, jn1.out]
          exact ownsRow_setCell_below hown2 lo _
        have N4 : Hid (w.heap.size + 1 + 1 < (w6.setCell ⟨w.heap.size + 1 + 1, 0, none⟩ (.slice (some ⟨g, 0, none⟩) (jj + 1) cap)).heap.size) := by show _ < _; simp; omega
        clear hbk B6 hown2 hgrow hat hlt K1 K2 K3 d0 d0a d9 MR
        refine hid ?_
        go_wp2
        go_roundw
        case rel => exact ⟨i, .slice (some ⟨g, 0, none⟩) (jj + 1) cap, by omega, by go_num, N4.out, N1, N2, N3⟩
        case measure => first | (simp [intOf]; done) | (simp [intOf]; omega)
      · rw [e] at KN MR
        have MR : Hid (cells5 f.mir.C (f.n - i) = cells5 f.mir.C (f.n - (i + 1)) ++ [.int .i64 kd, .int .i64 (f.n - 1 - ca), .int .i64 (0), .int .i64 (0), .int .i64 ck]) := MR.out
        clear e
        go_wp2_with fail
        refine (KN.out _).mono ?_
        rintro e w' ⟨rfl, hw⟩
        rw [hw]
        clear hw w' KN
        obtain ⟨w5, hw5⟩ : ∃ W, W = ((wr.alloc (.cells #[.int .i64 kd, .int .i64 ca, .int .i64 cb, .int .i64 cc, .int .i64 ck] 82)).alloc (.cells #[.int .i64 kd, .int .i64 (f.n - 1 - ca), .int .i64 (0), .int .i64 (0), .int .i64 ck] 82)) := ⟨_, rfl⟩
        have XR := (x_row (wr.alloc (.cells #[.int .i64 kd, .int .i64 ca, .int .i64 cb, .int .i64 cc, .int .i64 ck] 82)) kd (f.n - 1 - ca) (0) (0) ck (wr.heap.size + 1) (by simp))
        rw [← hw5] at XR
        have B5 : Hid (Below wr.heap.size wr w5) := by
          rw [hw5]
          exact ((Below.refl wr.heap.size wr).alloc (Nat.le_refl _) _).alloc (by simp) _
        have s5 : wr.heap.size + 2 ≤ w5.heap.size := by rw [hw5]; simp
        have x0 := XR.cell (i := 0) (by omega)
        have x1 := XR.cell (i := 1) (by omega)
        have x2 := XR.cell (i := 2) (by omega)
        have x3 := XR.cell (i := 3) (by omega)
        have x4 := XR.cell (i := 4) (by omega)
        simp at x0 x1 x2 x3 x4
        have HW5 := hid hw5
        clear hw5 XR
        go_upto_region 15 with (fail)
        rw [← HW5.out]
        clear HW5 g0 g1 g2 g3 g4 f0
        skip
        have K1 := hid (hb.out.trans (B5.out.mono (by omega)))
        have K2 := hid (hg.out.of_block (B5.out.block _ hsz))
        have K3 := hid (own_of_block hown.out (w' := w5) (fun g _ hlt => B5.out.block g hlt))
        clear hb hg hown hbw B5
        have d0 := K2.out.cell (i := 0) (by omega)
        have d9 := K2.out.frozen 0
        simp [gCopy] at d0
        have z5 : w.heap.size + 1 + 1 < w5.heap.size := by omega
        have zx5 : wr.heap.size + 1 < w5.heap.size := by omega
        have d0a : ∀ o, (w5.alloc o).cell? ⟨w.heap.size + 1 + 1, 0, none⟩ = some v := fun o => by rw [World.cell?_alloc_lt (h := z5)]; exact d0
        have NE : Hid (v.ownBlock ≠ some (w.heap.size + 1 + 1)) := fun e => by have := own_base K3.out e; omega
        have jn : f.n - (i + 1) ≤ 20 := by omega
        have jn1 : Hid (f.n - i = f.n - (i + 1) + 1) := by show _ = _; omega
        generalize f.n - (i + 1) = jj at *
        go_wp2_with (at_builtin; refine wpList_append_lies _ rfl (.tmp 62) (.tmp 64) 22 rfl (w.heap.size + 1 + 1 + 1) 82 i76 _ 5 40 Tryd.underlying22 I76.out Z76.out.1 Z76.out.2.1 Z76.out.2.2 rfl (by omega) v jj (cells5 f.mir.C jj) (by rfl) (own_alloc0 K3.out _) ⟨w5.heap.size, 0, none⟩ 1 1 [.int .i64 kd, .int .i64 (f.n - 1 - ca), .int .i64 (0), .int .i64 (0), .int .i64 ck] (by rfl) (by rfl) (news5k _ _ _ _ _ _ _ (by simp)) (by simp [Value.oneCell']) (by omega) (by unfold maxLen; omega) (by omega) (by simp; omega) (w5.heap.size + 1) (by simp) ?_; intro g cap w6 hown2 hgrow hat hlt; refine stopH ?_)
        have hbk : w6.heap[w.heap.size + 1 + 1]? = w5.heap[w.heap.size + 1 + 1]? := ev_far0 w5 _ hgrow z5 NE.out
        have e8 : w6.cell? ⟨w.heap.size + 1 + 1, 0, none⟩ = some v := by rw [World.cell?_of_block (w := w5) hbk]; exact d0
        have e9 : w6.frozen? ⟨w.heap.size + 1 + 1, 0, none⟩ = false := by rw [World.frozen?_of_block (w := w5) hbk]; exact d9
        have B6 : Below (w.heap.size + 1 + 1) w5 w6 := grow_below0 hgrow (by omega) (fun g hg' => by have := own_base K3.out hg'; omega)
        have s6 := B6.size
        have lo : w.heap.size + 1 + 1 < w.heap.size + 1 + 1 + 1 := by omega
        have N1 := hid ((K1.out.trans B6).setCell (p := ⟨w.heap.size + 1 + 1, 0, none⟩) (Nat.le_refl _) (.slice (some ⟨g, 0, none⟩) (jj + 1) cap))
        have N2 : Hid ((w6.setCell ⟨w.heap.size + 1 + 1, 0, none⟩ (.slice (some ⟨g, 0, none⟩) (jj + 1) cap)).rowIs (w.heap.size + 1 + 1) 26 4 (gCopy (.slice (some ⟨g, 0, none⟩) (jj + 1) cap) (.slice aH f.hol.length cH) f.week (.slice none 0 0))) := ((K2.out.of_block hbk).set 0 _).congr (fun x hx => by
          have : x = 0 ∨ x = 1 ∨ x = 2 ∨ x = 3 := by omega
          rcases this with rfl | rfl | rfl | rfl <;> rfl)
        have N3 : Hid ((w6.setCell ⟨w.heap.size + 1 + 1, 0, none⟩ (.slice (some ⟨g, 0, none⟩) (jj + 1) cap)).ownsRow (w.heap.size + 1 + 1 + 1) 82 5 (.slice (some ⟨g, 0, none⟩) (jj + 1) cap) (f.n - i) (cells5 f.mir.C (f.n - i))) := by
          rw [MR.out, jn1.out]
          exact ownsRow_setCell_below hown2 lo _
        have N4 : Hid (w.heap.size + 1 + 1 < (w6.setCell ⟨w.heap.size + 1 + 1, 0, none⟩ (.slice (some ⟨g, 0, none⟩) (jj + 1) cap)).heap.size) := by show _ < _; simp; omega
        clear hbk B6 hown2 hgrow hat hlt K1 K2 K3 d0 d0a d9 MR
        refine hid ?_
        go_wp2
        go_roundw
        case rel => exact ⟨i, .slice (some ⟨g, 0, none⟩) (jj + 1) cap, by omega, by go_num, N4.out, N1, N2, N3⟩
        case measure => first | (simp [intOf]; done) | (simp [intOf]; omega)
      · rw [e] at KN MR
        have MR : Hid (cells5 f.mir.C (f.n - i) = cells5 f.mir.C (f.n - (i + 1)) ++ [.int .i64 kd, .int .i64 (f.n - 1 - ca), .int .i64 (f.n - 1 - cb), .int .i64 (0), .int .i64 ck]) := MR.out
        clear e
        go_wp2_with fail
        refine (KN.out _).mono ?_
        rintro e w' ⟨rfl, hw⟩
        rw [hw]
        clear hw w' KN
        obtain ⟨w5, hw5⟩ : ∃ W, W = ((wr.alloc (.cells #[.int .i64 kd, .int .i64 ca, .int .i64 cb, .int .i64 cc, .int .i64 ck] 82)).alloc (.cells #[.int .i64 kd, .int .i64 (f.n - 1 - ca), .int .i64 (f.n - 1 - cb), .int .i64 (0), .int .i64 ck] 82)) := ⟨_, rfl⟩
        have XR := (x_row (wr.alloc (.cells #[.int .i64 kd, .int .i64 ca, .int .i64 cb, .int .i64 cc, .int .i64 ck] 82)) kd (f.n - 1 - ca) (f.n - 1 - cb) (0) ck (wr.heap.size + 1) (by simp))
        rw [← hw5] at XR
        have B5 : Hid (Below wr.heap.size wr w5) := by
          rw [hw5]
          exact ((Below.refl wr.heap.size wr).alloc (Nat.le_refl _) _).alloc (by simp) _
        have s5 : wr.heap.size + 2 ≤ w5.heap.size := by rw [hw5]; simp
        have x0 := XR.cell (i := 0) (by omega)
        have x1 := XR.cell (i := 1) (by omega)
        have x2 := XR.cell (i := 2) (by omega)
        have x3 := XR.cell (i := 3) (by omega)
        have x4 := XR.cell (i := 4) (by omega)
        simp at x0 x1 x2 x3 x4
        have HW5 := hid hw5
        clear hw5 XR
        go_upto_region 15 with (fail)
        rw [← HW5.out]
        clear HW5 g0 g1 g2 g3 g4 f0
        skip
        have K1 := hid (hb.out.trans (B5.out.mono (by omega)))
        have K2 := hid (hg.out.of_block (B5.out.block _ hsz))
        have K3 := hid (own_of_block hown.out (w' := w5) (fun g _ hlt => B5.out.block g hlt))
        clear hb hg hown hbw B5
        have d0 := K2.out.cell (i := 0) (by omega)
        have d9 := K2.out.frozen 0
        simp [gCopy] at d0
        have z5 : w.heap.size + 1 + 1 < w5.heap.size := by omega
        have zx5 : wr.heap.size + 1 < w5.heap.size := by omega
        have d0a : ∀ o, (w5.alloc o).cell? ⟨w.heap.size + 1 + 1, 0, none⟩ = some v := fun o => by rw [World.cell?_alloc_lt (h := z5)]; exact d0
        have NE : Hid (v.ownBlock ≠ some (w.heap.size + 1 + 1)) := fun e => by have := own_base K3.out e; omega
        have jn : f.n - (i + 1) ≤ 20 := by omega
        have jn1 : Hid (f.n - i = f.n - (i + 1) + 1) := by show _ = _; omega
        generalize f.n - (i + 1) = jj at *
        go_wp2_with (at_builtin; refine wpList_append_lies _ rfl (.tmp 62) (.tmp 64) 22 rfl (w.heap.size + 1 + 1 + 1) 82 i76 _ 5 40 Tryd.underlying22 I76.out Z76.out.1 Z76.out.2.1 Z76.out.2.2 rfl (by omega) v jj (cells5 f.mir.C jj) (by rfl) (own_alloc0 K3.out _) ⟨w5.heap.size, 0, none⟩ 1 1 [.int .i64 kd, .int .i64 (f.n - 1 - ca), .int .i64 (f.n - 1 - cb), .int .i64 (0), .int .i64 ck] (by rfl) (by rfl) (news5k _ _ _ _ _ _ _ (by simp)) (by simp [Value.oneCell']) (by omega) (by unfold maxLen; omega) (by omega) (by simp; omega) (w5.heap.size + 1) (by simp) ?_; intro g cap w6 hown2 hgrow hat hlt; refine stopH ?_)
        have hbk : w6.heap[w.heap.size + 1 + 1]? = w5.heap[w.heap.size + 1 + 1]? := ev_far0 w5 _ hgrow z5 NE.out
        have e8 : w6.cell? ⟨w.heap.size + 1 + 1, 0, none⟩ = some v := by rw [World.cell?_of_block (w := w5) hbk]; exact d0
        have e9 : w6.frozen? ⟨w.heap.size + 1 + 1, 0, none⟩ = false := by rw [World.frozen?_of_block (w := w5) hbk]; exact d9
        have B6 : Below (w.heap.size + 1 + 1) w5 w6 := grow_below0 hgrow (by omega) (fun g hg' => by have := own_base K3.out hg'; omega)
        have s6 := B6.size
        have lo : w.heap.size + 1 + 1 < w.heap.size + 1 + 1 + 1 := by omega
        have N1 := hid ((K1.out.trans B6).setCell (p := ⟨w.heap.size + 1 + 1, 0, none⟩) (Nat.le_refl _) (.slice (some ⟨g, 0, none⟩) (jj + 1) cap))
        have N2 : Hid ((w6.setCell ⟨w.heap.size + 1 + 1, 0, none⟩ (.slice (some ⟨g, 0, none⟩) (jj + 1) cap)).rowIs (w.heap.size + 1 + 1) 26 4 (gCopy (.slice (some ⟨g, 0, none⟩) (jj + 1) cap) (.slice aH f.hol.length cH) f.week (.slice none 0 0))) := ((K2.out.of_block hbk).set 0 _).congr (fun x hx => by
          have : x = 0 ∨ x = 1 ∨ x = 2 ∨ x = 3 := by omega
          rcases this with rfl | rfl | rfl | rfl <;> rfl)
        have N3 : Hid ((w6.setCell ⟨w.heap.size + 1 + 1, 0, none⟩ (.slice (some ⟨g, 0, none⟩) (jj + 1) cap)).ownsRow (w.heap.size + 1 + 1 + 1) 82 5 (.slice (some ⟨g, 0, none⟩) (jj + 1) cap) (f.n - i) (cells5 f.mir.C (f.n - i))) := by
          rw [MR.out, jn1.out]
          exact ownsRow_setCell_below hown2 lo _
        have N4 : Hid (w.heap.size + 1 + 1 < (w6.setCell ⟨w.heap.size + 1 + 1, 0, none⟩ (.slice (some ⟨g, 0, none⟩) (jj + 1) cap)).heap.size) := by show _ < _; simp; omega
        clear hbk B6 hown2 hgrow hat hlt K1 K2 K3 d0 d0a d9 MR
        refine hid ?_
        go_wp2
        go_roundw
        case rel => exact ⟨i, .slice (some ⟨g, 0, none⟩) (jj + 1) cap, by omega, by go_num, N4.out, N1, N2, N3⟩
        case measure => first | (simp [intOf]; done) | (simp [intOf]; omega)
      · rw [e] at KN MR
        have MR : Hid (cells5 f.mir.C (f.n - i) = cells5 f.mir.C (f.n - (i + 1)) ++ [.int .i64 kd, .int .i64 (f.n - 1 - ca), .int .i64 (f.n - 1 - cb), .int .i64 (f.n - 1 - cc), .int .i64 ck]) := MR.out
        clear e
        go_wp2_with fail
        refine (KN.out _).mono ?_
        rintro e w' ⟨rfl, hw⟩
        rw [hw]
        clear hw w' KN
        obtain ⟨w5, hw5⟩ : ∃ W, W = ((wr.alloc (.cells #[.int .i64 kd, .int .i64 ca, .int .i64 cb, .int .i64 cc, .int .i64 ck] 82)).alloc (.cells #[.int .i64 kd, .int .i64 (f.n - 1 - ca), .int .i64 (f.n - 1 - cb), .int .i64 (f.n - 1 - cc), .int .i64 ck] 82)) := ⟨_, rfl⟩
        have XR := (x_row (wr.alloc (.cells #[.int .i64 kd, .int .i64 ca, .int .i64 cb, .int .i64 cc, .int .i64 ck] 82)) kd (f.n - 1 - ca) (f.n - 1 - cb) (f.n - 1 - cc) ck (wr.heap.size + 1) (by simp))
        rw [← hw5] at XR
        have B5 : Hid (Below wr.heap.size wr w5) := by
          rw [hw5]
          exact ((Below.refl wr.heap.size wr).alloc (Nat.le_refl _) _).alloc (by simp) _
        have s5 : wr.heap.size + 2 ≤ w5.heap.size := by rw [hw5]; simp
        have x0 := XR.cell (i := 0) (by omega)
        have x1 := XR.cell (i := 1) (by omega)
        have x2 := XR.cell (i := 2) (by omega)
        have x3 := XR.cell (i := 3) (by omega)
        have x4 := XR.cell (i := 4) (by omega)
        simp at x0 x1 x2 x3 x4
        have HW5 := hid hw5
        clear hw5 XR
        go_upto_region 15 with (fail)
        rw [← HW5.out]
        clear HW5 g0 g1 g2 g3 g4 f0
        skip
        have K1 := hid (hb.out.trans (B5.out.mono (by omega)))
        have K2 := hid (hg.out.of_block (B5.out.block _ hsz))
        have K3 := hid (own_of_block hown.out (w' := w5) (fun g _ hlt => B5.out.block g hlt))
        clear hb hg hown hbw B5
        have d0 := K2.out.cell (i := 0) (by omega)
        have d9 := K2.out.frozen 0
        simp [gCopy] at d0
        have z5 : w.heap.size + 1 + 1 < w5.heap.size := by omega
        have zx5 : wr.heap.size + 1 < w5.heap.size := by omega
        have d0a : ∀ o, (w5.alloc o).cell? ⟨w.heap.size + 1 + 1, 0, none⟩ = some v := fun o => by rw [World.cell?_alloc_lt (h := z5)]; exact d0
        have NE : Hid (v.ownBlock ≠ some (w.heap.size + 1 + 1)) := fun e => by have := own_base K3.out e; omega
        have jn : f.n - (i + 1) ≤ 20 := by omega
        have jn1 : Hid (f.n - i = f.n - (i + 1) + 1) := by show _ = _; omega
        generalize f.n - (i + 1) = jj at *
        go_wp2_with (at_builtin; refine wpList_append_lies _ rfl (.tmp 62) (.tmp 64) 22 rfl (w.heap.size + 1 + 1 + 1) 82 i76 _ 5 40 Tryd.underlying22 I76.out Z76.out.1 Z76.out.2.1 Z76.out.2.2 rfl (by omega) v jj (cells5 f.mir.C jj) (by rfl) (own_alloc0 K3.out _) ⟨w5.heap.size, 0, none⟩ 1 1 [.int .i64 kd, .int .i64 (f.n - 1 - ca), .int .i64 (f.n - 1 - cb), .int .i64 (f.n - 1 - cc), .int .i64 ck] (by rfl) (by rfl) (news5k _ _ _ _ _ _ _ (by simp)) (by simp [Value.oneCell']) (by omega) (by unfold maxLen; omega) (by omega) (by simp; omega) (w5.heap.size + 1) (by simp) ?_; intro g cap w6 hown2 hgrow hat hlt; refine stopH ?_)
        have hbk : w6.heap[w.heap.size + 1 + 1]? = w5.heap[w.heap.size + 1 + 1]? := ev_far0 w5 _ hgrow z5 NE.out
        have e8 : w6.cell? ⟨w.heap.size + 1 + 1, 0, none⟩ = some v := by rw [World.cell?_of_block (w := w5) hbk]; exact d0
        have e9 : w6.frozen? ⟨w.heap.size + 1 + 1, 0, none⟩ = false := by rw [World.frozen?_of_block (w := w5) hbk]; exact d9
        have B6 : Below (w.heap.size + 1 + 1) w5 w6 := grow_below0 hgrow (by omega) (fun g hg' => by have := own_base K3.out hg'; omega)
        have s6 := B6.size
        have lo : w.heap.size + 1 + 1 < w.heap.size + 1 + 1 + 1 := by omega
        have N1 := hid ((K1.out.trans B6).setCell (p := ⟨w.heap.size + 1 + 1, 0, none⟩) (Nat.le_refl _) (.slice (some ⟨g, 0, none⟩) (jj + 1) cap))
        have N2 : Hid ((w6.setCell ⟨w.heap.size + 1 + 1, 0, none⟩ (.slice (some ⟨g, 0, none⟩) (jj + 1) cap)).rowIs (w.heap.size + 1 + 1) 26 4 (gCopy (.slice (some ⟨g, 0, none⟩) (jj + 1) cap) (.slice aH f.hol.length cH) f.week (.slice none 0 0))) := ((K2.out.of_block hbk).set 0 _).congr (fun x hx => by
          have : x = 0 ∨ x = 1 ∨ x = 2 ∨ x = 3 := by omega
          rcases this with rfl | rfl | rfl | rfl <;> rfl)
        have N3 : Hid ((w6.setCell ⟨w.heap.size + 1 + 1, 0, none⟩ (.slice (some ⟨g, 0, none⟩) (jj + 1) cap)).ownsRow (w.heap.size + 1 + 1 + 1) 82 5 (.slice (some ⟨g, 0, none⟩) (jj + 1) cap) (f.n - i) (cells5 f.mir.C (f.n - i))) := by
          rw [MR.out, jn1.out]
          exact ownsRow_setCell_below hown2 lo _
        have N4 : Hid (w.heap.size + 1 + 1 < (w6.setCell ⟨w.heap.size + 1 + 1, 0, none⟩ (.slice (some ⟨g, 0, none⟩) (jj + 1) cap)).heap.size) := by show _ < _; simp; omega
        clear hbk B6 hown2 hgrow hat hlt K1 K2 K3 d0 d0a d9 MR
        refine hid ?_
        go_wp2
        go_roundw
        case rel => exact ⟨i, .slice (some ⟨g, 0, none⟩) (jj + 1) cap, by omega, by go_num, N4.out, N1, N2, N3⟩
        case measure => first | (simp [intOf]; done) | (simp [intOf]; omega)

end Go.Proofs.YtmofidaojmiepaaDoor

/-
  THE WALKS: docketkeep.Mirrored.
-/
set_option linter.unusedVariables false
set_option linter.unusedSimpArgs false
namespace Go.Proofs.YtmofidaojmiepaaDoor
open Go.RowKit
attribute [local go_sem ↓] Go.wp_at_zero Go.wp_at_succ

theorem CN.first {Z : Nat → Prop} {b np : Nat} {K : Nat → KS} {M : Nat → Cs} {w : World} (h : CN Z b np K M w) (hn : 1 ≤ np) : C1 Z b (K 0).f (K 0).Q (K 0).p (M 0) w := by
  obtain ⟨V, tag, h1, h2⟩ := h
  refine ⟨V 0, tag, ⟨fun i hi => ?_, fun i hi => ?_, fun i hi => ?_, fun i hi => ?_, fun i hi => ?_, h1.tab, h1.t0⟩, h2⟩
  all_goals (
    have e : i = 0 := by omega
    subst e)
  · exact h1.kst 0 (by omega)
  · exact h1.kown 0 (by omega)
  · exact h1.kq 0 (by omega)
  · exact h1.kok 0 (by omega)
  · exact h1.fok 0 (by omega)
theorem q4_0c {α : Type} (A B C D X : α) (i : Nat) (_ : i < 2) : upd (q4 A B C D) 0 X i = q4 X B C D i := by rw [q4_0]
theorem q4_1c {α : Type} (A B C X : α) (i : Nat) (hi : i < 2) : upd (q4 A B B C) 1 X i = q4 A X X X i := by
  have : i = 0 ∨ i = 1 := by omega
  rcases this with rfl | rfl
  · exact upd_other _ _ (by omega)
  · exact upd_same _ _ _
theorem CNP.as2 {r r' : Value} {Z : Nat → Prop} {b np : Nat} {K : Nat → KS} {M M' : Nat → Cs} {w w' : World} {e : Ending} (h : CNP r Z b np K M w e w') (hr : r = r') (hM : ∀ i, i < np → M i = M' i) : CNP r' Z b np K M' w e w' := by
  subst hr
  exact ⟨h.1, h.2.1.congr (fun _ _ => rfl) hM, h.2.2⟩

section
variable {Z : Nat → Prop} {b : Nat} {KC KD : KS} {m m' : Cs} {w : World} {p : KPl}
theorem set_c (h : CN Z b 2 (q4 KC KD KD KD) (q4 m m' m' m') w) (hb : b ≤ 10000000000) (hp : KC.p.bp = p.bp) {f : Frm} (hf : KC.f = f) (c v : Int) : Calls Tryd.prog 18 #[.pointer (some ⟨p.bp, 0, none⟩), .int .i64 c, .int .i64 v] w fun e w' => CNP (.int .i64 (setNo f m c v)) Z (b + 1) 2 (q4 KC KD KD KD) (q4 (setM f m c v) m' m' m') w e w' := by
  subst hf
  rw [← hp]
  exact (cnset h (i := 0) (by omega) hb c v).mono (fun _ _ g => CNP.as2 g rfl (q4_0c _ _ _ _ _))
theorem set_d (h : CN Z b 2 (q4 KC KD KD KD) (q4 m m' m' m') w) (hb : b ≤ 10000000000) (hp : KD.p.bp = p.bp) {f : Frm} (hf : KD.f = f) (c v : Int) : Calls Tryd.prog 18 #[.pointer (some ⟨p.bp, 0, none⟩), .int .i64 c, .int .i64 v] w fun e w' => CNP (.int .i64 (setNo f m' c v)) Z (b + 1) 2 (q4 KC KD KD KD) (q4 m (setM f m' c v) (setM f m' c v) (setM f m' c v)) w e w' := by
  subst hf
  rw [← hp]
  exact (cnset h (i := 1) (by omega) hb c v).mono (fun _ _ g => CNP.as2 g rfl (q4_1c _ _ _ _))
theorem adv_c (h : CN Z b 2 (q4 KC KD KD KD) (q4 m m' m' m') w) (hb : b ≤ 10000000000) (hp : KC.p.bp = p.bp) {f : Frm} (hf : KC.f = f) (tq : Int) : Calls Tryd.prog 20 #[.pointer (some ⟨p.bp, 0, none⟩), .int .i64 tq] w fun e w' => CNP (.int .i64 (advAns m.T tq)) Z b 2 (q4 KC KD KD KD) (q4 (advM f m tq) m' m' m') w e w' := by
  subst hf
  rw [← hp]
  exact (cnadv h (i := 0) (by omega) hb tq).mono (fun _ _ g => CNP.as2 g rfl (q4_0c _ _ _ _ _))
theorem adv_d (h : CN Z b 2 (q4 KC KD KD KD) (q4 m m' m' m') w) (hb : b ≤ 10000000000) (hp : KD.p.bp = p.bp) {f : Frm} (hf : KD.f = f) (tq : Int) : Calls Tryd.prog 20 #[.pointer (some ⟨p.bp, 0, none⟩), .int .i64 tq] w fun e w' => CNP (.int .i64 (advAns m'.T tq)) Z b 2 (q4 KC KD KD KD) (q4 m (advM f m' tq) (advM f m' tq) (advM f m' tq)) w e w' := by
  subst hf
  rw [← hp]
  exact (cnadv h (i := 1) (by omega) hb tq).mono (fun _ _ g => CNP.as2 g rfl (q4_1c _ _ _ _))
theorem look_c (h : CN Z b 2 (q4 KC KD KD KD) (q4 m m' m' m') w) (hb : b ≤ 10000000000) (hp : KC.p.bp = p.bp) {f : Frm} (hf : KC.f = f) {fv : Value} (hfv : FAt w f fv) : Calls Tryd.prog 23 #[.pointer (some ⟨p.bp, 0, none⟩), fv] w fun e w' => LoP f m w e w' := by
  subst hf
  rw [← hp]
  exact cnlook h (i := 0) (by omega) hb hfv
theorem look_d (h : CN Z b 2 (q4 KC KD KD KD) (q4 m m' m' m') w) (hb : b ≤ 10000000000) (hp : KD.p.bp = p.bp) {f : Frm} (hf : KD.f = f) {fv : Value} (hfv : FAt w f fv) : Calls Tryd.prog 23 #[.pointer (some ⟨p.bp, 0, none⟩), fv] w fun e w' => LoP f m' w e w' := by
  subst hf
  rw [← hp]
  exact cnlook h (i := 1) (by omega) hb hfv
end

theorem LookAt.off2 {B : Nat} {f : Frm} {m : Cs} {v : Value} {w w' : World} (h : LookAt B f m v w) (hb : ∀ j, j < w.heap.size → w'.heap[j]? = w.heap[j]?) : LookAt B f m v w' := by
  obtain ⟨vV, vS, vL, rfl, h1, h2, h3⟩ := h.ex
  exact ⟨vV, vS, vL, rfl, own_of_block h1 (fun g _ hlt => hb g hlt), own_of_block h2 (fun g _ hlt => hb g hlt), own_of_block h3 (fun g _ hlt => hb g hlt)⟩
theorem intsV_congr {V V' : Nat → Int} {n : Nat} (h : ∀ i, i < n → V i = V' i) : intsV V n = intsV V' n := by
  unfold intsV
  refine List.map_congr_left (fun j hj => ?_)
  rw [h j (List.mem_range.1 hj)]
/-- What a look at the other case shows. -/
def LdP (f : Frm) (m : Cs) (w : World) (e : Ending) (w' : World) : Prop := ∃ vV vS vL, e = .returned (.agg #[.int .i64 m.T, vV, vS, vL, .bool true]) ∧ w'.ownsRow w.heap.size 3 1 vV f.n (intsV (fun j => f.vals m.F m.T (f.n - 1 - j)) f.n) ∧ w'.ownsRow w.heap.size 80 4 vS f.k (stas4 m.S f.k) ∧ w'.ownsRow w.heap.size 101 3 vL m.E.length (evs m.E) ∧ Below w.heap.size w w'
theorem ld_of {f fm : Frm} {m m' : Cs} {w w' : World} {e : Ending} (h : LoP fm m' w e w') (hn : fm.n = f.n) (hk : fm.k = f.k) (hm : Mir f m m') (hv : ∀ i, i < f.n → fm.vals m'.F m.T i = f.vals m.F m.T (f.n - 1 - i)) : LdP f m w e w' := by
  obtain ⟨v, rfl, l, hb⟩ := h
  obtain ⟨vV, vS, vL, rfl, r1, r2, r3⟩ := l.ex
  rw [hn, hm.T, intsV_congr hv] at r1
  rw [hk, hm.S] at r2
  rw [hm.E] at r3
  refine ⟨vV, vS, vL, by rw [hm.T], r1, r2, r3, hb⟩

set_option maxRecDepth 100000 in
set_option maxHeartbeats 4000000 in
theorem kmir_any (C : Nat → Cel) (R : Nat → Rul) (hol : List Int) (aC aR aH : Option Addr) (n cC k cR cH : Nat) (week : Int) (w : World) (ht : Tab w) (hn : n ≤ 1000000000) (hk : k ≤ 1000000000) (hhl : hol.length ≤ 1000000000) (h64 : Raw64 C n R k week hol)
    (hcs : CAt w aC n C) (hrs : RAt w aR k R) (hhs : IntsAt w (.slice aH hol.length cH) hol) {aS : Option Addr} {mS cS : Nat} {S : Nat → StK} (hsc : ScK w aS mS S) (hm : mS ≤ 1048576) :
    Calls Tryd.prog 4 #[.agg #[.slice aC n cC, .slice aR k cR, .int .i64 week, .slice aH hol.length cH], .slice aS mS cS] w fun e w' => TPost w e w' := by
  have BX := hid (Below.refl (w.heap.size + 1) (w.alloc (.cells #[.slice aC n cC, .slice aR k cR, .int .i64 week, .slice aH hol.length cH] 26)))
  have BW := hid (boxed_below BX.out)
  have SH := hid (kshaped_any C R hol aC aR aH n cC k cR cH week _ hn hk hhl h64 (hcs.below BW.out) (hrs.below BW.out) (SlAt.below hhs BW.out (Nat.le_refl _)))
  have FSO := hid (shF_ok C n R k week hol)
  have HT := hid ht
  have HSC := hid hsc
  clear hcs hrs hhs h64 ht hsc
  generalize shF C n R k week hol = f at *
  go_enter Tryd.func4, Tryd.ntmps4
  go_wp2_with fail
  refine SH.out.mono ?_
  rintro e w1 ⟨fv, rfl, fa, hb1⟩
  have FA := hid fa
  obtain ⟨aC', cC', aR', cR', aH', cH', rfl, fa1, fa2, fa3⟩ := fa
  clear fa1 fa2 fa3
  have B1 : Hid (Below w.heap.size w w1) := BW.out.trans (hb1.mono (by simp))
  clear hb1 BX BW SH
  have BX := hid (Below.refl (w1.heap.size + 1) (w1.alloc (.cells #[.slice aC' f.n cC', .slice aR' f.k cR', .int .i64 f.week, .slice aH' f.hol.length cH'] 26)))
  have BB := hid (boxed_below BX.out)
  have f0 : (w1.alloc (.cells #[.slice aC' f.n cC', .slice aR' f.k cR', .int .i64 f.week, .slice aH' f.hol.length cH'] 26)).cell? ⟨w1.heap.size, 0, none⟩ = some (Value.slice aC' f.n cC') := boxed BX.out 0
  have f1 : (w1.alloc (.cells #[.slice aC' f.n cC', .slice aR' f.k cR', .int .i64 f.week, .slice aH' f.hol.length cH'] 26)).cell? ⟨w1.heap.size, 1, none⟩ = some (Value.slice aR' f.k cR') := boxed BX.out 1
  have f2 : (w1.alloc (.cells #[.slice aC' f.n cC', .slice aR' f.k cR', .int .i64 f.week, .slice aH' f.hol.length cH'] 26)).cell? ⟨w1.heap.size, 2, none⟩ = some (.int .i64 f.week) := boxed BX.out 2
  have f3 : (w1.alloc (.cells #[.slice aC' f.n cC', .slice aR' f.k cR', .int .i64 f.week, .slice aH' f.hol.length cH'] 26)).cell? ⟨w1.heap.size, 3, none⟩ = some (Value.slice aH' f.hol.length cH') := boxed BX.out 3
  have zg : w1.heap.size < (w1.alloc (.cells #[.slice aC' f.n cC', .slice aR' f.k cR', .int .i64 f.week, .slice aH' f.hol.length cH'] 26)).heap.size := by simp
  have B0 : Hid (Below w.heap.size w (w1.alloc (.cells #[.slice aC' f.n cC', .slice aR' f.k cR', .int .i64 f.week, .slice aH' f.hol.length cH'] 26))) := B1.out.trans (BB.out.mono B1.out.size)
  have FA0 := hid (FA.out.below BB.out)
  have SC0 := hid (HSC.out.below B0.out)
  have T0 := hid (HT.out.below B0.out (Nat.le_refl _))
  clear BX BB FA B1 HT HSC
  go_upto_region 2 with (fail)
  generalize w1.alloc (.cells #[.slice aC' f.n cC', .slice aR' f.k cR', .int .i64 f.week, .slice aH' f.hol.length cH'] 26) = w0 at *
  generalize w1.heap.size = g at *
  obtain ⟨n1, n20, k6, _, _⟩ := FSO.out.ok.sizes
  have MIR := hid (kmirrored_any FSO.out FA0.out)
  go_wp2_with fail
  refine MIR.out.mono ?_
  rintro e wm ⟨fv2, rfl, fa2, hbm⟩
  have FMO := hid (mir_ok FSO.out.ok)
  have MBG := hid (mir_begin FSO.out.ok)
  have MAD : Hid (∀ m m' : Cs, m.Ok f → Mir f m m' → ∀ tq, Mir f (advM f m tq) (advM f.mir m' tq) ∧ advAns m'.T tq = advAns m.T tq) := fun m m' hm h tq => mir_adv FSO.out.ok hm h tq
  have MST : Hid (∀ m m' : Cs, m.Ok f → Mir f m m' → ∀ k : Nat, k < f.n → ∀ v, Mir f (setM f m k v) (setM f.mir m' ((f.n - 1 - k : Nat) : Int) v) ∧ setNo f.mir m' ((f.n - 1 - k : Nat) : Int) v = setNo f m k v) := fun m m' hm h k hk v => mir_set FSO.out.ok hm h hk v
  have MVL : Hid (∀ m m' : Cs, m.Ok f → Mir f m m' → ∀ i, i < f.n → f.mir.vals m'.F m.T i = f.vals m.F m.T (f.n - 1 - i)) := fun m m' hm h => mir_vals FSO.out.ok hm.fv h.F hm.t0 hm.t1
  have FMN : Hid (f.mir.n = f.n ∧ f.mir.k = f.k) := ⟨rfl, rfl⟩
  generalize f.mir = fm at *
  have FA2 := hid fa2
  obtain ⟨aC2, cC2, aR2, cR2, aH2, cH2, rfl, fb1, fb2, fb3⟩ := fa2
  clear fb1 fb2 fb3
  have BX := hid (Below.refl (wm.heap.size + 1) (wm.alloc (.cells #[.slice aC2 fm.n cC2, .slice aR2 fm.k cR2, .int .i64 fm.week, .slice aH2 fm.hol.length cH2] 26)))
  have BB := hid (boxed_below BX.out)
  have BM : Hid (Below w0.heap.size w0 (wm.alloc (.cells #[.slice aC2 fm.n cC2, .slice aR2 fm.k cR2, .int .i64 fm.week, .slice aH2 fm.hol.length cH2] 26))) := hbm.trans (BB.out.mono hbm.size)
  have B0 := hid (B0.out.trans (BM.out.mono B0.out.size))
  have FA0 := hid (FA0.out.below BM.out)
  have FA2 := hid (FA2.out.below BB.out)
  have SC0 := hid (SC0.out.below BM.out)
  have T0 := hid (T0.out.below BM.out (Nat.le_refl _))
  have f0 := (BM.out.cell (p := ⟨g, 0, none⟩) zg).trans f0
  have f1 := (BM.out.cell (p := ⟨g, 1, none⟩) zg).trans f1
  have f2 := (BM.out.cell (p := ⟨g, 2, none⟩) zg).trans f2
  have f3 := (BM.out.cell (p := ⟨g, 3, none⟩) zg).trans f3
  have h0 : (wm.alloc (.cells #[.slice aC2 fm.n cC2, .slice aR2 fm.k cR2, .int .i64 fm.week, .slice aH2 fm.hol.length cH2] 26)).cell? ⟨wm.heap.size, 0, none⟩ = some (.slice aC2 fm.n cC2) := boxed BX.out 0
  have h1 : (wm.alloc (.cells #[.slice aC2 fm.n cC2, .slice aR2 fm.k cR2, .int .i64 fm.week, .slice aH2 fm.hol.length cH2] 26)).cell? ⟨wm.heap.size, 1, none⟩ = some (.slice aR2 fm.k cR2) := boxed BX.out 1
  have h2 : (wm.alloc (.cells #[.slice aC2 fm.n cC2, .slice aR2 fm.k cR2, .int .i64 fm.week, .slice aH2 fm.hol.length cH2] 26)).cell? ⟨wm.heap.size, 2, none⟩ = some (.int .i64 fm.week) := boxed BX.out 2
  have h3 : (wm.alloc (.cells #[.slice aC2 fm.n cC2, .slice aR2 fm.k cR2, .int .i64 fm.week, .slice aH2 fm.hol.length cH2] 26)).cell? ⟨wm.heap.size, 3, none⟩ = some (.slice aH2 fm.hol.length cH2) := boxed BX.out 3
  have zg : g < (wm.alloc (.cells #[.slice aC2 fm.n cC2, .slice aR2 fm.k cR2, .int .i64 fm.week, .slice aH2 fm.hol.length cH2] 26)).heap.size := by have := BM.out.size; omega
  have zh : wm.heap.size < (wm.alloc (.cells #[.slice aC2 fm.n cC2, .slice aR2 fm.k cR2, .int .i64 fm.week, .slice aH2 fm.hol.length cH2] 26)).heap.size := by simp
  clear hbm BX BB BM MIR
  go_upto_region 3 with (fail)
  generalize (wm.alloc (.cells #[.slice aC2 fm.n cC2, .slice aR2 fm.k cR2, .int .i64 fm.week, .slice aH2 fm.hol.length cH2] 26)) = wz at *
  generalize wm.heap.size = gm at *
  have CN0 := hid (CN.start T0.out (fun _ => ⟨fun _ => False, kpl0, f⟩) (fun _ => beginM f) 1)
  have OP1 := hid (cnopened CN0.out (by omega) FSO.out.ok FA0.out)
  have OB : Hid ((beginM f).op = true ∧ (beginM f).T = 0) := ⟨beginM_op f, beginM_T f⟩
  have BFF : Hid (∀ j, (beginM f).F j = (f.C j).k) := fun j => by show (Cs.settle f _).F j = _; rw [settle_F]
  obtain ⟨mb, hmb⟩ : ∃ mb, beginM f = mb := ⟨_, rfl⟩
  obtain ⟨mc, hmc⟩ : ∃ mc, beginM fm = mc := ⟨_, rfl⟩
  rw [hmb] at OP1 CN0 OB BFF MBG
  rw [hmc] at MBG
  have HMC := hid hmc
  clear hmb hmc
  go_wp2_with fail
  refine OP1.out.mono ?_
  rintro e w2 ⟨QC, pC, rfl, c2, s2⟩
  obtain ⟨KC, hKC⟩ : ∃ KC : KS, KC = ⟨QC, pC, f⟩ := ⟨_, rfl⟩
  have C2 : Hid (CN (fun j => j < wz.heap.size) 1 1 (q4 KC KC KC KC) (q4 mb mb mb mb) w2) := c2.congr (fun i hi => by
    have e : i = 0 := by omega
    subst e
    rw [upd_same, hKC]
    rfl) (fun i hi => by
    have e : i = 0 := by omega
    subst e
    rw [upd_same]
    rfl)
  have EC : Hid (KC.p.bp = pC.bp ∧ KC.f = f ∧ KC.p = pC ∧ KC.Q = QC) := by rw [hKC]; exact ⟨rfl, rfl, rfl, rfl⟩
  have SW := hid s2
  have h0' := (SW.out.cell 0 zh).trans h0
  have h1' := (SW.out.cell 1 zh).trans h1
  have h2' := (SW.out.cell 2 zh).trans h2
  have h3' := (SW.out.cell 3 zh).trans h3
  have OP2 := hid (cnopened C2.out (by omega) FMO.out (FA2.out.below (SW.out.below (Below.refl _ _) (fun j hj => hj))))
  rw [HMC.out] at OP2
  clear c2 s2 CN0 hKC OP1
  go_wp2_with fail
  refine OP2.out.mono ?_
  rintro e w3 ⟨QD, pD, rfl, c3, s3⟩
  obtain ⟨KD, hKD⟩ : ∃ KD : KS, KD = ⟨QD, pD, fm⟩ := ⟨_, rfl⟩
  have C3 : Hid (CN (fun j => j < wz.heap.size) 1 2 (q4 KC KD KD KD) (q4 mb mc mc mc) w3) := c3.congr (fun i hi => by
    rw [← hKD, q4_1]
    have e : i = 0 ∨ i = 1 := by omega
    rcases e with rfl | rfl <;> rfl) (fun i hi => by
    rw [q4_1]
    have e : i = 0 ∨ i = 1 := by omega
    rcases e with rfl | rfl <;> rfl)
  have ED : Hid (KD.p.bp = pD.bp ∧ KD.f = fm) := by rw [hKD]; exact ⟨rfl, rfl⟩
  have SW := hid (SW.out.trans s3)
  have f0' := (SW.out.cell 0 zg).trans f0
  have f1' := (SW.out.cell 1 zg).trans f1
  have f2' := (SW.out.cell 2 zg).trans f2
  have f3' := (SW.out.cell 3 zg).trans f3
  have B3 := hid (SW.out.below (Below.refl _ _) (fun j hj => hj))
  have DF := hid (kdefaults_any n20 (FA0.out.below B3.out))
  have QLT : Hid (∀ i, i < 2 → ∀ j, ((q4 KC KD KD KD) i).Q j → j < w3.heap.size) := fun i hi => C3.out.qlt hi
  clear c3 s3 C2 hKD OP2 h0' h1' h2' h3'
  go_wp2_with fail
  refine DF.out.mono ?_
  rintro e w4 ⟨vF, rfl, hown, hb4⟩
  obtain ⟨gF, cF, rfl, zF, _⟩ := own_cell hown (by omega)
  have hgF : w3.heap.size ≤ gF := own_from hown rfl
  have C4 := hid (C3.out.drop hb4)
  have ZF : Hid (zup (fun j => j < wz.heap.size) w3 w4 gF) := Or.inr ⟨hgF, zF⟩
  have HZ : Hid (∀ j, j < wz.heap.size → zup (fun j => j < wz.heap.size) w3 w4 j) := fun j hj => Or.inl hj
  have w30 := SW.out.size
  have SW : Hid (StZ (fun j => j < wz.heap.size) wz w4) := SW.out.trans (StZ.of hb4 (fun j hj => by omega))
  have OW : Hid (w4.ownsRow 0 3 1 (.slice (some ⟨gF, 0, none⟩) f.n cF) f.n (intsV mb.F f.n)) := by
    rw [show mb.F = fun j => (f.C j).k from funext BFF.out]
    exact own_monoL hown (Nat.zero_le _)
  have t00 := T0.out.1
  clear hown hb4 DF C3 B3 f0' f1' f2' f3'
  generalize zup (fun j => j < wz.heap.size) w3 w4 = Z at *
  go_wp2_with fail
  go_loopw [11, 12] (fun tn ti wr => ∃ (i : Nat) (m m' : Cs) (now : Int), i ≤ mS ∧ tn = .int .i64 now ∧ ti = .int .i64 i ∧ Hid (m.op = true ∧ m.T = now) ∧ Hid (Mir f m m') ∧ Hid (CN Z (1 + 2 * i) 2 (q4 KC KD KD KD) (q4 m m' m' m') wr) ∧ Hid (wr.ownsRow 0 3 1 (.slice (some ⟨gF, 0, none⟩) f.n cF) f.n (intsV m.F f.n)) ∧ Hid (StZ (fun j => j < wz.heap.size) wz wr)) (fun _ ti _ => mS - (intOf ti).toNat)
  case atStart => exact ⟨0, mb, mc, 0, by omega, rfl, rfl, OB, MBG, C4, OW, SW⟩
  case round =>
    clear C4 OW SW
    obtain ⟨i, m, m', now, i1, rfl, rfl, ho, hmi, hc, hw, hs⟩ := hrel
    have BL := hid (hs.out.below (Below.refl _ _) (fun j hj => hj))
    have HM : Hid (m.Ok f) := by have h := hc.out.mok (i := 0) (by omega); have h' : m.Ok KC.f := h; rw [EC.out.2.1] at h'; exact h'
    by_cases hit : i < mS
    · have lt' : (i : Int) < (mS : Int) := by omega
      have x0 := (hs.out.cell 0 zg).trans f0
      have x1 := (hs.out.cell 1 zg).trans f1
      have x2 := (hs.out.cell 2 zg).trans f2
      have x3 := (hs.out.cell 3 zg).trans f3
      obtain ⟨sc1, sc2⟩ := SC0.out.below BL.out
      obtain ⟨bX, oX, hax, zX, hX⟩ : ∃ b off, aS = some ⟨b, off, none⟩ ∧ b < wr.heap.size ∧ ∀ i, i < mS → wr.cell? ⟨b, off + i * 3, none⟩ = some (.int .i64 (S i).kd) ∧ wr.cell? ⟨b, off + i * 3 + 1, none⟩ = some (.int .i64 (S i).a) ∧ wr.cell? ⟨b, off + i * 3 + 2, none⟩ = some (.int .i64 (S i).b) := by
        rcases sc1 with h | h
        · omega
        · exact h
      obtain ⟨y0, y1, y2⟩ := hX i hit
      obtain ⟨s0, s1, s2⟩ := sc2 i hit
      have zgr : g < wr.heap.size := by have := BL.out.size; omega
      subst hax
      clear hX sc1 sc2
      obtain ⟨sk, hsk⟩ : ∃ s, S i = s := ⟨_, rfl⟩
      rw [hsk] at y0 y1 y2 s0 s1 s2
      have PK := hid (fun W => kpick_any sk.kd 2 W s0 (by omega) (by omega))
      have pb := pickI_bd sk.kd (n := 2) (by omega)
      have SE := hid (fun W (hW : Below wr.heap.size wr W) => ksets_any n20 (FA0.out.below (BL.out.trans (hW.mono BL.out.size))) sk.kd sk.a sk.b s1 s2)
      have HOP : Hid (m.op = true) := ho.out.1
      have HOT : Hid (m.T = now) := ho.out.2
      have nt0 : 0 ≤ now := by have := HM.out.t0; have := HOT.out; omega
      have nt1 : now ≤ 1000000000 := by have := HM.out.t1; have := HOT.out; omega
      clear hsk ho
      generalize hkd : sk.kd = kd at *
      generalize hka : sk.a = sa at *
      generalize hkb : sk.b = sb at *
      clear hkd hka hkb
      have BX := hid (Below.refl (wr.heap.size + 1) (wr.alloc (.cells #[.int .i64 kd, .int .i64 sa, .int .i64 sb] 34)))
      have BW := hid (boxed_below BX.out)
      have b0 : (wr.alloc (.cells #[.int .i64 kd, .int .i64 sa, .int .i64 sb] 34)).cell? ⟨wr.heap.size, 0, none⟩ = some (.int .i64 kd) := boxed BX.out 0
      have b1 : (wr.alloc (.cells #[.int .i64 kd, .int .i64 sa, .int .i64 sb] 34)).cell? ⟨wr.heap.size, 1, none⟩ = some (.int .i64 sa) := boxed BX.out 1
      have b2 : (wr.alloc (.cells #[.int .i64 kd, .int .i64 sa, .int .i64 sb] 34)).cell? ⟨wr.heap.size, 2, none⟩ = some (.int .i64 sb) := boxed BX.out 2
      have x0 := (BW.out.cell (p := ⟨g, 0, none⟩) zgr).trans x0
      have x1 := (BW.out.cell (p := ⟨g, 1, none⟩) zgr).trans x1
      have x2 := (BW.out.cell (p := ⟨g, 2, none⟩) zgr).trans x2
      have x3 := (BW.out.cell (p := ⟨g, 3, none⟩) zgr).trans x3
      have C5 := hid (hc.out.keep BW.out)
      have O5 := hid (own_of_block hw.out (w' := wr.alloc (.cells #[.int .i64 kd, .int .i64 sa, .int .i64 sb] 34)) (fun g _ hlt => BW.out.block g hlt))
      have S5 : Hid (StZ (fun j => j < wz.heap.size) wz (wr.alloc (.cells #[.int .i64 kd, .int .i64 sa, .int .i64 sb] 34))) := hs.out.trans (StZ.of BW.out (fun j hj => by have := hs.out.size; omega))
      clear hc hw BX hs
      go_upto_region 14 with (fail)
      generalize wr.alloc (.cells #[.int .i64 kd, .int .i64 sa, .int .i64 sb] 34) = w5 at *
      generalize wr.heap.size = gs at *
      go_wp2_with fail
      refine (PK.out _).mono ?_
      rintro e w' ⟨rfl, hw'⟩
      rw [hw']
      clear hw' w' PK
      have pcs : pickI kd 2 = 0 ∨ pickI kd 2 = 1 := by omega
      clear pb
      rcases pcs with e | e
      · rw [e]
        clear e
        have S0 := hid (setsK_ok f sa sb)
        have HNO := hid (fun h => sets_no (f := f) HOP.out sa sb h)
        unfold SetsP at SE
        generalize setsK f sa = ks at *
        generalize setsV f sb = vs at *
        have SE' := hid (SE.out w5 BW.out)
        go_wp2_with fail
        refine SE'.out.mono ?_
        rintro e w6 ⟨rfl, hb6⟩
        have C6 := hid (C5.out.keep hb6)
        have O6 := hid (own_of_block O5.out (w' := w6) (fun g _ hlt => hb6.block g hlt))
        have S6 : Hid (StZ (fun j => j < wz.heap.size) wz w6) := S5.out.trans (StZ.of hb6 (fun j hj => by have := S5.out.size; omega))
        clear hb6 SE' SE C5 O5 S5 x0 x1 x2 x3 b0 b1 b2
        rcases S0.out with ⟨e1, e2⟩ | ⟨kk, e1, e2, e3, e4⟩
        · subst e1 e2
          have MO : Hid (m.op = true) := HOP.out
          have MT : Hid (m.T = now) := HOT.out
          have N1 : Hid (CN Z (1 + 2 * (i + 1)) 2 (q4 KC KD KD KD) (q4 m m' m' m') w6) := C6.out.up (by omega)
          go_wp2
          go_roundw
          case rel => exact ⟨i + 1, m, m', now, by omega, by go_num, by go_num, ⟨MO.out, MT.out⟩, hmi, N1, O6, S6⟩
          case measure => simp [intOf]; omega
        · have hno : setNo f m ks vs = 0 := HNO.out (by omega)
          subst e1
          obtain ⟨MM, en⟩ := MST.out m m' HM.out hmi.out kk e2 vs
          have EN : Hid (setNo fm m' ((f.n - 1 - kk : Nat) : Int) vs = 0) := en.trans hno
          have MM := hid MM
          have MO : Hid ((setM f m kk vs).op = true) := by show _ = _; rw [setM_op]; exact HOP.out
          have MT : Hid ((setM f m kk vs).T = now) := by show _ = _; rw [setM_T]; exact HOT.out
          have MF : Hid ((setM f m kk vs).F = upd m.F kk vs) := by show _ = _; rw [setM_F hno]; rfl
          have SS := hid ((set_c C6.out (by omega) EC.out.1 EC.out.2.1 kk vs).mono (fun _ _ g => CNP.as2 g (r' := .int .i64 0) (congrArg (Value.int .i64) hno) (fun _ _ => rfl)))
          have kl : (kk : Int) < (f.n : Int) := by omega
          have dk : Hid ((f.n : Int) - 1 - (kk : Int) = ((f.n - 1 - kk : Nat) : Int)) := by show _ = _; omega
          clear hno S0 HNO e3 e4 en
          generalize setM f m kk vs = m2 at *
          go_wp2_with fail
          refine SS.out.mono ?_
          rintro e w7 ⟨rfl, c7, s7⟩
          have C7 := hid c7
          have O7 := hid (own_of_block O6.out (w' := w7) (fun g hg _ => s7.block g (by cases hg; exact ZF.out)))
          have S7 := hid (S6.out.trans (s7.less HZ.out))
          have SD : Hid (∀ x, x = (f.n : Int) - 1 - (kk : Int) → Calls Tryd.prog 18 #[.pointer (some ⟨pD.bp, 0, none⟩), .int .i64 x, .int .i64 vs] w7 fun e w' => CNP (.int .i64 0) Z (1 + 2 * i + 1 + 1) 2 (q4 KC KD KD KD) (q4 m2 (setM fm m' ((f.n - 1 - kk : Nat) : Int) vs) (setM fm m' ((f.n - 1 - kk : Nat) : Int) vs) (setM fm m' ((f.n - 1 - kk : Nat) : Int) vs)) w7 e w') := fun x hx => by
            rw [hx, dk.out]
            exact (set_d C7.out (by omega) ED.out.1 ED.out.2 _ vs).mono (fun _ _ g => CNP.as2 g (congrArg (Value.int .i64) EN.out) (fun _ _ => rfl))
          generalize setM fm m' ((f.n - 1 - kk : Nat) : Int) vs = m3 at *
          clear c7 s7 SS C6 O6 S6
          go_wp2_with fail
          refine (SD.out _ (by first | rfl | omega)).mono ?_
          rintro e w8 ⟨rfl, c8, s8⟩
          have C8 := hid c8
          have O8 := hid (own_of_block O7.out (w' := w8) (fun g hg _ => s8.block g (by cases hg; exact ZF.out)))
          have S8 := hid (S7.out.trans (s8.less HZ.out))
          obtain ⟨_, _, e7, zF7, xF7⟩ := own_cell O8.out (by omega)
          simp at e7
          obtain ⟨rfl, rfl⟩ := e7
          have q1 := xF7 kk (by omega)
          rw [intsV_at _ e2] at q1
          have q2 := own_frozen O8.out kk
          have C9 : Hid (CN Z (1 + 2 * i + 1 + 1) 2 (q4 KC KD KD KD) (q4 m2 m3 m3 m3) (w8.setCell ⟨gF, kk, none⟩ (.int .i64 vs))) := C8.out.store ZF.out (fun i hi h => by have := QLT.out i hi _ h; omega) (by omega) (by simp [World.setCell]) (fun j _ hj => Go.Deep.blk_setCell_other _ _ _ _ hj)
          have O9 : Hid ((w8.setCell ⟨gF, kk, none⟩ (.int .i64 vs)).ownsRow 0 3 1 (.slice (some ⟨gF, 0, none⟩) f.n cF) f.n (intsV m2.F f.n)) := by
            rw [MF.out]
            exact own_set O8.out e2 vs
          have S9 : Hid (StZ (fun j => j < wz.heap.size) wz (w8.setCell ⟨gF, kk, none⟩ (.int .i64 vs))) := S8.out.trans ⟨rfl, rfl, rfl, by simp [World.setCell], fun j hj => Go.Deep.blk_setCell_other _ _ _ _ (by show j ≠ gF; omega)⟩
          clear c8 s8 SD C7 O7 S7 C8 O8 S8 xF7
          go_upto_region 27 with (fail)
          generalize w8.setCell ⟨gF, kk, none⟩ (.int .i64 vs) = w9 at *
          have N1 : Hid (CN Z (1 + 2 * (i + 1)) 2 (q4 KC KD KD KD) (q4 m2 m3 m3 m3) w9) := C9.out.up (by omega)
          go_wp2
          go_roundw
          case rel => exact ⟨i + 1, m2, m3, now, by omega, by go_num, by go_num, ⟨MO.out, MT.out⟩, MM, N1, O9, S9⟩
          case measure => simp [intOf]; omega
      · rw [e]
        clear e SE
        have ot := ontoI_bd sa nt0 nt1
        have ON := hid (fun W => konto_any now sa W nt0 nt1 s1)
        generalize ontoI now sa = tq at *
        obtain ⟨MM, en⟩ := MAD.out m m' HM.out hmi.out tq
        have MM := hid MM
        have MO : Hid ((advM f m tq).op = true) := by show _ = _; rw [advM_op]; exact HOP.out
        have MT : Hid ((advM f m tq).T = tq) := by show _ = _; exact advM_T f m (by have := HOT.out; omega) ot.2
        have MF : Hid ((advM f m tq).F = m.F) := advM_F _ _ _
        have AN : Hid (advAns m.T tq = 0) := by show _ = _; unfold advAns; rw [if_neg (by have := HOT.out; omega)]
        have AN2 : Hid (advAns m'.T tq = 0) := en.trans AN.out
        have AA := hid ((adv_c C5.out (by omega) EC.out.1 EC.out.2.1 tq).mono (fun _ _ g => CNP.as2 g (r' := .int .i64 0) (congrArg (Value.int .i64) AN.out) (fun _ _ => rfl)))
        clear en
        generalize advM f m tq = m2 at *
        go_wp2_with fail
        refine (ON.out _).mono ?_
        rintro e w' ⟨rfl, hw'⟩
        rw [hw']
        clear hw' w' ON
        go_wp2_with fail
        refine AA.out.mono ?_
        rintro e w7 ⟨rfl, c7, s7⟩
        have C7 := hid c7
        have O7 := hid (own_of_block O5.out (w' := w7) (fun g hg _ => s7.block g (by cases hg; exact ZF.out)))
        have S7 := hid (S5.out.trans (s7.less HZ.out))
        have AD := hid ((adv_d C7.out (by omega) ED.out.1 ED.out.2 tq).mono (fun _ _ g => CNP.as2 g (r' := .int .i64 0) (congrArg (Value.int .i64) AN2.out) (fun _ _ => rfl)))
        generalize advM fm m' tq = m3 at *
        clear c7 s7 AA C5 O5 S5 x0 x1 x2 x3 b0 b1 b2
        go_wp2_with fail
        refine AD.out.mono ?_
        rintro e w8 ⟨rfl, c8, s8⟩
        have C8 := hid c8
        have O8 : Hid (w8.ownsRow 0 3 1 (.slice (some ⟨gF, 0, none⟩) f.n cF) f.n (intsV m2.F f.n)) := by
          rw [MF.out]
          exact own_of_block O7.out (w' := w8) (fun g hg _ => s8.block g (by cases hg; exact ZF.out))
        have S8 := hid (S7.out.trans (s8.less HZ.out))
        clear c8 s8 AD C7 O7 S7
        have N1 : Hid (CN Z (1 + 2 * (i + 1)) 2 (q4 KC KD KD KD) (q4 m2 m3 m3 m3) w8) := C8.out.up (by omega)
        go_wp2
        go_roundw
        case rel => exact ⟨i + 1, m2, m3, tq, by omega, by go_num, by go_num, ⟨MO.out, MT.out⟩, MM, N1, O8, S8⟩
        case measure => simp [intOf]; omega
    · generalize wr = wo at *
      have LEN : Hid (m.E.length ≤ 1000000000000) := by show _ ≤ _; have h := hc.out.len (i := 0) (by omega) (by omega); have h' : m.E.length ≤ 999999999000 := h; omega
      have x0 := (hs.out.cell 0 zg).trans f0
      have x1 := (hs.out.cell 1 zg).trans f1
      have x2 := (hs.out.cell 2 zg).trans f2
      have x3 := (hs.out.cell 3 zg).trans f3
      have y0 := (hs.out.cell 0 zh).trans h0
      have y1 := (hs.out.cell 1 zh).trans h1
      have y2 := (hs.out.cell 2 zh).trans h2
      have y3 := (hs.out.cell 3 zh).trans h3
      have zgr : g < wo.heap.size := by have := BL.out.size; omega
      have zhr : gm < wo.heap.size := by have := BL.out.size; omega
      obtain ⟨_, _, e7, zFr, _⟩ := own_cell hw.out (by omega)
      simp at e7
      obtain ⟨rfl, rfl⟩ := e7
      have w3r : w3.heap.size ≤ wo.heap.size := by omega
      have wzr := BL.out.size
      have VL := hid (MVL.out m m' HM.out hmi.out)
      have G0 := hid x0
      have G1 := hid x1
      have G2 := hid x2
      have G3 := hid x3
      have LKA := hid (look_c hc.out (by omega) EC.out.1 EC.out.2.1 (FA0.out.below BL.out))
      clear MAD MST MVL
      go_wp2_with fail
      refine LKA.out.mono ?_
      rintro e ax ⟨vx, rfl, l, b⟩
      have Lx := hid l
      obtain ⟨xV, xS, xL, rfl, r1, r2, r3⟩ := l.ex
      obtain ⟨xa1, xc1, rfl⟩ := own_len r1
      obtain ⟨xa2, xc2, rfl⟩ := own_len r2
      obtain ⟨xa3, xc3, rfl⟩ := own_len r3
      have BB : Hid (Below ax.heap.size ax (ax.alloc (.cells #[.int .i64 m.T, .slice xa1 f.n xc1, .slice xa2 f.k xc2, .slice xa3 m.E.length xc3, .bool true] 46))) := boxed_below (Below.refl (ax.heap.size + 1) (ax.alloc (.cells #[.int .i64 m.T, .slice xa1 f.n xc1, .slice xa2 f.k xc2, .slice xa3 m.E.length xc3, .bool true] 46)))
      have NW : Hid (Below wo.heap.size wo (ax.alloc (.cells #[.int .i64 m.T, .slice xa1 f.n xc1, .slice xa2 f.k xc2, .slice xa3 m.E.length xc3, .bool true] 46))) := b.trans (BB.out.mono b.size)
      have Lx := hid (Lx.out.below (B2 := 0) BB.out)
      have cx0 : (ax.alloc (.cells #[.int .i64 m.T, .slice xa1 f.n xc1, .slice xa2 f.k xc2, .slice xa3 m.E.length xc3, .bool true] 46)).cell? ⟨ax.heap.size, 0, none⟩ = some (.int .i64 m.T) := boxed (Below.refl (ax.heap.size + 1) (ax.alloc (.cells #[.int .i64 m.T, .slice xa1 f.n xc1, .slice xa2 f.k xc2, .slice xa3 m.E.length xc3, .bool true] 46))) 0
      have cx1 : (ax.alloc (.cells #[.int .i64 m.T, .slice xa1 f.n xc1, .slice xa2 f.k xc2, .slice xa3 m.E.length xc3, .bool true] 46)).cell? ⟨ax.heap.size, 1, none⟩ = some (.slice xa1 f.n xc1) := boxed (Below.refl (ax.heap.size + 1) (ax.alloc (.cells #[.int .i64 m.T, .slice xa1 f.n xc1, .slice xa2 f.k xc2, .slice xa3 m.E.length xc3, .bool true] 46))) 1
      have cx2 : (ax.alloc (.cells #[.int .i64 m.T, .slice xa1 f.n xc1, .slice xa2 f.k xc2, .slice xa3 m.E.length xc3, .bool true] 46)).cell? ⟨ax.heap.size, 2, none⟩ = some (.slice xa2 f.k xc2) := boxed (Below.refl (ax.heap.size + 1) (ax.alloc (.cells #[.int .i64 m.T, .slice xa1 f.n xc1, .slice xa2 f.k xc2, .slice xa3 m.E.length xc3, .bool true] 46))) 2
      have cx3 : (ax.alloc (.cells #[.int .i64 m.T, .slice xa1 f.n xc1, .slice xa2 f.k xc2, .slice xa3 m.E.length xc3, .bool true] 46)).cell? ⟨ax.heap.size, 3, none⟩ = some (.slice xa3 m.E.length xc3) := boxed (Below.refl (ax.heap.size + 1) (ax.alloc (.cells #[.int .i64 m.T, .slice xa1 f.n xc1, .slice xa2 f.k xc2, .slice xa3 m.E.length xc3, .bool true] 46))) 3
      have cx4 : (ax.alloc (.cells #[.int .i64 m.T, .slice xa1 f.n xc1, .slice xa2 f.k xc2, .slice xa3 m.E.length xc3, .bool true] 46)).cell? ⟨ax.heap.size, 4, none⟩ = some (.bool true) := boxed (Below.refl (ax.heap.size + 1) (ax.alloc (.cells #[.int .i64 m.T, .slice xa1 f.n xc1, .slice xa2 f.k xc2, .slice xa3 m.E.length xc3, .bool true] 46))) 4
      have x0 := (NW.out.cell (p := ⟨g, 0, none⟩) zgr).trans x0
      have y0 := (NW.out.cell (p := ⟨gm, 0, none⟩) zhr).trans y0
      have x1 := (NW.out.cell (p := ⟨g, 1, none⟩) zgr).trans x1
      have y1 := (NW.out.cell (p := ⟨gm, 1, none⟩) zhr).trans y1
      have x2 := (NW.out.cell (p := ⟨g, 2, none⟩) zgr).trans x2
      have y2 := (NW.out.cell (p := ⟨gm, 2, none⟩) zhr).trans y2
      have x3 := (NW.out.cell (p := ⟨g, 3, none⟩) zgr).trans x3
      have y3 := (NW.out.cell (p := ⟨gm, 3, none⟩) zhr).trans y3
      have zx : ax.heap.size < (ax.alloc (.cells #[.int .i64 m.T, .slice xa1 f.n xc1, .slice xa2 f.k xc2, .slice xa3 m.E.length xc3, .bool true] 46)).heap.size := by simp
      have nws := NW.out.size
      clear r1 r2 r3 l b BB LKA
      go_upto_region 30 with (fail)
      generalize (ax.alloc (.cells #[.int .i64 m.T, .slice xa1 f.n xc1, .slice xa2 f.k xc2, .slice xa3 m.E.length xc3, .bool true] 46)) = ux at *
      generalize ax.heap.size = gx at *
      have LX0 := hid Lx.out
      have CX0 := hid cx0
      have CX1 := hid cx1
      have CX2 := hid cx2
      have CX3 := hid cx3
      have CX4 := hid cx4
      have LKB : Hid (Calls Tryd.prog 23 #[.pointer (some ⟨pD.bp, 0, none⟩), .agg #[.slice aC2 fm.n cC2, .slice aR2 fm.k cR2, .int .i64 fm.week, .slice aH2 fm.hol.length cH2]] ux fun e w' => LdP f m ux e w') := (look_d (hc.out.keep NW.out) (by omega) ED.out.1 ED.out.2 (FA2.out.below (BL.out.trans (NW.out.mono BL.out.size)))).mono (fun e w' h => ld_of h FMN.out.1 FMN.out.2 hmi.out VL.out)
      go_wp2_with fail
      refine LKB.out.mono ?_
      rintro e ay ⟨yV, yS, yL, rfl, r1, r2, r3, b⟩
      obtain ⟨ya1, yc1, rfl⟩ := own_len r1
      obtain ⟨ya2, yc2, rfl⟩ := own_len r2
      obtain ⟨ya3, yc3, rfl⟩ := own_len r3
      have R1 := hid r1
      have R2 := hid r2
      have R3 := hid r3
      have BB : Hid (Below ay.heap.size ay (ay.alloc (.cells #[.int .i64 m.T, .slice ya1 f.n yc1, .slice ya2 f.k yc2, .slice ya3 m.E.length yc3, .bool true] 46))) := boxed_below (Below.refl (ay.heap.size + 1) (ay.alloc (.cells #[.int .i64 m.T, .slice ya1 f.n yc1, .slice ya2 f.k yc2, .slice ya3 m.E.length yc3, .bool true] 46)))
      have NY : Hid (Below ux.heap.size ux (ay.alloc (.cells #[.int .i64 m.T, .slice ya1 f.n yc1, .slice ya2 f.k yc2, .slice ya3 m.E.length yc3, .bool true] 46))) := b.trans (BB.out.mono b.size)
      have bys := b.size
      have RY : Hid (∃ fn, (ay.alloc (.cells #[.int .i64 m.T, .slice ya1 f.n yc1, .slice ya2 f.k yc2, .slice ya3 m.E.length yc3, .bool true] 46)).rowIs ay.heap.size 46 5 fn) := ⟨fun i => (#[.int .i64 m.T, .slice ya1 f.n yc1, .slice ya2 f.k yc2, .slice ya3 m.E.length yc3, .bool true] : Array Value).getD i (.bool true), World.rowIs_alloc ay _ _ _ (fun i hi => by simp at hi; simp [Array.getD, hi])⟩
      have cx0 := (NY.out.cell (p := ⟨gx, 0, none⟩) zx).trans cx0
      have cy0 : (ay.alloc (.cells #[.int .i64 m.T, .slice ya1 f.n yc1, .slice ya2 f.k yc2, .slice ya3 m.E.length yc3, .bool true] 46)).cell? ⟨ay.heap.size, 0, none⟩ = some (.int .i64 m.T) := boxed (Below.refl (ay.heap.size + 1) (ay.alloc (.cells #[.int .i64 m.T, .slice ya1 f.n yc1, .slice ya2 f.k yc2, .slice ya3 m.E.length yc3, .bool true] 46))) 0
      have cx1 := (NY.out.cell (p := ⟨gx, 1, none⟩) zx).trans cx1
      have cy1 : (ay.alloc (.cells #[.int .i64 m.T, .slice ya1 f.n yc1, .slice ya2 f.k yc2, .slice ya3 m.E.length yc3, .bool true] 46)).cell? ⟨ay.heap.size, 1, none⟩ = some (.slice ya1 f.n yc1) := boxed (Below.refl (ay.heap.size + 1) (ay.alloc (.cells #[.int .i64 m.T, .slice ya1 f.n yc1, .slice ya2 f.k yc2, .slice ya3 m.E.length yc3, .bool true] 46))) 1
      have cx2 := (NY.out.cell (p := ⟨gx, 2, none⟩) zx).trans cx2
      have cy2 : (ay.alloc (.cells #[.int .i64 m.T, .slice ya1 f.n yc1, .slice ya2 f.k yc2, .slice ya3 m.E.length yc3, .bool true] 46)).cell? ⟨ay.heap.size, 2, none⟩ = some (.slice ya2 f.k yc2) := boxed (Below.refl (ay.heap.size + 1) (ay.alloc (.cells #[.int .i64 m.T, .slice ya1 f.n yc1, .slice ya2 f.k yc2, .slice ya3 m.E.length yc3, .bool true] 46))) 2
      have cx3 := (NY.out.cell (p := ⟨gx, 3, none⟩) zx).trans cx3
      have cy3 : (ay.alloc (.cells #[.int .i64 m.T, .slice ya1 f.n yc1, .slice ya2 f.k yc2, .slice ya3 m.E.length yc3, .bool true] 46)).cell? ⟨ay.heap.size, 3, none⟩ = some (.slice ya3 m.E.length yc3) := boxed (Below.refl (ay.heap.size + 1) (ay.alloc (.cells #[.int .i64 m.T, .slice ya1 f.n yc1, .slice ya2 f.k yc2, .slice ya3 m.E.length yc3, .bool true] 46))) 3
      have cx4 := (NY.out.cell (p := ⟨gx, 4, none⟩) zx).trans cx4
      have cy4 : (ay.alloc (.cells #[.int .i64 m.T, .slice ya1 f.n yc1, .slice ya2 f.k yc2, .slice ya3 m.E.length yc3, .bool true] 46)).cell? ⟨ay.heap.size, 4, none⟩ = some (.bool true) := boxed (Below.refl (ay.heap.size + 1) (ay.alloc (.cells #[.int .i64 m.T, .slice ya1 f.n yc1, .slice ya2 f.k yc2, .slice ya3 m.E.length yc3, .bool true] 46))) 4
      have x0 := (NY.out.cell (p := ⟨g, 0, none⟩) (by show g < _; omega)).trans x0
      have x1 := (NY.out.cell (p := ⟨g, 1, none⟩) (by show g < _; omega)).trans x1
      have x2 := (NY.out.cell (p := ⟨g, 2, none⟩) (by show g < _; omega)).trans x2
      have x3 := (NY.out.cell (p := ⟨g, 3, none⟩) (by show g < _; omega)).trans x3
      have Lx := hid (Lx.out.below (B2 := 0) NY.out)
      have zy : ay.heap.size < (ay.alloc (.cells #[.int .i64 m.T, .slice ya1 f.n yc1, .slice ya2 f.k yc2, .slice ya3 m.E.length yc3, .bool true] 46)).heap.size := by simp
      have nys := NY.out.size
      clear r1 r2 r3 b LKB y0 y1 y2 y3
      go_upto_region 31 with (fail)
      generalize (ay.alloc (.cells #[.int .i64 m.T, .slice ya1 f.n yc1, .slice ya2 f.k yc2, .slice ya3 m.E.length yc3, .bool true] 46)) = uy at *
      obtain ⟨i3, v3, v4⟩ := Option.map_eq_some_iff.1 info3
      simp only [Prod.mk.injEq] at v4
      have I3 := hid v3
      have Z3 := hid v4
      clear v3 v4
      go_wp2_with fail
      go_loopw [20, 21] (fun tv ti wr => ∃ (q : Nat) (v : Value), q ≤ f.n ∧ ti = .int .i64 ((q : Int) - 1) ∧ v = tv ∧ Hid (wr.ownsRow uy.heap.size 3 1 v (f.n - q) (intsV (f.vals m.F m.T) (f.n - q))) ∧ Hid (Below uy.heap.size uy wr)) (fun _ ti _ => (intOf ti + 1).toNat)
      case atStart => exact ⟨f.n, .slice none 0 0, by omega, by go_num, rfl, by rw [Nat.sub_self]; exact ⟨rfl, Or.inl ⟨rfl, rfl⟩⟩, Below.refl _ _⟩
      case round =>
        obtain ⟨q, v, q1, rfl, rfl, hown, hbt⟩ := hrel
        have z1 := (hbt.out.cell (p := ⟨ay.heap.size, 1, none⟩) zy).trans cy1
        by_cases hq0 : q = 0
        · subst hq0
          rw [show (((0 : Nat) : Int)) - 1 = -1 by omega]
          have TO : Hid (wr.ownsRow uy.heap.size 3 1 v f.n (intsV (f.vals m.F m.T) f.n)) := by
            have h := hown.out
            rw [show f.n - 0 = f.n by omega] at h
            exact h
          obtain ⟨ta, tc, rfl⟩ := own_len TO.out
          obtain ⟨fn, ry⟩ := RY.out
          have ry2 := ry.of_block (hbt.out.block _ zy)
          have z0 := (hbt.out.cell (p := ⟨ay.heap.size, 0, none⟩) zy).trans cy0
          have z2 := (hbt.out.cell (p := ⟨ay.heap.size, 2, none⟩) zy).trans cy2
          have z3 := (hbt.out.cell (p := ⟨ay.heap.size, 3, none⟩) zy).trans cy3
          have z4 := (hbt.out.cell (p := ⟨ay.heap.size, 4, none⟩) zy).trans cy4
          have zf := ry2.frozen 1
          have bts := hbt.out.size
          obtain ⟨wu, hwu⟩ : ∃ W, wr.setCell ⟨ay.heap.size, 1, none⟩ (.slice ta f.n tc) = W := ⟨_, rfl⟩
          have OO : Hid (∀ j, j ≠ ay.heap.size → wu.heap[j]? = wr.heap[j]?) := fun j hj => by rw [← hwu]; exact Go.Deep.blk_setCell_other _ _ _ _ hj
          have OS : Hid (wu.heap.size = wr.heap.size) := by show _ = _; rw [← hwu]; simp [World.setCell]
          have OE : Hid (wu.os = wr.os ∧ wu.tape = wr.tape ∧ wu.output = wr.output) := by rw [← hwu]; exact ⟨rfl, rfl, rfl⟩
          have ry3 := ry2.set 1 (.slice ta f.n tc)
          rw [hwu] at ry3
          have cc : ∀ k, k ≠ 1 → wu.cell? ⟨ay.heap.size, k, none⟩ = wr.cell? ⟨ay.heap.size, k, none⟩ := fun k hk => by rw [← hwu, World.cell?_setCell_other (h := by intro e; exact hk (congrArg Addr.off e).symm)]
          have d0 := (cc 0 (by omega)).trans z0
          have d1 := ry3.cell (i := 1) (by omega)
          have d2 := (cc 2 (by omega)).trans z2
          have d3 := (cc 3 (by omega)).trans z3
          have d4 := (cc 4 (by omega)).trans z4
          simp at d1
          have LOW : Hid (∀ j, j < ay.heap.size → wu.heap[j]? = ay.heap[j]?) := fun j hj => (OO.out j (by omega)).trans ((hbt.out.block j (by omega)).trans (BB.out.block j hj))
          have Ly : Hid (LookAt 0 f m (.agg #[.int .i64 m.T, .slice ta f.n tc, .slice ya2 f.k yc2, .slice ya3 m.E.length yc3, .bool true]) wu) := ⟨_, _, _, rfl, own_monoL (own_of_block TO.out (w' := wu) (fun g hg _ => OO.out g (by have := own_from TO.out hg; omega))) (Nat.zero_le _), own_monoL (own_of_block R2.out (w' := wu) (fun g _ hlt => LOW.out g hlt)) (Nat.zero_le _), own_monoL (own_of_block R3.out (w' := wu) (fun g _ hlt => LOW.out g hlt)) (Nat.zero_le _)⟩
          have NU : Hid (Below ux.heap.size ux wu) := ⟨OE.out.1.trans (hbt.out.os.trans NY.out.os), OE.out.2.1.trans (hbt.out.tape.trans NY.out.tape), OE.out.2.2.trans (hbt.out.output.trans NY.out.output), by rw [OS.out]; omega, fun j hj => (OO.out j (by omega)).trans ((hbt.out.block j (by omega)).trans (NY.out.block j hj))⟩
          have NR : Hid (Below wo.heap.size wo wu) := NW.out.trans (NU.out.mono nws)
          have CF := hid (hc.out.keep NR.out)
          have C1F : Hid (C1 Z (1 + 2 * i) f QC pC m wu) := by
            have h := CF.out.first (by omega)
            have h' : C1 Z (1 + 2 * i) KC.f KC.Q KC.p m wu := h
            rw [EC.out.2.1, EC.out.2.2.1, EC.out.2.2.2] at h'
            exact h'
          have AL := hid (kalike_any (LookAt.off2 (w := ux) LX0.out (w' := wu) (fun j hj => NU.out.block j hj)) Ly.out rfl rfl rfl (fun _ _ => rfl) (fun _ _ => rfl) rfl n20 k6 LEN.out)
          have LC := hid (fun W (hW : Below wu.heap.size wu W) => klocal_any (C1F.out.keep hW) (by omega) FSO.out (FA0.out.below ((BL.out.trans (NR.out.mono BL.out.size)).trans (hW.mono (by have := NR.out.size; omega)))) (own_of_block hw.out (w' := W) (fun g hg hlt => (hW.block g (by have := NR.out.size; omega)).trans (NR.out.block g hlt))))
          have e0 := (NU.out.cell (p := ⟨gx, 0, none⟩) zx).trans CX0.out
          have e1 := (NU.out.cell (p := ⟨gx, 1, none⟩) zx).trans CX1.out
          have e2 := (NU.out.cell (p := ⟨gx, 2, none⟩) zx).trans CX2.out
          have e3 := (NU.out.cell (p := ⟨gx, 3, none⟩) zx).trans CX3.out
          have e4 := (NU.out.cell (p := ⟨gx, 4, none⟩) zx).trans CX4.out
          have gg0 := (NR.out.cell (p := ⟨g, 0, none⟩) zgr).trans G0.out
          have gg1 := (NR.out.cell (p := ⟨g, 1, none⟩) zgr).trans G1.out
          have gg2 := (NR.out.cell (p := ⟨g, 2, none⟩) zgr).trans G2.out
          have gg3 := (NR.out.cell (p := ⟨g, 3, none⟩) zgr).trans G3.out
          have HWU := hid hwu
          have BE : Hid (Below w.heap.size w wu) := B0.out.trans ((BL.out.trans (NR.out.mono BL.out.size)).mono B0.out.size)
          have zgu : g < wu.heap.size := by have := NR.out.size; omega
          clear hwu cc ry ry2 ry3 hown CF
          go_upto_region 38 with (fail)
          rw [HWU.out]
          clear HWU
          go_wp2_with fail
          refine AL.out.mono ?_
          rintro e wv ⟨rfl, hbv⟩
          have BV := hid hbv
          have gg0 := (hbv.cell (p := ⟨g, 0, none⟩) zgu).trans gg0
          have gg1 := (hbv.cell (p := ⟨g, 1, none⟩) zgu).trans gg1
          have gg2 := (hbv.cell (p := ⟨g, 2, none⟩) zgu).trans gg2
          have gg3 := (hbv.cell (p := ⟨g, 3, none⟩) zgu).trans gg3
          clear hbv AL
          go_wp2_with fail
          refine (LC.out _ BV.out).mono ?_
          rintro e wx ⟨rfl, hbx⟩
          have R : Hid (TPost w (.returned (.bool true)) wx) := ⟨rfl, BE.out.trans ((BV.out.trans (hbx.mono BV.out.size)).mono BE.out.size)⟩
          clear hbx LC
          go_wp2
          go_ret
          exact R.out
        · obtain ⟨i', rfl⟩ : ∃ i', q = i' + 1 := ⟨q - 1, by omega⟩
          rw [show (((i' + 1 : Nat) : Int)) - 1 = i' by omega]
          have lt2 : (i' : Int) < (f.n : Int) := by omega
          obtain ⟨gy1, cy1', e1, zv, xv⟩ := own_cell (own_of_block R1.out (w' := wr) (fun g _ hlt => (hbt.out.block g (by omega)).trans (BB.out.block g hlt))) (by omega)
          simp at e1
          obtain ⟨rfl, rfl⟩ := e1
          have xq := xv i' (by omega)
          rw [intsV_at _ (by omega)] at xq
          have MR : Hid (intsV (f.vals m.F m.T) (f.n - i') = intsV (f.vals m.F m.T) (f.n - (i' + 1)) ++ [.int .i64 (f.vals m.F m.T (f.n - 1 - i'))]) := by
            have h := intsV_more (f.vals m.F m.T) (f.n - (i' + 1))
            show _ = _
            rw [show f.n - i' = f.n - (i' + 1) + 1 by omega, h, show f.n - (i' + 1) = f.n - 1 - i' by omega]
          have jn1 : Hid (f.n - i' = f.n - (i' + 1) + 1) := by show _ = _; omega
          have jn : f.n - (i' + 1) ≤ 20 := by omega
          have zy2 := hbt.out.size
          clear xv
          generalize f.n - (i' + 1) = jj at *
          generalize f.vals m.F m.T (f.n - 1 - i') = vq at *
          go_wp2_with (at_builtin; refine wpList_append_lies _ rfl (.tmp 116) (.tmp 122) 24 rfl uy.heap.size 3 i3 _ 1 8 Tryd.underlying24 I3.out Z3.out.1 Z3.out.2.1 Z3.out.2.2 rfl (by omega) v jj (intsV (f.vals m.F m.T) jj) (by rfl) (own_alloc0 hown.out _) ⟨wr.heap.size, 0, none⟩ 1 1 [.int .i64 vq] (by rfl) (by rfl) (news1k _ _ _) (by simp [Value.oneCell']) (by omega) (by unfold maxLen; omega) (by omega) (by simp; omega) (wr.heap.size + 1) (by simp) ?_; intro g' cap w6 hown2 hgrow hat hlt; refine stopH ?_)
          have N1 : Hid (w6.ownsRow uy.heap.size 3 1 (.slice (some ⟨g', 0, none⟩) (jj + 1) cap) (f.n - i') (intsV (f.vals m.F m.T) (f.n - i'))) := by
            rw [MR.out, jn1.out]
            exact hown2
          have N2 := hid (hbt.out.trans (grow_below0 hgrow (by omega) (fun g hg' => own_base hown.out hg')))
          clear hown2 hgrow hat hlt hown hbt MR
          refine hid ?_
          go_wp2
          go_roundw
          case rel => exact ⟨i', _, by omega, by go_num, rfl, N1, N2⟩
          case measure => first | (simp [intOf]; done) | (simp [intOf]; omega)

end Go.Proofs.YtmofidaojmiepaaDoor
