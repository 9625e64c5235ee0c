/-
  SEVERAL CASES: their calls, the rooms of their logs left unsaid.
-/
import Derived.Test.YtmofidaojmiepaaDoorGE18
set_option linter.unusedVariables false
set_option linter.unusedSimpArgs false
namespace Go.Proofs.YtmofidaojmiepaaDoor
open Go.RowKit
attribute [local go_sem ↓] Go.wp_at_zero Go.wp_at_succ

/-- Four things by name. -/
def q4 {α : Type} (A B C D : α) : Nat → α
  | 0 => A
  | 1 => B
  | 2 => C
  | _ => D
section
variable {α : Type} (A B C D X : α)
theorem q4_0 : upd (q4 A B C D) 0 X = q4 X B C D := by
  funext i
  match i with
  | 0 => exact upd_same _ _ _
  | 1 => exact upd_other _ _ (by omega)
  | 2 => exact upd_other _ _ (by omega)
  | n + 3 => exact upd_other _ _ (by omega)
theorem q4_1 : upd (q4 A B C D) 1 X = q4 A X C D := by
  funext i
  match i with
  | 0 => exact upd_other _ _ (by omega)
  | 1 => exact upd_same _ _ _
  | 2 => exact upd_other _ _ (by omega)
  | n + 3 => exact upd_other _ _ (by omega)
theorem q4_2 : upd (q4 A B C D) 2 X = q4 A B X D := by
  funext i
  match i with
  | 0 => exact upd_other _ _ (by omega)
  | 1 => exact upd_other _ _ (by omega)
  | 2 => exact upd_same _ _ _
  | n + 3 => exact upd_other _ _ (by omega)
theorem q4_3 (i : Nat) (hi : i < 4) : upd (q4 A B C D) 3 X i = q4 A B C X i := by
  have : i = 0 ∨ i = 1 ∨ i = 2 ∨ i = 3 := by omega
  rcases this with rfl | rfl | rfl | rfl
  · exact upd_other _ _ (by omega)
  · exact upd_other _ _ (by omega)
  · exact upd_other _ _ (by omega)
  · exact upd_same _ _ _
end

/-- Of a case: what it stands on, its places, its form. -/
structure KS where
  Q : Nat → Prop
  p : KPl
  f : Frm

/-- Cases, and blocks that are nobody's. -/
def CN (Z : Nat → Prop) (b np : Nat) (K : Nat → KS) (M : Nat → Cs) (w : World) : Prop := ∃ V : Nat → Value, LS Z b np (fun i => ⟨(K i).Q, (K i).p, V i, (K i).f, M i⟩) w
def CNP (r : Value) (Z : Nat → Prop) (b np : Nat) (K : Nat → KS) (M : Nat → Cs) (w : World) (e : Ending) (w' : World) : Prop := e = .returned r ∧ CN Z b np K M w' ∧ StZ Z w w'
def CNA (Z : Nat → Prop) (b np : Nat) (K : Nat → KS) (M : Nat → Cs) (f : Frm) (m : Cs) (w : World) (e : Ending) (w' : World) : Prop := ∃ Q p, e = .returned (.pointer (some ⟨p.bp, 0, none⟩)) ∧ CN Z b (np + 1) (upd K np ⟨Q, p, f⟩) (upd M np m) w' ∧ StZ Z w w'

section
variable {Z : Nat → Prop} {b np : Nat} {K : Nat → KS} {M : Nat → Cs} {w w' : World}

theorem CNP.of {r : Value} {b' i : Nat} {m' : Cs} {V : Nat → Value} {e : Ending} (g : LsC r Z b' np (fun i => ⟨(K i).Q, (K i).p, V i, (K i).f, M i⟩) i m' w e w') : CNP r Z b' np K (upd M i m') w e w' := by
  obtain ⟨g0, v', g1, g2⟩ := g
  refine ⟨g0, ⟨upd V i v', g1.congr (fun j hj => ?_)⟩, g2⟩
  by_cases e : j = i
  · subst e
    rw [upd_same, upd_same, upd_same]
  · rw [upd_other _ _ e, upd_other _ _ e, upd_other _ _ e]
theorem CNA.of {b' : Nat} {f : Frm} {m' : Cs} {V : Nat → Value} {e : Ending} (g : LsA Z b' np (fun i => ⟨(K i).Q, (K i).p, V i, (K i).f, M i⟩) f m' w e w') : CNA Z b' np K M f m' w e w' := by
  obtain ⟨Q, p, v, g0, g1, g2⟩ := g
  refine ⟨Q, p, g0, ⟨upd V np v, g1.congr (fun j hj => ?_)⟩, g2⟩
  by_cases e : j = np
  · subst e
    rw [upd_same, upd_same, upd_same, upd_same]
  · rw [upd_other _ _ e, upd_other _ _ e, upd_other _ _ e, upd_other _ _ e]
theorem CN.congr (h : CN Z b np K M w) {K' : Nat → KS} {M' : Nat → Cs} (hK : ∀ i, i < np → K i = K' i) (hM : ∀ i, i < np → M i = M' i) : CN Z b np K' M' w := by
  obtain ⟨V, h⟩ := h
  exact ⟨V, h.congr (fun i hi => by rw [hK i hi, hM i hi])⟩
theorem CN.start (ht : Tab w) (K : Nat → KS) (M : Nat → Cs) (b : Nat) : CN (fun j => j < w.heap.size) b 0 K M w := ⟨fun _ => .bool false, LS.start ht _ b⟩
theorem CN.lt (h : CN Z b np K M w) : ∀ j, Z j → j < w.heap.size := by obtain ⟨v, h⟩ := h; exact h.lt
theorem CN.drop (h : CN Z b np K M w) (hb : Below w.heap.size w w') : CN (zup Z w w') b np K M w' := by obtain ⟨v, h⟩ := h; exact ⟨v, h.drop hb⟩
theorem CN.less (h : CN Z b np K M w) {Z' : Nat → Prop} (hz : ∀ j, Z' j → Z j) : CN Z' b np K M w := by obtain ⟨v, h⟩ := h; exact ⟨v, h.less hz⟩
theorem CN.keep (h : CN Z b np K M w) (hb : Below w.heap.size w w') : CN Z b np K M w' := by obtain ⟨v, h⟩ := h; exact ⟨v, h.keep hb⟩
theorem CN.up (h : CN Z b np K M w) {b2 : Nat} (hb : b ≤ b2) : CN Z b2 np K M w := by obtain ⟨v, h⟩ := h; exact ⟨v, h.up hb⟩
theorem CN.fok (h : CN Z b np K M w) {i : Nat} (hi : i < np) : (K i).f.Ok := by obtain ⟨v, h⟩ := h; exact h.fok hi
theorem CN.mok (h : CN Z b np K M w) {i : Nat} (hi : i < np) : (M i).Ok (K i).f := by obtain ⟨v, h⟩ := h; exact h.mok hi
theorem CN.len (h : CN Z b np K M w) {i : Nat} (hi : i < np) (hb : b ≤ 10000000000) : (M i).E.length ≤ 999999999000 := by obtain ⟨v, h⟩ := h; exact h.len hi hb
theorem CN.qlt (h : CN Z b np K M w) {i : Nat} (hi : i < np) : ∀ j, (K i).Q j → j < w.heap.size := by obtain ⟨v, h⟩ := h; exact h.qlt hi

theorem cnopened (h : CN Z b np K M w) (hb : 1 ≤ b) {f : Frm} (hf : f.Ok) {fv : Value} (hfv : FAt w f fv) : Calls Tryd.prog 13 #[fv] w fun e w' => CNA Z b np K M f (beginM f) w e w' := by
  obtain ⟨v, h⟩ := h
  exact (lopened h hb hf hfv).mono (fun _ _ g => CNA.of g)
theorem cnbegun (h : CN Z b np K M w) {w0 : World} (hw0 : Below w0.heap.size w0 w) (hz : ∀ j, j < w0.heap.size → Z j) {f : Frm} (hf : f.Ok) {fv : Value} (hfv : FAt w0 f fv) {aS : Option Addr} {m cS : Nat} {S : Nat → StK} (hsc : ScK w0 aS m S) (hm : m ≤ 1048576) (hb1 : 1 ≤ b) (hbb : b ≤ 8000000000) (at' : Int) (ha0 : 0 ≤ at') (ha1 : at' ≤ 1000000000) :
    Calls Tryd.prog 28 #[fv, .slice aS m cS, .int .i64 at'] w fun e w' => CNA Z (b + m) np K M f (advM f (fillM f S m) at') w e w' := by
  obtain ⟨v, h⟩ := h
  exact (lbegun h hw0 hz hf hfv hsc hm hb1 hbb at' ha0 ha1).mono (fun _ _ g => CNA.of g)
theorem cnfork (h : CN Z b np K M w) {i : Nat} (hi : i < np) (hb : b ≤ 10000000000) : Calls Tryd.prog 36 #[.pointer (some ⟨(K i).p.bp, 0, none⟩)] w fun e w' => CNA Z b np K M (K i).f (M i) w e w' := by
  obtain ⟨v, h⟩ := h
  exact (lfork h hi hb).mono (fun _ _ g => CNA.of g)
theorem cnset (h : CN Z b np K M w) {i : Nat} (hi : i < np) (hb : b ≤ 10000000000) (c v : Int) : Calls Tryd.prog 18 #[.pointer (some ⟨(K i).p.bp, 0, none⟩), .int .i64 c, .int .i64 v] w fun e w' => CNP (.int .i64 (setNo (K i).f (M i) c v)) Z (b + 1) np K (upd M i (setM (K i).f (M i) c v)) w e w' := by
  obtain ⟨v', h⟩ := h
  exact (lset h hi hb c v).mono (fun _ _ g => CNP.of g)
theorem cnadv (h : CN Z b np K M w) {i : Nat} (hi : i < np) (hb : b ≤ 10000000000) (tq : Int) : Calls Tryd.prog 20 #[.pointer (some ⟨(K i).p.bp, 0, none⟩), .int .i64 tq] w fun e w' => CNP (.int .i64 (advAns (M i).T tq)) Z b np K (upd M i (advM (K i).f (M i) tq)) w e w' := by
  obtain ⟨v', h⟩ := h
  exact (ladv h hi hb tq).mono (fun _ _ g => CNP.of g)
theorem cnlook (h : CN Z b np K M w) {i : Nat} (hi : i < np) (hb : b ≤ 10000000000) {fv : Value} (hfv : FAt w (K i).f fv) : Calls Tryd.prog 23 #[.pointer (some ⟨(K i).p.bp, 0, none⟩), fv] w fun e w' => LoP (K i).f (M i) w e w' := by
  obtain ⟨v, h⟩ := h
  exact llook h hi hb hfv
theorem cnplay (h : CN Z b np K M w) {w0 : World} (hw0 : Below w0.heap.size w0 w) (hz : ∀ j, j < w0.heap.size → Z j) {f : Frm} {fv : Value} (hfv : FAt w0 f fv) {aS : Option Addr} {m cS : Nat} {S : Nat → StK} (hsc : ScK w0 aS m S) {i : Nat} (hi : i < np) (hfi : (K i).f = f) (hop : (M i).op = true) (hm : m ≤ 1048576) (hbb : b ≤ 8000000000) :
    Calls Tryd.prog 35 #[.pointer (some ⟨(K i).p.bp, 0, none⟩), fv, .slice aS m cS] w fun e w' => CNP (.bool true) Z (b + m) np K (upd M i (playM f (M i) S m)) w e w' := by
  obtain ⟨v, h⟩ := h
  exact (lplay h hw0 hz hfv hsc hi hfi hop hm hbb).mono (fun _ _ g => CNP.of g)
theorem cnone (h : CN Z b np K M w) {f : Frm} {fv : Value} (hfv : FAt w f fv) {i : Nat} (hi : i < np) (hfi : (K i).f = f) (hop : (M i).op = true) (hbb : b ≤ 9000000000) (kd a b' : Int) (h0 : I64k kd) (h1 : I64k a) (h2 : I64k b') :
    Calls Tryd.prog 37 #[.pointer (some ⟨(K i).p.bp, 0, none⟩), fv, .agg #[.int .i64 kd, .int .i64 a, .int .i64 b']] w fun e w' => CNP (.bool true) Z (b + 1) np K (upd M i (oneM f (M i) kd a b')) w e w' := by
  obtain ⟨v, h⟩ := h
  exact (lone h hfv hi hfi hop hbb kd a b' h0 h1 h2).mono (fun _ _ g => CNP.of g)

/-- A store into a block that is nobody's, and that no case stands on. -/
theorem CN.store (h : CN Z b np K M w) {g : Nat} (hg : Z g) (hq : ∀ i, i < np → ¬ (K i).Q g) (hg0 : g ≠ 0) (hs : w.heap.size ≤ w'.heap.size) (hb : ∀ j, j < w.heap.size → j ≠ g → w'.heap[j]? = w.heap[j]?) : CN Z b np K M w' := by
  obtain ⟨V, tag, h1, h2⟩ := h
  refine ⟨V, ntag tag w.heap.size 0, ⟨fun i hi => ?_, fun i hi j hj => ?_, fun i hi j hj => ?_, h1.kok, h1.fok, ⟨by have := h1.tab.1; omega, fun q hq' => ?_⟩, ?_⟩, fun j hj => ?_⟩
  · refine KSt.move (h1.kst i hi) hs (fun j hj => ?_)
    rcases hj with hj | hj
    · exact hb j (KSt.qlt (h1.kst i hi) j hj) (fun e => hq i hi (e ▸ hj))
    · refine hb j (KSt.own_lt (h1.kst i hi) j hj) (fun e => ?_)
      have t1 := h1.kown i hi j hj
      rw [e, (h2 g hg).2] at t1
      omega
  · rw [ntag_old (KSt.own_lt (h1.kst i hi) j hj)]; exact h1.kown i hi j hj
  · rw [ntag_old (KSt.qlt (h1.kst i hi) j hj)]; exact h1.kq i hi j hj
  · have := h1.tab.2 q hq'
    have e : w'.heap[0]? = w.heap[0]? := hb 0 h1.tab.1 (fun e => hg0 e.symm)
    unfold World.cell? at this ⊢
    rw [e]
    exact this
  · rw [ntag_old h1.tab.1]; exact h1.t0
  · obtain ⟨a, c⟩ := h2 j hj
    exact ⟨by omega, by rw [ntag_old a]; exact c⟩
end

end Go.Proofs.YtmofidaojmiepaaDoor

/-
  THE WALKS: docketkeep.Twins.
-/
set_option linter.unusedVariables false
set_option linter.unusedSimpArgs false
namespace Go.Proofs.YtmofidaojmiepaaDoor
open Go.RowKit
attribute [local go_sem ↓] Go.wp_at_zero Go.wp_at_succ

/-- A look's box. -/
def BoxRow (w : World) (g : Nat) : Prop := ∃ fn, w.rowIs g 46 5 fn
theorem boxrow_new (w : World) (a b c d e : Value) : BoxRow (w.alloc (.cells #[a, b, c, d, e] 46)) w.heap.size := by
  refine ⟨fun i => (#[a, b, c, d, e] : Array Value).getD i a, ?_⟩
  have := World.rowIs_alloc w #[a, b, c, d, e] 46 (fun i => (#[a, b, c, d, e] : Array Value).getD i a) (fun i hi => by simp at hi; simp [Array.getD, hi])
  exact this
theorem BoxRow.stays {Z : Nat → Prop} {w w' : World} {g : Nat} (h : BoxRow w g) (hs : StZ Z w w') (hz : Z g) : BoxRow w' g := by
  obtain ⟨fn, h⟩ := h
  exact ⟨fn, h.of_block (hs.block g hz)⟩
theorem BoxRow.below {w w' : World} {g : Nat} (h : BoxRow w g) (hb : Below w.heap.size w w') : BoxRow w' g := by
  obtain ⟨fn, h⟩ := h
  exact ⟨fn, h.of_block (hb.block g h.lt)⟩
/-- A look, laid over it. -/
def lok5 (w : World) (g : Nat) (a b c d e : Value) : World := ((((w.setCell ⟨g, 0, none⟩ a).setCell ⟨g, 1, none⟩ b).setCell ⟨g, 2, none⟩ c).setCell ⟨g, 3, none⟩ d).setCell ⟨g, 4, none⟩ e
theorem lok5_size (w : World) (g : Nat) (a b c d e : Value) : (lok5 w g a b c d e).heap.size = w.heap.size := by simp [lok5, World.setCell]
theorem lok5_other (w : World) (g : Nat) (a b c d e : Value) {j : Nat} (h : j ≠ g) : (lok5 w g a b c d e).heap[j]? = w.heap[j]? := by
  unfold lok5
  rw [Go.Deep.blk_setCell_other _ _ _ _ h, Go.Deep.blk_setCell_other _ _ _ _ h, Go.Deep.blk_setCell_other _ _ _ _ h, Go.Deep.blk_setCell_other _ _ _ _ h, Go.Deep.blk_setCell_other _ _ _ _ h]
theorem BoxRow.lok5 {w : World} {g : Nat} (h : BoxRow w g) (a b c d e : Value) : (Go.Proofs.YtmofidaojmiepaaDoor.lok5 w g a b c d e).cell? ⟨g, 0, none⟩ = some a ∧ (Go.Proofs.YtmofidaojmiepaaDoor.lok5 w g a b c d e).cell? ⟨g, 1, none⟩ = some b ∧ (Go.Proofs.YtmofidaojmiepaaDoor.lok5 w g a b c d e).cell? ⟨g, 2, none⟩ = some c ∧ (Go.Proofs.YtmofidaojmiepaaDoor.lok5 w g a b c d e).cell? ⟨g, 3, none⟩ = some d ∧ (Go.Proofs.YtmofidaojmiepaaDoor.lok5 w g a b c d e).cell? ⟨g, 4, none⟩ = some e := by
  obtain ⟨fn, h⟩ := h
  have h5 := ((((h.set 0 a).set 1 b).set 2 c).set 3 d).set 4 e
  exact ⟨h5.cell (i := 0) (by omega), h5.cell (i := 1) (by omega), h5.cell (i := 2) (by omega), h5.cell (i := 3) (by omega), h5.cell (i := 4) (by omega)⟩
theorem lok5_below (w : World) {g : Nat} (a b c d e : Value) (j : Nat) (hj : j ≠ g) : (lok5 w g a b c d e).heap[j]? = w.heap[j]? := lok5_other w g a b c d e hj

/-- The j-th step is played, if there is one. -/
theorem play_min (f : Frm) (c : Cs) (S : Nat → StK) {i m : Nat} : (i < m → playM f c S (min (i + 1) m) = oneM f (playM f c S (min i m)) (S i).kd (S i).a (S i).b) ∧ (¬ i < m → playM f c S (min (i + 1) m) = playM f c S (min i m)) := by
  refine ⟨fun h => ?_, fun h => ?_⟩
  · rw [Nat.min_eq_left (by omega), Nat.min_eq_left (by omega)]
    rfl
  · rw [Nat.min_eq_right (by omega), Nat.min_eq_right (by omega)]

theorem CNP.as {r r' : Value} {Z : Nat → Prop} {b np : Nat} {K : Nat → KS} {M M' : Nat → Cs} {w w' : World} {e : Ending} (h : CNP r Z b np K M w e w') (hr : r = r') (hM : ∀ i, i < np → M i = M' i) : CNP r' Z b np K M' w e w' := by
  subst hr
  exact ⟨h.1, h.2.1.congr (fun _ _ => rfl) hM, h.2.2⟩
theorem cnone_at {Z : Nat → Prop} {b : Nat} {K : Nat → KS} {M : Nat → Cs} {w : World} (h : CN Z b 4 K M w) {f : Frm} {fv : Value} (hfv : FAt w f fv) {c : Nat} (hc : c < 4) {p : KPl} (hp : (K c).p.bp = p.bp) (hf : (K c).f = f) (hop : (M c).op = true) (hbb : b ≤ 9000000000) (s : StK) (h0 : I64k s.kd) (h1 : I64k s.a) (h2 : I64k s.b) {M' : Nat → Cs} (hM : ∀ i, i < 4 → upd M c (oneM f (M c) s.kd s.a s.b) i = M' i) :
    Calls Tryd.prog 37 #[.pointer (some ⟨p.bp, 0, none⟩), fv, .agg #[.int .i64 s.kd, .int .i64 s.a, .int .i64 s.b]] w fun e w' => CNP (.bool true) Z (b + 1) 4 K M' w e w' := by
  rw [← hp]
  exact (cnone h hfv hc hf hop hbb s.kd s.a s.b h0 h1 h2).mono (fun _ _ g => CNP.as g rfl hM)
theorem cnplay_at {Z : Nat → Prop} {b : Nat} {K : Nat → KS} {M : Nat → Cs} {w : World} (h : CN Z b 4 K M w) {w0 : World} (hw0 : Below w0.heap.size w0 w) (hz : ∀ j, j < w0.heap.size → Z j) {f : Frm} {fv : Value} (hfv : FAt w0 f fv) {aS : Option Addr} {m cS : Nat} {S : Nat → StK} (hsc : ScK w0 aS m S) {c : Nat} (hc : c < 4) {p : KPl} (hp : (K c).p.bp = p.bp) (hf : (K c).f = f) (hop : (M c).op = true) (hm : m ≤ 1048576) (hbb : b ≤ 8000000000) {M' : Nat → Cs} (hM : ∀ i, i < 4 → upd M c (playM f (M c) S m) i = M' i) :
    Calls Tryd.prog 35 #[.pointer (some ⟨p.bp, 0, none⟩), fv, .slice aS m cS] w fun e w' => CNP (.bool true) Z (b + m) 4 K M' w e w' := by
  rw [← hp]
  exact (cnplay h hw0 hz hfv hsc hc hf hop hm hbb).mono (fun _ _ g => CNP.as g rfl hM)
theorem cnlook_at {Z : Nat → Prop} {b : Nat} {K : Nat → KS} {M : Nat → Cs} {w : World} (h : CN Z b 4 K M w) (hb : b ≤ 10000000000) {f : Frm} {fv : Value} (hfv : FAt w f fv) {c : Nat} (hc : c < 4) {p : KPl} (hp : (K c).p.bp = p.bp) (hf : (K c).f = f) {m : Cs} (hm : M c = m) :
    Calls Tryd.prog 23 #[.pointer (some ⟨p.bp, 0, none⟩), fv] w fun e w' => LoP f m w e w' := by
  rw [← hp]
  have q := cnlook h hc hb (fv := fv) (by rw [hf]; exact hfv)
  rw [hf, hm] at q
  exact q
theorem LookAt.off {B : Nat} {f : Frm} {m : Cs} {v : Value} {w w' : World} (h : LookAt B f m v w) (hb : ∀ j, B ≤ j → j < w.heap.size → w'.heap[j]? = w.heap[j]?) : LookAt B f m v w' := by
  obtain ⟨vV, vS, vL, rfl, h1, h2, h3⟩ := h.ex
  exact ⟨vV, vS, vL, rfl, own_of_block h1 (fun g hg hlt => hb g (own_from h1 hg) hlt), own_of_block h2 (fun g hg hlt => hb g (own_from h2 hg) hlt), own_of_block h3 (fun g hg hlt => hb g (own_from h3 hg) hlt)⟩
theorem q4_3' {α : Type} (A B C D X : α) : ∀ i, i < 4 → upd (q4 A B C D) 3 X i = q4 A B C X i := fun i hi => q4_3 A B C D X i hi

set_option maxRecDepth 100000 in
set_option maxHeartbeats 4000000 in
theorem ktwins_any (C : Nat → Cel) (R : Nat → Rul) (hol : List Int) (aC aR aH : Option Addr) (n cC k cR cH : Nat) (week : Int) (w : World) (ht : Tab w) (hn : n ≤ 1000000000) (hk : k ≤ 1000000000) (hhl : hol.length ≤ 1000000000) (h64 : Raw64 C n R k week hol)
    (hcs : CAt w aC n C) (hrs : RAt w aR k R) (hhs : IntsAt w (.slice aH hol.length cH) hol) {aS : Option Addr} {mS cS : Nat} {S : Nat → StK} (hsc : ScK w aS mS S) (hm : mS ≤ 1048576) {aP : Option Addr} {mP cP : Nat} {SP : Nat → StK} (hscP : ScK w aP mP SP) (hmP : mP ≤ 1048576) {aR2 : Option Addr} {mR cR2 : Nat} {SR : Nat → StK} (hscR : ScK w aR2 mR SR) (hmR : mR ≤ 1048576) :
    Calls Tryd.prog 9 #[.agg #[.slice aC n cC, .slice aR k cR, .int .i64 week, .slice aH hol.length cH], .slice aS mS cS, .slice aP mP cP, .slice aR2 mR cR2] w fun e w' => TPost w e w' := by
  have BX := hid (Below.refl (w.heap.size + 1) (w.alloc (.cells #[.slice aC n cC, .slice aR k cR, .int .i64 week, .slice aH hol.length cH] 26)))
  have BW := hid (boxed_below BX.out)
  have SH := hid (kshaped_any C R hol aC aR aH n cC k cR cH week _ hn hk hhl h64 (hcs.below BW.out) (hrs.below BW.out) (SlAt.below hhs BW.out (Nat.le_refl _)))
  have FSO := hid (shF_ok C n R k week hol)
  have HT := hid ht
  have HSC := hid hsc
  have HSP := hid hscP
  have HSR := hid hscR
  clear hcs hrs hhs h64 ht hsc hscP hscR
  generalize shF C n R k week hol = f at *
  go_enter Tryd.func9, Tryd.ntmps9
  go_wp2_with fail
  refine SH.out.mono ?_
  rintro e w1 ⟨fv, rfl, fa, hb1⟩
  have FA := hid fa
  obtain ⟨aC', cC', aR', cR', aH', cH', rfl, fa1, fa2, fa3⟩ := fa
  clear fa1 fa2 fa3
  have B1 : Hid (Below w.heap.size w w1) := BW.out.trans (hb1.mono (by simp))
  clear hb1 BX BW SH
  have BX := hid (Below.refl (w1.heap.size + 1) (w1.alloc (.cells #[.slice aC' f.n cC', .slice aR' f.k cR', .int .i64 f.week, .slice aH' f.hol.length cH'] 26)))
  have BB := hid (boxed_below BX.out)
  have f0 : (w1.alloc (.cells #[.slice aC' f.n cC', .slice aR' f.k cR', .int .i64 f.week, .slice aH' f.hol.length cH'] 26)).cell? ⟨w1.heap.size, 0, none⟩ = some (Value.slice aC' f.n cC') := boxed BX.out 0
  have f1 : (w1.alloc (.cells #[.slice aC' f.n cC', .slice aR' f.k cR', .int .i64 f.week, .slice aH' f.hol.length cH'] 26)).cell? ⟨w1.heap.size, 1, none⟩ = some (Value.slice aR' f.k cR') := boxed BX.out 1
  have f2 : (w1.alloc (.cells #[.slice aC' f.n cC', .slice aR' f.k cR', .int .i64 f.week, .slice aH' f.hol.length cH'] 26)).cell? ⟨w1.heap.size, 2, none⟩ = some (.int .i64 f.week) := boxed BX.out 2
  have f3 : (w1.alloc (.cells #[.slice aC' f.n cC', .slice aR' f.k cR', .int .i64 f.week, .slice aH' f.hol.length cH'] 26)).cell? ⟨w1.heap.size, 3, none⟩ = some (Value.slice aH' f.hol.length cH') := boxed BX.out 3
  have zg : w1.heap.size < (w1.alloc (.cells #[.slice aC' f.n cC', .slice aR' f.k cR', .int .i64 f.week, .slice aH' f.hol.length cH'] 26)).heap.size := by simp
  have B0 : Hid (Below w.heap.size w (w1.alloc (.cells #[.slice aC' f.n cC', .slice aR' f.k cR', .int .i64 f.week, .slice aH' f.hol.length cH'] 26))) := B1.out.trans (BB.out.mono B1.out.size)
  have FA0 := hid (FA.out.below BB.out)
  have SC0 := hid (HSC.out.below B0.out)
  have T0 := hid (HT.out.below B0.out (Nat.le_refl _))
  have SP0 := hid (HSP.out.below B0.out)
  have SR0 := hid (HSR.out.below B0.out)
  clear HSP HSR
  clear BX BB FA B1 HT HSC
  go_upto_region 2 with (fail)
  generalize w1.alloc (.cells #[.slice aC' f.n cC', .slice aR' f.k cR', .int .i64 f.week, .slice aH' f.hol.length cH'] 26) = w0 at *
  generalize w1.heap.size = g at *
  obtain ⟨n1, n20, k6, _, _⟩ := FSO.out.ok.sizes
  have OPN : Hid (∀ W np K M, CN (fun j => j < w0.heap.size) 1 np K M W → Below w0.heap.size w0 W → Calls Tryd.prog 13 #[.agg #[.slice aC' f.n cC', .slice aR' f.k cR', .int .i64 f.week, .slice aH' f.hol.length cH']] W fun e w' => CNA (fun j => j < w0.heap.size) 1 np K M f (beginM f) W e w') := fun W np K M h hB => cnopened h (by omega) FSO.out.ok (FA0.out.below hB)
  have CN0 := hid (CN.start T0.out (fun _ => ⟨fun _ => False, kpl0, f⟩) (fun _ => beginM f) 1)
  have OB : Hid ((beginM f).op = true ∧ (playM f (beginM f) S mS).op = true) := ⟨beginM_op f, (playM_op f (beginM f) S mS).trans (beginM_op f)⟩
  obtain ⟨MB, hMB⟩ : ∃ MB, playM f (beginM f) S mS = MB := ⟨_, rfl⟩
  obtain ⟨mb, hmb⟩ : ∃ mb, beginM f = mb := ⟨_, rfl⟩
  rw [hMB] at OB
  rw [hmb] at OPN CN0 OB hMB
  have HBB := hid hMB
  clear hMB hmb
  go_wp2_with fail
  refine (OPN.out w0 0 _ _ CN0.out (Below.refl _ _)).mono ?_
  rintro e w2 ⟨QA, pA, rfl, c2, s2⟩
  obtain ⟨KA, hKA⟩ : ∃ KA : KS, KA = ⟨QA, pA, f⟩ := ⟨_, rfl⟩
  have C2 : Hid (CN (fun j => j < w0.heap.size) 1 1 (q4 KA KA KA KA) (q4 mb mb mb mb) w2) := c2.congr (fun i hi => by
    have e : i = 0 := by omega
    subst e
    rw [upd_same, hKA]
    rfl) (fun i hi => by
    have e : i = 0 := by omega
    subst e
    rw [upd_same]
    rfl)
  have EA : Hid (KA.p.bp = pA.bp ∧ KA.f = f) := by rw [hKA]; exact ⟨rfl, rfl⟩
  have SW := hid s2
  have f0' := (SW.out.cell 0 zg).trans f0
  have f1' := (SW.out.cell 1 zg).trans f1
  have f2' := (SW.out.cell 2 zg).trans f2
  have f3' := (SW.out.cell 3 zg).trans f3
  clear c2 s2 CN0 hKA
  go_wp2_with fail
  refine (OPN.out w2 1 _ _ C2.out (SW.out.below (Below.refl _ _) (fun j hj => hj))).mono ?_
  rintro e w3 ⟨QX, pX, rfl, c3, s3⟩
  obtain ⟨KX, hKX⟩ : ∃ KX : KS, KX = ⟨QX, pX, f⟩ := ⟨_, rfl⟩
  have C3 : Hid (CN (fun j => j < w0.heap.size) 1 2 (q4 KA KX KX KX) (q4 mb mb mb mb) w3) := c3.congr (fun i hi => by
    rw [← hKX, q4_1]
    have e : i = 0 ∨ i = 1 := by omega
    rcases e with rfl | rfl <;> rfl) (fun i hi => by
    rw [q4_1])
  have EX : Hid (KX.p.bp = pX.bp ∧ KX.f = f) := by rw [hKX]; exact ⟨rfl, rfl⟩
  have SW := hid (SW.out.trans s3)
  have f0' := (SW.out.cell 0 zg).trans f0
  have f1' := (SW.out.cell 1 zg).trans f1
  have f2' := (SW.out.cell 2 zg).trans f2
  have f3' := (SW.out.cell 3 zg).trans f3
  clear c3 s3 C2 hKX
  go_wp2_with fail
  refine (OPN.out w3 2 _ _ C3.out (SW.out.below (Below.refl _ _) (fun j hj => hj))).mono ?_
  rintro e w4 ⟨QY, pY, rfl, c4, s4⟩
  obtain ⟨KY, hKY⟩ : ∃ KY : KS, KY = ⟨QY, pY, f⟩ := ⟨_, rfl⟩
  have C4 : Hid (CN (fun j => j < w0.heap.size) 1 3 (q4 KA KX KY KY) (q4 mb mb mb mb) w4) := c4.congr (fun i hi => by
    rw [← hKY, q4_2]
    have e : i = 0 ∨ i = 1 ∨ i = 2 := by omega
    rcases e with rfl | rfl | rfl <;> rfl) (fun i hi => by
    rw [q4_2])
  have EY : Hid (KY.p.bp = pY.bp ∧ KY.f = f) := by rw [hKY]; exact ⟨rfl, rfl⟩
  have SW := hid (SW.out.trans s4)
  have f0' := (SW.out.cell 0 zg).trans f0
  have f1' := (SW.out.cell 1 zg).trans f1
  have f2' := (SW.out.cell 2 zg).trans f2
  have f3' := (SW.out.cell 3 zg).trans f3
  clear c4 s4 C3 hKY OPN
  have PLY : Hid (Calls Tryd.prog 35 #[.pointer (some ⟨pA.bp, 0, none⟩), .agg #[.slice aC' f.n cC', .slice aR' f.k cR', .int .i64 f.week, .slice aH' f.hol.length cH'], .slice aS mS cS] w4 fun e w' => CNP (.bool true) (fun j => j < w0.heap.size) (1 + mS) 3 (q4 KA KX KY KY) (q4 MB mb mb mb) w4 e w') := by
    have q := cnplay (cS := cS) C4.out (SW.out.below (Below.refl _ _) (fun j hj => hj)) (fun j hj => hj) FA0.out SC0.out (i := 0) (by omega) EA.out.2 OB.out.1 hm (by omega)
    rw [show (q4 KA KX KY KY 0) = KA from rfl, EA.out.1] at q
    exact q.mono (fun _ _ g => CNP.as g rfl (fun i hi => by rw [q4_0]; rw [show q4 mb mb mb mb 0 = mb from rfl, HBB.out]))
  go_wp2_with fail
  refine PLY.out.mono ?_
  rintro e w5 ⟨rfl, c5, s5⟩
  have C5 := hid c5
  have SW := hid (SW.out.trans s5)
  clear c5 s5 PLY C4 f0' f1' f2' f3'
  have FRK : Hid (Calls Tryd.prog 36 #[.pointer (some ⟨pA.bp, 0, none⟩)] w5 fun e w' => CNA (fun j => j < w0.heap.size) (1 + mS) 3 (q4 KA KX KY KY) (q4 MB mb mb mb) f MB w5 e w') := by
    have q := cnfork C5.out (i := 0) (by omega) (by omega)
    rw [show (q4 KA KX KY KY 0) = KA from rfl, EA.out.1, EA.out.2] at q
    exact q
  go_wp2_with fail
  refine FRK.out.mono ?_
  rintro e w6 ⟨QB, pB, rfl, c6, s6⟩
  obtain ⟨KB, hKB⟩ : ∃ KB : KS, KB = ⟨QB, pB, f⟩ := ⟨_, rfl⟩
  have C6 : Hid (CN (fun j => j < w0.heap.size) (1 + mS) 4 (q4 KA KX KY KB) (q4 MB mb mb MB) w6) := c6.congr (fun i hi => by
    rw [← hKB]
    exact q4_3 _ _ _ _ _ i hi) (fun i hi => q4_3 _ _ _ _ _ i hi)
  have EB : Hid (KB.p.bp = pB.bp ∧ KB.f = f) := by rw [hKB]; exact ⟨rfl, rfl⟩
  have SW := hid (SW.out.trans s6)
  have g0 := (SW.out.cell 0 zg).trans f0
  have g1 := (SW.out.cell 1 zg).trans f1
  have g2 := (SW.out.cell 2 zg).trans f2
  have g3 := (SW.out.cell 3 zg).trans f3
  have QLT : Hid (∀ i, i < 4 → ∀ j, ((q4 KA KX KY KB) i).Q j → j < w6.heap.size) := fun i hi => C6.out.qlt hi
  have w60 := SW.out.size
  have w6p : 0 < w6.heap.size := by have := T0.out.1; have := SW.out.size; omega
  clear c6 s6 C5 FRK hKB
  have HZ : Hid (∀ j, j < w0.heap.size → (fun j => j < w0.heap.size) j) := (fun j hj => hj)
  have ZG : Hid ((fun j => j < w0.heap.size) g) := zg
  have LEN : Hid (MB.E.length ≤ 1000000000000) := by show _ ≤ _; have h := C6.out.len (i := 0) (by omega) (by omega); have h' : MB.E.length ≤ 999999999000 := h; omega
  generalize hZ0 : (fun j => j < w0.heap.size) = Z0 at C6 HZ ZG
  clear hZ0
  have LK : Hid (Calls Tryd.prog 23 #[.pointer (some ⟨pA.bp, 0, none⟩), (.agg #[.slice aC' f.n cC', .slice aR' f.k cR', .int .i64 f.week, .slice aH' f.hol.length cH'])] w6 fun e w' => LoP f MB w6 e w') := cnlook_at C6.out (by omega) (FA0.out.below (SW.out.below (Below.refl _ _) (fun j hj => hj))) (c := 0) (by omega) EA.out.1 EA.out.2 rfl
  go_wp2_with fail
  refine LK.out.mono ?_
  rintro e ax ⟨vx, rfl, l, b⟩
  have Lx := hid l
  obtain ⟨xV, xS, xL, rfl, r1, r2, r3⟩ := l.ex
  obtain ⟨xa1, xc1, rfl⟩ := own_len r1
  obtain ⟨xa2, xc2, rfl⟩ := own_len r2
  obtain ⟨xa3, xc3, rfl⟩ := own_len r3
  have BB : Hid (Below ax.heap.size ax (ax.alloc (.cells #[.int .i64 MB.T, .slice xa1 f.n xc1, .slice xa2 f.k xc2, .slice xa3 MB.E.length xc3, .bool true] 46))) := boxed_below (Below.refl (ax.heap.size + 1) (ax.alloc (.cells #[.int .i64 MB.T, .slice xa1 f.n xc1, .slice xa2 f.k xc2, .slice xa3 MB.E.length xc3, .bool true] 46)))
  have NW : Hid (Below w6.heap.size w6 (ax.alloc (.cells #[.int .i64 MB.T, .slice xa1 f.n xc1, .slice xa2 f.k xc2, .slice xa3 MB.E.length xc3, .bool true] 46))) := b.trans (BB.out.mono b.size)
  have NS : Hid (StZ Z0 w6 (ax.alloc (.cells #[.int .i64 MB.T, .slice xa1 f.n xc1, .slice xa2 f.k xc2, .slice xa3 MB.E.length xc3, .bool true] 46))) := StZ.of NW.out C6.out.lt
  have Lx : Hid (LookZ (zup Z0 w6 (ax.alloc (.cells #[.int .i64 MB.T, .slice xa1 f.n xc1, .slice xa2 f.k xc2, .slice xa3 MB.E.length xc3, .bool true] 46))) f MB _ (ax.alloc (.cells #[.int .i64 MB.T, .slice xa1 f.n xc1, .slice xa2 f.k xc2, .slice xa3 MB.E.length xc3, .bool true] 46))) := LookZ.of (Lx.out.below (B2 := 0) BB.out) (fun j h1 h2 => Or.inr ⟨h1, h2⟩)
  have g0 := (NS.out.cell 0 ZG.out).trans g0
  have g1 := (NS.out.cell 1 ZG.out).trans g1
  have g2 := (NS.out.cell 2 ZG.out).trans g2
  have g3 := (NS.out.cell 3 ZG.out).trans g3
  have zx : Hid (zup Z0 w6 (ax.alloc (.cells #[.int .i64 MB.T, .slice xa1 f.n xc1, .slice xa2 f.k xc2, .slice xa3 MB.E.length xc3, .bool true] 46)) ax.heap.size) := Or.inr ⟨b.size, by simp⟩
  have Rx : Hid (BoxRow (ax.alloc (.cells #[.int .i64 MB.T, .slice xa1 f.n xc1, .slice xa2 f.k xc2, .slice xa3 MB.E.length xc3, .bool true] 46)) ax.heap.size) := boxrow_new _ _ _ _ _ _
  have hqx := b.size
  have hzx : ax.heap.size < (ax.alloc (.cells #[.int .i64 MB.T, .slice xa1 f.n xc1, .slice xa2 f.k xc2, .slice xa3 MB.E.length xc3, .bool true] 46)).heap.size := by simp
  have cx0 : (ax.alloc (.cells #[.int .i64 MB.T, .slice xa1 f.n xc1, .slice xa2 f.k xc2, .slice xa3 MB.E.length xc3, .bool true] 46)).cell? ⟨ax.heap.size, 0, none⟩ = some (.int .i64 MB.T) := boxed (Below.refl (ax.heap.size + 1) (ax.alloc (.cells #[.int .i64 MB.T, .slice xa1 f.n xc1, .slice xa2 f.k xc2, .slice xa3 MB.E.length xc3, .bool true] 46))) 0
  have cx1 : (ax.alloc (.cells #[.int .i64 MB.T, .slice xa1 f.n xc1, .slice xa2 f.k xc2, .slice xa3 MB.E.length xc3, .bool true] 46)).cell? ⟨ax.heap.size, 1, none⟩ = some (.slice xa1 f.n xc1) := boxed (Below.refl (ax.heap.size + 1) (ax.alloc (.cells #[.int .i64 MB.T, .slice xa1 f.n xc1, .slice xa2 f.k xc2, .slice xa3 MB.E.length xc3, .bool true] 46))) 1
  have cx2 : (ax.alloc (.cells #[.int .i64 MB.T, .slice xa1 f.n xc1, .slice xa2 f.k xc2, .slice xa3 MB.E.length xc3, .bool true] 46)).cell? ⟨ax.heap.size, 2, none⟩ = some (.slice xa2 f.k xc2) := boxed (Below.refl (ax.heap.size + 1) (ax.alloc (.cells #[.int .i64 MB.T, .slice xa1 f.n xc1, .slice xa2 f.k xc2, .slice xa3 MB.E.length xc3, .bool true] 46))) 2
  have cx3 : (ax.alloc (.cells #[.int .i64 MB.T, .slice xa1 f.n xc1, .slice xa2 f.k xc2, .slice xa3 MB.E.length xc3, .bool true] 46)).cell? ⟨ax.heap.size, 3, none⟩ = some (.slice xa3 MB.E.length xc3) := boxed (Below.refl (ax.heap.size + 1) (ax.alloc (.cells #[.int .i64 MB.T, .slice xa1 f.n xc1, .slice xa2 f.k xc2, .slice xa3 MB.E.length xc3, .bool true] 46))) 3
  have cx4 : (ax.alloc (.cells #[.int .i64 MB.T, .slice xa1 f.n xc1, .slice xa2 f.k xc2, .slice xa3 MB.E.length xc3, .bool true] 46)).cell? ⟨ax.heap.size, 4, none⟩ = some (.bool true) := boxed (Below.refl (ax.heap.size + 1) (ax.alloc (.cells #[.int .i64 MB.T, .slice xa1 f.n xc1, .slice xa2 f.k xc2, .slice xa3 MB.E.length xc3, .bool true] 46))) 4
  have HZ0 := hid HZ.out
  have HZ : Hid (∀ j, j < w0.heap.size → zup Z0 w6 (ax.alloc (.cells #[.int .i64 MB.T, .slice xa1 f.n xc1, .slice xa2 f.k xc2, .slice xa3 MB.E.length xc3, .bool true] 46)) j) := fun j hj => Or.inl (HZ.out j hj)
  have ZG : Hid (zup Z0 w6 (ax.alloc (.cells #[.int .i64 MB.T, .slice xa1 f.n xc1, .slice xa2 f.k xc2, .slice xa3 MB.E.length xc3, .bool true] 46)) g) := Or.inl ZG.out
  have SW := hid (SW.out.trans (NS.out.less (fun j hj => HZ0.out j hj)))
  have Nx := hid (C6.out.drop NW.out)
  clear r1 r2 r3 l b BB NW NS LK C6
  go_upto_region 12 with (fail)
  generalize zup Z0 w6 (ax.alloc (.cells #[.int .i64 MB.T, .slice xa1 f.n xc1, .slice xa2 f.k xc2, .slice xa3 MB.E.length xc3, .bool true] 46)) = Zx at *
  generalize (ax.alloc (.cells #[.int .i64 MB.T, .slice xa1 f.n xc1, .slice xa2 f.k xc2, .slice xa3 MB.E.length xc3, .bool true] 46)) = ux at *
  generalize ax.heap.size = gx at *
  have LK : Hid (Calls Tryd.prog 23 #[.pointer (some ⟨pB.bp, 0, none⟩), (.agg #[.slice aC' f.n cC', .slice aR' f.k cR', .int .i64 f.week, .slice aH' f.hol.length cH'])] ux fun e w' => LoP f MB ux e w') := cnlook_at Nx.out (by omega) (FA0.out.below (SW.out.below (Below.refl _ _) (fun j hj => hj))) (c := 3) (by omega) EB.out.1 EB.out.2 rfl
  go_wp2_with fail
  refine LK.out.mono ?_
  rintro e ay ⟨vy, rfl, l, b⟩
  have Ly := hid l
  obtain ⟨yV, yS, yL, rfl, r1, r2, r3⟩ := l.ex
  obtain ⟨ya1, yc1, rfl⟩ := own_len r1
  obtain ⟨ya2, yc2, rfl⟩ := own_len r2
  obtain ⟨ya3, yc3, rfl⟩ := own_len r3
  have BB : Hid (Below ay.heap.size ay (ay.alloc (.cells #[.int .i64 MB.T, .slice ya1 f.n yc1, .slice ya2 f.k yc2, .slice ya3 MB.E.length yc3, .bool true] 46))) := boxed_below (Below.refl (ay.heap.size + 1) (ay.alloc (.cells #[.int .i64 MB.T, .slice ya1 f.n yc1, .slice ya2 f.k yc2, .slice ya3 MB.E.length yc3, .bool true] 46)))
  have NW : Hid (Below ux.heap.size ux (ay.alloc (.cells #[.int .i64 MB.T, .slice ya1 f.n yc1, .slice ya2 f.k yc2, .slice ya3 MB.E.length yc3, .bool true] 46))) := b.trans (BB.out.mono b.size)
  have NS : Hid (StZ Zx ux (ay.alloc (.cells #[.int .i64 MB.T, .slice ya1 f.n yc1, .slice ya2 f.k yc2, .slice ya3 MB.E.length yc3, .bool true] 46))) := StZ.of NW.out Nx.out.lt
  have Ly : Hid (LookZ (zup Zx ux (ay.alloc (.cells #[.int .i64 MB.T, .slice ya1 f.n yc1, .slice ya2 f.k yc2, .slice ya3 MB.E.length yc3, .bool true] 46))) f MB _ (ay.alloc (.cells #[.int .i64 MB.T, .slice ya1 f.n yc1, .slice ya2 f.k yc2, .slice ya3 MB.E.length yc3, .bool true] 46))) := LookZ.of (Ly.out.below (B2 := 0) BB.out) (fun j h1 h2 => Or.inr ⟨h1, h2⟩)
  have Lx := hid ((Lx.out.stays NS.out).less (Z' := zup Zx ux (ay.alloc (.cells #[.int .i64 MB.T, .slice ya1 f.n yc1, .slice ya2 f.k yc2, .slice ya3 MB.E.length yc3, .bool true] 46))) (fun j hj => Or.inl hj))
  have cx0 := (NS.out.cell 0 zx.out).trans cx0
  have cx1 := (NS.out.cell 1 zx.out).trans cx1
  have cx2 := (NS.out.cell 2 zx.out).trans cx2
  have cx3 := (NS.out.cell 3 zx.out).trans cx3
  have cx4 := (NS.out.cell 4 zx.out).trans cx4
  have Rx := hid (Rx.out.stays NS.out zx.out)
  have zx : Hid (zup Zx ux (ay.alloc (.cells #[.int .i64 MB.T, .slice ya1 f.n yc1, .slice ya2 f.k yc2, .slice ya3 MB.E.length yc3, .bool true] 46)) gx) := Or.inl zx.out
  have g0 := (NS.out.cell 0 ZG.out).trans g0
  have g1 := (NS.out.cell 1 ZG.out).trans g1
  have g2 := (NS.out.cell 2 ZG.out).trans g2
  have g3 := (NS.out.cell 3 ZG.out).trans g3
  have zy : Hid (zup Zx ux (ay.alloc (.cells #[.int .i64 MB.T, .slice ya1 f.n yc1, .slice ya2 f.k yc2, .slice ya3 MB.E.length yc3, .bool true] 46)) ay.heap.size) := Or.inr ⟨b.size, by simp⟩
  have Ry : Hid (BoxRow (ay.alloc (.cells #[.int .i64 MB.T, .slice ya1 f.n yc1, .slice ya2 f.k yc2, .slice ya3 MB.E.length yc3, .bool true] 46)) ay.heap.size) := boxrow_new _ _ _ _ _ _
  have hqy := b.size
  have hzy : ay.heap.size < (ay.alloc (.cells #[.int .i64 MB.T, .slice ya1 f.n yc1, .slice ya2 f.k yc2, .slice ya3 MB.E.length yc3, .bool true] 46)).heap.size := by simp
  have cy0 : (ay.alloc (.cells #[.int .i64 MB.T, .slice ya1 f.n yc1, .slice ya2 f.k yc2, .slice ya3 MB.E.length yc3, .bool true] 46)).cell? ⟨ay.heap.size, 0, none⟩ = some (.int .i64 MB.T) := boxed (Below.refl (ay.heap.size + 1) (ay.alloc (.cells #[.int .i64 MB.T, .slice ya1 f.n yc1, .slice ya2 f.k yc2, .slice ya3 MB.E.length yc3, .bool true] 46))) 0
  have cy1 : (ay.alloc (.cells #[.int .i64 MB.T, .slice ya1 f.n yc1, .slice ya2 f.k yc2, .slice ya3 MB.E.length yc3, .bool true] 46)).cell? ⟨ay.heap.size, 1, none⟩ = some (.slice ya1 f.n yc1) := boxed (Below.refl (ay.heap.size + 1) (ay.alloc (.cells #[.int .i64 MB.T, .slice ya1 f.n yc1, .slice ya2 f.k yc2, .slice ya3 MB.E.length yc3, .bool true] 46))) 1
  have cy2 : (ay.alloc (.cells #[.int .i64 MB.T, .slice ya1 f.n yc1, .slice ya2 f.k yc2, .slice ya3 MB.E.length yc3, .bool true] 46)).cell? ⟨ay.heap.size, 2, none⟩ = some (.slice ya2 f.k yc2) := boxed (Below.refl (ay.heap.size + 1) (ay.alloc (.cells #[.int .i64 MB.T, .slice ya1 f.n yc1, .slice ya2 f.k yc2, .slice ya3 MB.E.length yc3, .bool true] 46))) 2
  have cy3 : (ay.alloc (.cells #[.int .i64 MB.T, .slice ya1 f.n yc1, .slice ya2 f.k yc2, .slice ya3 MB.E.length yc3, .bool true] 46)).cell? ⟨ay.heap.size, 3, none⟩ = some (.slice ya3 MB.E.length yc3) := boxed (Below.refl (ay.heap.size + 1) (ay.alloc (.cells #[.int .i64 MB.T, .slice ya1 f.n yc1, .slice ya2 f.k yc2, .slice ya3 MB.E.length yc3, .bool true] 46))) 3
  have cy4 : (ay.alloc (.cells #[.int .i64 MB.T, .slice ya1 f.n yc1, .slice ya2 f.k yc2, .slice ya3 MB.E.length yc3, .bool true] 46)).cell? ⟨ay.heap.size, 4, none⟩ = some (.bool true) := boxed (Below.refl (ay.heap.size + 1) (ay.alloc (.cells #[.int .i64 MB.T, .slice ya1 f.n yc1, .slice ya2 f.k yc2, .slice ya3 MB.E.length yc3, .bool true] 46))) 4
  have HZ0 := hid HZ.out
  have HZ : Hid (∀ j, j < w0.heap.size → zup Zx ux (ay.alloc (.cells #[.int .i64 MB.T, .slice ya1 f.n yc1, .slice ya2 f.k yc2, .slice ya3 MB.E.length yc3, .bool true] 46)) j) := fun j hj => Or.inl (HZ.out j hj)
  have ZG : Hid (zup Zx ux (ay.alloc (.cells #[.int .i64 MB.T, .slice ya1 f.n yc1, .slice ya2 f.k yc2, .slice ya3 MB.E.length yc3, .bool true] 46)) g) := Or.inl ZG.out
  have SW := hid (SW.out.trans (NS.out.less (fun j hj => HZ0.out j hj)))
  have Ny := hid (Nx.out.drop NW.out)
  clear r1 r2 r3 l b BB NW NS LK Nx
  go_upto_region 13 with (fail)
  generalize zup Zx ux (ay.alloc (.cells #[.int .i64 MB.T, .slice ya1 f.n yc1, .slice ya2 f.k yc2, .slice ya3 MB.E.length yc3, .bool true] 46)) = Zy at *
  generalize (ay.alloc (.cells #[.int .i64 MB.T, .slice ya1 f.n yc1, .slice ya2 f.k yc2, .slice ya3 MB.E.length yc3, .bool true] 46)) = uy at *
  generalize ay.heap.size = gy at *
  obtain ⟨Bx, lx⟩ := Lx.out.lk
  obtain ⟨By, ly⟩ := Ly.out.lk
  have AL := hid (kalike_any lx ly rfl rfl rfl (fun _ _ => rfl) (fun _ _ => rfl) rfl n20 k6 LEN.out)
  clear lx ly
  go_wp2_with fail
  refine AL.out.mono ?_
  rintro e w9 ⟨rfl, hb9⟩
  have C9 := hid (Ny.out.keep hb9)
  have S9 := StZ.of hb9 Ny.out.lt
  have SW := hid (SW.out.trans (S9.less HZ.out))
  have Rx := hid (Rx.out.stays S9 zx.out)
  have Ry := hid (Ry.out.stays S9 zy.out)
  have g0 := (S9.cell 0 ZG.out).trans g0
  have g1 := (S9.cell 1 ZG.out).trans g1
  have g2 := (S9.cell 2 ZG.out).trans g2
  have g3 := (S9.cell 3 ZG.out).trans g3
  clear hb9 AL Ny S9 cx0 cx1 cx2 cx3 cx4 cy0 cy1 cy2 cy3 cy4 Lx Ly
  go_wp2_with fail
  go_loopw [17] (fun t wr => ∃ i : Nat, (i ≤ mP ∨ i ≤ mR) ∧ t = .int .i64 i ∧ Hid (CN Zy (1 + mS + 2 * i) 4 (q4 KA KX KY KB) (q4 (playM f MB SP (min i mP)) mb mb (playM f MB SR (min i mR))) wr) ∧ Hid (StZ Zy w9 wr)) (fun t _ => mP + mR - (intOf t).toNat)
  case atStart => exact ⟨0, by omega, rfl, by rw [Nat.min_eq_left (by omega), Nat.min_eq_left (by omega)]; exact C9, StZ.refl _ _⟩
  case round =>
    clear C9
    obtain ⟨i, i1, rfl, hc, hs⟩ := hrel
    have SWr := hid (SW.out.trans (hs.out.less HZ.out))
    have BL := hid (SWr.out.below (Below.refl _ _) (fun j hj => hj))
    have f0' := (hs.out.cell 0 ZG.out).trans g0
    have f1' := (hs.out.cell 1 ZG.out).trans g1
    have f2' := (hs.out.cell 2 ZG.out).trans g2
    have f3' := (hs.out.cell 3 ZG.out).trans g3
    obtain ⟨pmP, pnP⟩ := play_min f MB SP (i := i) (m := mP)
    obtain ⟨pmR, pnR⟩ := play_min f MB SR (i := i) (m := mR)
    have PMP := hid pmP
    have PNP := hid pnP
    have PMR := hid pmR
    have PNR := hid pnR
    have OPP : Hid ((playM f MB SP (min i mP)).op = true) := (playM_op _ _ _ _).trans OB.out.2
    have OPR : Hid ((playM f MB SR (min i mR)).op = true) := (playM_op _ _ _ _).trans OB.out.2
    have zgr : g < wr.heap.size := by have := BL.out.size; omega
    clear pmP pnP pmR pnR
    obtain ⟨MP1, hMP1⟩ : ∃ M, playM f MB SP (min (i + 1) mP) = M := ⟨_, rfl⟩
    obtain ⟨MR1, hMR1⟩ : ∃ M, playM f MB SR (min (i + 1) mR) = M := ⟨_, rfl⟩
    rw [hMP1] at PMP PNP
    rw [hMR1] at PMR PNR
    have E1 := hid hMP1
    have E2 := hid hMR1
    clear hMP1 hMR1
    by_cases hP : i < mP
    · have nn : Hid (¬ (mP ≤ i)) := by show ¬ _; omega
      have BLw := hid (SWr.out.below (Below.refl _ _) (fun j hj => hj))
      obtain ⟨sc1, sc2⟩ := SP0.out.below BLw.out
      obtain ⟨bX, oX, hax, zX, hX⟩ : ∃ b off, aP = some ⟨b, off, none⟩ ∧ b < wr.heap.size ∧ ∀ i, i < mP → wr.cell? ⟨b, off + i * 3, none⟩ = some (.int .i64 (SP i).kd) ∧ wr.cell? ⟨b, off + i * 3 + 1, none⟩ = some (.int .i64 (SP i).a) ∧ wr.cell? ⟨b, off + i * 3 + 2, none⟩ = some (.int .i64 (SP i).b) := by
        rcases sc1 with h | h
        · omega
        · exact h
      have zX0 : Hid (Zy bX) := by
        rcases SP0.out.1 with h | ⟨b, off, e, h1, _⟩
        · omega
        · rw [hax] at e
          simp at e
          exact HZ.out _ (by omega)
      obtain ⟨x0, x1, x2⟩ := hX i hP
      obtain ⟨s0, s1, s2⟩ := sc2 i hP
      have ONE : Hid (∀ W, Below wr.heap.size wr W → Calls Tryd.prog 37 #[.pointer (some ⟨pA.bp, 0, none⟩), .agg #[.slice aC' f.n cC', .slice aR' f.k cR', .int .i64 f.week, .slice aH' f.hol.length cH'], .agg #[.int .i64 (SP i).kd, .int .i64 (SP i).a, .int .i64 (SP i).b]] W fun e w' => CNP (.bool true) Zy (1 + mS + 2 * i + 1) 4 (q4 KA KX KY KB) (q4 MP1 mb mb (playM f MB SR (min i mR))) W e w') := fun W hW => cnone_at (hc.out.keep hW) (FA0.out.below (BLw.out.trans (hW.mono BLw.out.size))) (c := 0) (by omega) EA.out.1 EA.out.2 OPP.out (by omega) (SP i) s0 s1 s2 (fun j hj => by rw [q4_0]; rw [show q4 (playM f MB SP (min i mP)) mb mb (playM f MB SR (min i mR)) 0 = playM f MB SP (min i mP) from rfl, ← PMP.out hP])
      subst hax
      clear hX sc1 sc2 s0 s1 s2 BLw
      generalize hkd : (SP i).kd = kd at *
      generalize hka : (SP i).a = sa at *
      generalize hkb : (SP i).b = sb at *
      clear hkd hka hkb
      have lt' : (i : Int) < (mP : Int) := by omega
      go_upto_region 22 with (fail)
      go_region_held3 (fun w' => w'.cell? ⟨g, 0, none⟩ = some (.slice aC' f.n cC') ∧ w'.cell? ⟨g, 1, none⟩ = some (.slice aR' f.k cR') ∧ w'.cell? ⟨g, 2, none⟩ = some (.int .i64 f.week) ∧ w'.cell? ⟨g, 3, none⟩ = some (.slice aH' f.hol.length cH') ∧ w'.cell? ⟨bX, oX + i * 3, none⟩ = some (.int .i64 kd) ∧ w'.cell? ⟨bX, oX + i * 3 + 1, none⟩ = some (.int .i64 sa) ∧ w'.cell? ⟨bX, oX + i * 3 + 2, none⟩ = some (.int .i64 sb))
        (refine ⟨?_, ?_, ?_, ?_, ?_, ?_, ?_⟩ <;> assumption)
        ((go_at_call 37; refine (ONE.out _ (Below.refl _ _).drew).mono ?_; rintro e z1 ⟨rfl, c2, q2⟩; have m0 := (q2.cell 0 ZG.out).trans f0'; have m1 := (q2.cell 1 ZG.out).trans f1'; have m2 := (q2.cell 2 ZG.out).trans f2'; have m3 := (q2.cell 3 ZG.out).trans f3'; have m4 := (q2.cell (oX + i * 3) zX0.out).trans x0; have m5 := (q2.cell (oX + i * 3 + 1) zX0.out).trans x1; have m6 := (q2.cell (oX + i * 3 + 2) zX0.out).trans x2))
      all_goals (
        have hc2 : Hid (CN Zy (1 + mS + 2 * i + 1) 4 (q4 KA KX KY KB) (q4 MP1 mb mb (playM f MB SR (min i mR))) z1) := c2
        have hs2 := hid (hs.out.trans ⟨q2.os, q2.tape, q2.output, q2.size, q2.block⟩)
        have f0' := m0
        have f1' := m1
        have f2' := m2
        have f3' := m3
        clear c2 q2 m0 m1 m2 m3 m4 m5 m6 hs hc ONE x0 x1 x2
        by_cases hR : i < mR
        · have SWr := hid (SW.out.trans (hs2.out.less HZ.out))
          have BLw := hid (SWr.out.below (Below.refl _ _) (fun j hj => hj))
          obtain ⟨sc1, sc2⟩ := SR0.out.below BLw.out
          obtain ⟨bX, oX, hax, zX, hX⟩ : ∃ b off, aR2 = some ⟨b, off, none⟩ ∧ b < z1.heap.size ∧ ∀ i, i < mR → z1.cell? ⟨b, off + i * 3, none⟩ = some (.int .i64 (SR i).kd) ∧ z1.cell? ⟨b, off + i * 3 + 1, none⟩ = some (.int .i64 (SR i).a) ∧ z1.cell? ⟨b, off + i * 3 + 2, none⟩ = some (.int .i64 (SR i).b) := by
            rcases sc1 with h | h
            · omega
            · exact h
          have zX0 : Hid (Zy bX) := by
            rcases SR0.out.1 with h | ⟨b, off, e, h1, _⟩
            · omega
            · rw [hax] at e
              simp at e
              exact HZ.out _ (by omega)
          obtain ⟨x0, x1, x2⟩ := hX i hR
          obtain ⟨s0, s1, s2⟩ := sc2 i hR
          have ONE : Hid (∀ W, Below z1.heap.size z1 W → Calls Tryd.prog 37 #[.pointer (some ⟨pB.bp, 0, none⟩), .agg #[.slice aC' f.n cC', .slice aR' f.k cR', .int .i64 f.week, .slice aH' f.hol.length cH'], .agg #[.int .i64 (SR i).kd, .int .i64 (SR i).a, .int .i64 (SR i).b]] W fun e w' => CNP (.bool true) Zy (1 + mS + 2 * i + 1 + 1) 4 (q4 KA KX KY KB) (q4 MP1 mb mb MR1) W e w') := fun W hW => cnone_at (hc2.out.keep hW) (FA0.out.below (BLw.out.trans (hW.mono BLw.out.size))) (c := 3) (by omega) EB.out.1 EB.out.2 OPR.out (by omega) (SR i) s0 s1 s2 (fun j hj => by rw [q4_3 _ _ _ _ _ j hj]; rw [show q4 MP1 mb mb (playM f MB SR (min i mR)) 3 = playM f MB SR (min i mR) from rfl, ← PMR.out hR])
          subst hax
          clear hX sc1 sc2 s0 s1 s2 BLw
          generalize hkd : (SR i).kd = kd at *
          generalize hka : (SR i).a = sa at *
          generalize hkb : (SR i).b = sb at *
          clear hkd hka hkb
          have lt' : (i : Int) < (mR : Int) := by omega
          go_upto_region 24 with (fail)
          go_region_held3 (fun w' => w'.cell? ⟨g, 0, none⟩ = some (.slice aC' f.n cC') ∧ w'.cell? ⟨g, 1, none⟩ = some (.slice aR' f.k cR') ∧ w'.cell? ⟨g, 2, none⟩ = some (.int .i64 f.week) ∧ w'.cell? ⟨g, 3, none⟩ = some (.slice aH' f.hol.length cH') ∧ w'.cell? ⟨bX, oX + i * 3, none⟩ = some (.int .i64 kd) ∧ w'.cell? ⟨bX, oX + i * 3 + 1, none⟩ = some (.int .i64 sa) ∧ w'.cell? ⟨bX, oX + i * 3 + 2, none⟩ = some (.int .i64 sb))
            (refine ⟨?_, ?_, ?_, ?_, ?_, ?_, ?_⟩ <;> assumption)
            ((go_at_call 37; refine (ONE.out _ (Below.refl _ _).drew).mono ?_; rintro e z2 ⟨rfl, c2, q2⟩; have m0 := (q2.cell 0 ZG.out).trans f0'; have m1 := (q2.cell 1 ZG.out).trans f1'; have m2 := (q2.cell 2 ZG.out).trans f2'; have m3 := (q2.cell 3 ZG.out).trans f3'; have m4 := (q2.cell (oX + i * 3) zX0.out).trans x0; have m5 := (q2.cell (oX + i * 3 + 1) zX0.out).trans x1; have m6 := (q2.cell (oX + i * 3 + 2) zX0.out).trans x2))
          all_goals (
            have hc3 : Hid (CN Zy (1 + mS + 2 * (i + 1)) 4 (q4 KA KX KY KB) (q4 (playM f MB SP (min (i + 1) mP)) mb mb (playM f MB SR (min (i + 1) mR))) z2) := by rw [E1.out, E2.out]; exact c2.up (by omega)
            have hs3 := hid (hs2.out.trans ⟨q2.os, q2.tape, q2.output, q2.size, q2.block⟩)
            clear c2 q2 m0 m1 m2 m3 m4 m5 m6 hs2 hc2 ONE x0 x1 x2
            go_wp2
            go_roundw
            case rel => exact ⟨i + 1, by omega, by go_num, hc3, hs3⟩
            case measure => simp [intOf]; omega)
        · have nlt : ¬ ((i : Int) < (mR : Int)) := by omega
          have hc3 : Hid (CN Zy (1 + mS + 2 * (i + 1)) 4 (q4 KA KX KY KB) (q4 (playM f MB SP (min (i + 1) mP)) mb mb (playM f MB SR (min (i + 1) mR))) z1) := by rw [E1.out, E2.out, PNR.out hR]; exact hc2.out.up (by omega)
          clear hc2
          go_wp2
          go_roundw
          case rel => exact ⟨i + 1, by omega, by go_num, hc3, hs2⟩
          case measure => simp [intOf]; omega)
    · have nltP : ¬ ((i : Int) < (mP : Int)) := by omega
      by_cases hR : i < mR
      · have BLw := hid (SWr.out.below (Below.refl _ _) (fun j hj => hj))
        obtain ⟨sc1, sc2⟩ := SR0.out.below BLw.out
        obtain ⟨bX, oX, hax, zX, hX⟩ : ∃ b off, aR2 = some ⟨b, off, none⟩ ∧ b < wr.heap.size ∧ ∀ i, i < mR → wr.cell? ⟨b, off + i * 3, none⟩ = some (.int .i64 (SR i).kd) ∧ wr.cell? ⟨b, off + i * 3 + 1, none⟩ = some (.int .i64 (SR i).a) ∧ wr.cell? ⟨b, off + i * 3 + 2, none⟩ = some (.int .i64 (SR i).b) := by
          rcases sc1 with h | h
          · omega
          · exact h
        have zX0 : Hid (Zy bX) := by
          rcases SR0.out.1 with h | ⟨b, off, e, h1, _⟩
          · omega
          · rw [hax] at e
            simp at e
            exact HZ.out _ (by omega)
        obtain ⟨x0, x1, x2⟩ := hX i hR
        obtain ⟨s0, s1, s2⟩ := sc2 i hR
        have ONE : Hid (∀ W, Below wr.heap.size wr W → Calls Tryd.prog 37 #[.pointer (some ⟨pB.bp, 0, none⟩), .agg #[.slice aC' f.n cC', .slice aR' f.k cR', .int .i64 f.week, .slice aH' f.hol.length cH'], .agg #[.int .i64 (SR i).kd, .int .i64 (SR i).a, .int .i64 (SR i).b]] W fun e w' => CNP (.bool true) Zy (1 + mS + 2 * i + 1) 4 (q4 KA KX KY KB) (q4 (playM f MB SP (min i mP)) mb mb MR1) W e w') := fun W hW => cnone_at (hc.out.keep hW) (FA0.out.below (BLw.out.trans (hW.mono BLw.out.size))) (c := 3) (by omega) EB.out.1 EB.out.2 OPR.out (by omega) (SR i) s0 s1 s2 (fun j hj => by rw [q4_3 _ _ _ _ _ j hj]; rw [show q4 (playM f MB SP (min i mP)) mb mb (playM f MB SR (min i mR)) 3 = playM f MB SR (min i mR) from rfl, ← PMR.out hR])
        subst hax
        clear hX sc1 sc2 s0 s1 s2 BLw
        generalize hkd : (SR i).kd = kd at *
        generalize hka : (SR i).a = sa at *
        generalize hkb : (SR i).b = sb at *
        clear hkd hka hkb
        have lt' : (i : Int) < (mR : Int) := by omega
        go_upto_region 24 with (fail)
        go_region_held3 (fun w' => w'.cell? ⟨g, 0, none⟩ = some (.slice aC' f.n cC') ∧ w'.cell? ⟨g, 1, none⟩ = some (.slice aR' f.k cR') ∧ w'.cell? ⟨g, 2, none⟩ = some (.int .i64 f.week) ∧ w'.cell? ⟨g, 3, none⟩ = some (.slice aH' f.hol.length cH') ∧ w'.cell? ⟨bX, oX + i * 3, none⟩ = some (.int .i64 kd) ∧ w'.cell? ⟨bX, oX + i * 3 + 1, none⟩ = some (.int .i64 sa) ∧ w'.cell? ⟨bX, oX + i * 3 + 2, none⟩ = some (.int .i64 sb))
          (refine ⟨?_, ?_, ?_, ?_, ?_, ?_, ?_⟩ <;> assumption)
          ((go_at_call 37; refine (ONE.out _ (Below.refl _ _).drew).mono ?_; rintro e z2 ⟨rfl, c2, q2⟩; have m0 := (q2.cell 0 ZG.out).trans f0'; have m1 := (q2.cell 1 ZG.out).trans f1'; have m2 := (q2.cell 2 ZG.out).trans f2'; have m3 := (q2.cell 3 ZG.out).trans f3'; have m4 := (q2.cell (oX + i * 3) zX0.out).trans x0; have m5 := (q2.cell (oX + i * 3 + 1) zX0.out).trans x1; have m6 := (q2.cell (oX + i * 3 + 2) zX0.out).trans x2))
        all_goals (
          have hc3 : Hid (CN Zy (1 + mS + 2 * (i + 1)) 4 (q4 KA KX KY KB) (q4 (playM f MB SP (min (i + 1) mP)) mb mb (playM f MB SR (min (i + 1) mR))) z2) := by rw [E1.out, E2.out, PNP.out hP]; exact c2.up (by omega)
          have hs3 := hid (hs.out.trans ⟨q2.os, q2.tape, q2.output, q2.size, q2.block⟩)
          clear c2 q2 m0 m1 m2 m3 m4 m5 m6 hs hc ONE x0 x1 x2
          go_wp2
          go_roundw
          case rel => exact ⟨i + 1, by omega, by go_num, hc3, hs3⟩
          case measure => simp [intOf]; omega)
      · have hc : Hid (CN Zy (1 + mS + 2 * i) 4 (q4 KA KX KY KB) (q4 (playM f MB SP mP) mb mb (playM f MB SR mR)) wr) := by
          have h := hc.out
          rw [Nat.min_eq_right (by omega), Nat.min_eq_right (by omega)] at h
          exact h
        have nltR : ¬ ((i : Int) < (mR : Int)) := by omega
        have g0 := f0'
        have g1 := f1'
        have g2 := f2'
        have g3 := f3'
        have Rx := hid (Rx.out.stays hs.out zx.out)
        have Ry := hid (Ry.out.stays hs.out zy.out)
        have SW := hid SWr.out
        have i8 : i ≤ 1048576 := by omega
        obtain ⟨MP, hMP⟩ : ∃ M, playM f MB SP mP = M := ⟨_, rfl⟩
        obtain ⟨MR, hMR⟩ : ∃ M, playM f MB SR mR = M := ⟨_, rfl⟩
        have OM : Hid ((playM f MB SP mP).op = true) := (playM_op _ _ _ _).trans OB.out.2
        have HP1 := hid hMP
        have HR1 := hid hMR
        rw [hMP, hMR] at hc
        clear hMP hMR E1 E2 PMP PNP PMR PNR OPP OPR hs SWr f0' f1' f2' f3' hP hR
        have KC := hid (cnplay_at (M' := q4 MP MB mb MR) (cS := cS) hc.out (SW.out.below (Below.refl _ _) (fun j hj => hj)) HZ.out FA0.out SC0.out (c := 1) (by omega) EX.out.1 EX.out.2 OB.out.1 hm (by omega) (fun j hj => by rw [q4_1]; rw [show q4 MP mb mb MR 1 = mb from rfl, HBB.out]))
        go_wp2_with fail
        refine KC.out.mono ?_
        rintro e y1 ⟨rfl, l, s⟩
        have K1 : Hid (CN Zy (1 + mS + 2 * i + mS) 4 (q4 KA KX KY KB) (q4 MP MB mb MR) y1) := l
        have SW : Hid (StZ (fun j => j < w0.heap.size) w0 y1) := SW.out.trans (s.less HZ.out)
        have Rx := hid (Rx.out.stays s zx.out)
        have Ry := hid (Ry.out.stays s zy.out)
        have g0 := (s.cell 0 ZG.out).trans g0
        have g1 := (s.cell 1 ZG.out).trans g1
        have g2 := (s.cell 2 ZG.out).trans g2
        have g3 := (s.cell 3 ZG.out).trans g3
        clear l s KC hc
        have KC := hid (cnplay_at (M' := q4 MP MP mb MR) (cS := cP) K1.out (SW.out.below (Below.refl _ _) (fun j hj => hj)) HZ.out FA0.out SP0.out (c := 1) (by omega) EX.out.1 EX.out.2 OB.out.2 hmP (by omega) (fun j hj => by rw [q4_1]; rw [show q4 MP MB mb MR 1 = MB from rfl, HP1.out]))
        go_wp2_with fail
        refine KC.out.mono ?_
        rintro e y2 ⟨rfl, l, s⟩
        have K2 : Hid (CN Zy (1 + mS + 2 * i + mS + mP) 4 (q4 KA KX KY KB) (q4 MP MP mb MR) y2) := l
        have SW : Hid (StZ (fun j => j < w0.heap.size) w0 y2) := SW.out.trans (s.less HZ.out)
        have Rx := hid (Rx.out.stays s zx.out)
        have Ry := hid (Ry.out.stays s zy.out)
        have g0 := (s.cell 0 ZG.out).trans g0
        have g1 := (s.cell 1 ZG.out).trans g1
        have g2 := (s.cell 2 ZG.out).trans g2
        have g3 := (s.cell 3 ZG.out).trans g3
        clear l s KC K1
        have KC := hid (cnplay_at (M' := q4 MP MP MB MR) (cS := cS) K2.out (SW.out.below (Below.refl _ _) (fun j hj => hj)) HZ.out FA0.out SC0.out (c := 2) (by omega) EY.out.1 EY.out.2 OB.out.1 hm (by omega) (fun j hj => by rw [q4_2]; rw [show q4 MP MP mb MR 2 = mb from rfl, HBB.out]))
        go_wp2_with fail
        refine KC.out.mono ?_
        rintro e y3 ⟨rfl, l, s⟩
        have K3 : Hid (CN Zy (1 + mS + 2 * i + mS + mP + mS) 4 (q4 KA KX KY KB) (q4 MP MP MB MR) y3) := l
        have SW : Hid (StZ (fun j => j < w0.heap.size) w0 y3) := SW.out.trans (s.less HZ.out)
        have Rx := hid (Rx.out.stays s zx.out)
        have Ry := hid (Ry.out.stays s zy.out)
        have g0 := (s.cell 0 ZG.out).trans g0
        have g1 := (s.cell 1 ZG.out).trans g1
        have g2 := (s.cell 2 ZG.out).trans g2
        have g3 := (s.cell 3 ZG.out).trans g3
        clear l s KC K2
        have KC := hid (cnplay_at (M' := q4 MP MP MR MR) (cS := cR2) K3.out (SW.out.below (Below.refl _ _) (fun j hj => hj)) HZ.out FA0.out SR0.out (c := 2) (by omega) EY.out.1 EY.out.2 OB.out.2 hmR (by omega) (fun j hj => by rw [q4_2]; rw [show q4 MP MP MB MR 2 = MB from rfl, HR1.out]))
        go_wp2_with fail
        refine KC.out.mono ?_
        rintro e y4 ⟨rfl, l, s⟩
        have K4 : Hid (CN Zy (1 + mS + 2 * i + mS + mP + mS + mR) 4 (q4 KA KX KY KB) (q4 MP MP MR MR) y4) := l
        have SW : Hid (StZ (fun j => j < w0.heap.size) w0 y4) := SW.out.trans (s.less HZ.out)
        have Rx := hid (Rx.out.stays s zx.out)
        have Ry := hid (Ry.out.stays s zy.out)
        have g0 := (s.cell 0 ZG.out).trans g0
        have g1 := (s.cell 1 ZG.out).trans g1
        have g2 := (s.cell 2 ZG.out).trans g2
        have g3 := (s.cell 3 ZG.out).trans g3
        clear l s KC K3
        have LENP : Hid (MP.E.length ≤ 1000000000000) := by show _ ≤ _; have h := K4.out.len (i := 0) (by omega) (by omega); have h' : MP.E.length ≤ 999999999000 := h; omega
        have LENR : Hid (MR.E.length ≤ 1000000000000) := by show _ ≤ _; have h := K4.out.len (i := 3) (by omega) (by omega); have h' : MR.E.length ≤ 999999999000 := h; omega
        have hx6 : w6.heap.size ≤ gx := hqx
        have hxy : gx < gy := by omega
        have zyl := K4.out.lt gy zy.out
        have hq0 : w0.heap.size ≤ w6.heap.size := w60
        have hgx : g < gx := by have := zg; omega
        have LK : Hid (Calls Tryd.prog 23 #[.pointer (some ⟨pA.bp, 0, none⟩), (.agg #[.slice aC' f.n cC', .slice aR' f.k cR', .int .i64 f.week, .slice aH' f.hol.length cH'])] y4 fun e w' => LoP f MP y4 e w') := cnlook_at K4.out (by omega) (FA0.out.below (SW.out.below (Below.refl _ _) (fun j hj => hj))) (c := 0) (by omega) EA.out.1 EA.out.2 rfl
        go_wp2_with fail
        refine LK.out.mono ?_
        rintro e awx ⟨vx, rfl, l, b⟩
        have Lx := hid l
        obtain ⟨xV, xS, xL, rfl, r1, r2, r3⟩ := l.ex
        obtain ⟨xa1, xc1, rfl⟩ := own_len r1
        obtain ⟨xa2, xc2, rfl⟩ := own_len r2
        obtain ⟨xa3, xc3, rfl⟩ := own_len r3
        have Rx' := hid (Rx.out.below b)
        obtain ⟨fn, rw_⟩ := Rx.out.below b
        have k0 := rw_.cell (i := 0) (by omega)
        have z0 := rw_.frozen 0
        have k1 := rw_.cell (i := 1) (by omega)
        have z1 := rw_.frozen 1
        have k2 := rw_.cell (i := 2) (by omega)
        have z2 := rw_.frozen 2
        have k3 := rw_.cell (i := 3) (by omega)
        have z3 := rw_.frozen 3
        have k4 := rw_.cell (i := 4) (by omega)
        have z4 := rw_.frozen 4
        have zlt : gx < y4.heap.size := by have := K4.out.lt gx zx.out; omega
        have bs := b.size
        have B9 := hid b
        clear rw_ r1 r2 r3 l b LK
        go_upto_region 32 with (fail)
        obtain ⟨ox, hox⟩ : ∃ W, lok5 awx gx (.int .i64 MP.T) (.slice xa1 f.n xc1) (.slice xa2 f.k xc2) (.slice xa3 MP.E.length xc3) (.bool true) = W := ⟨_, rfl⟩
        have OC := hid (Rx'.out.lok5 (.int .i64 MP.T) (.slice xa1 f.n xc1) (.slice xa2 f.k xc2) (.slice xa3 MP.E.length xc3) (.bool true))
        have OS : Hid (ox.heap.size = awx.heap.size) := by show _ = _; rw [← hox]; exact lok5_size _ _ _ _ _ _ _
        have OO : Hid (∀ j, j ≠ gx → ox.heap[j]? = awx.heap[j]?) := fun j hj => by rw [← hox]; exact lok5_other _ _ _ _ _ _ _ hj
        have OE : Hid (ox.os = awx.os ∧ ox.tape = awx.tape ∧ ox.output = awx.output) := by rw [← hox]; exact ⟨rfl, rfl, rfl⟩
        rw [hox] at OC
        unfold lok5 at hox
        rw [hox]
        clear hox Rx' k0 k1 k2 k3 k4 z0 z1 z2 z3 z4
        have SX : Hid (StZ (fun j => Zy j ∧ j ≠ gx) y4 ox) := ⟨OE.out.1.trans B9.out.os, OE.out.2.1.trans B9.out.tape, OE.out.2.2.trans B9.out.output, by rw [OS.out]; exact bs, fun j hj => (OO.out j hj.2).trans (B9.out.block j (K4.out.lt j hj.1))⟩
        have Kx : Hid (CN Zy (1 + mS + 2 * i + mS + mP + mS + mR) 4 (q4 KA KX KY KB) (q4 MP MP MR MR) ox) := (K4.out.keep B9.out).store zx.out (fun i hi hq => by have := QLT.out i hi _ hq; omega) (by omega) (by rw [OS.out]; exact Nat.le_refl _) (fun j _ hj => OO.out j hj)
        have Lx := hid (Lx.out.off (w' := ox) (fun j hj _ => OO.out j (by omega)))
        obtain ⟨cx0, cx1, cx2, cx3, cx4⟩ := OC.out
        have g0 := (SX.out.cell 0 ⟨ZG.out, by omega⟩).trans g0
        have g1 := (SX.out.cell 1 ⟨ZG.out, by omega⟩).trans g1
        have g2 := (SX.out.cell 2 ⟨ZG.out, by omega⟩).trans g2
        have g3 := (SX.out.cell 3 ⟨ZG.out, by omega⟩).trans g3
        have Ry := hid (Ry.out.stays SX.out ⟨zy.out, by omega⟩)
        have SW : Hid (StZ (fun j => j < w0.heap.size) w0 ox) := SW.out.trans (SX.out.less (fun j hj => ⟨HZ.out j hj, by have := hq0; omega⟩))
        have hgy : g < gy := by omega
        have xl := ox.heap.size
        have Lxh := hid Lx.out
        have LK : Hid (Calls Tryd.prog 23 #[.pointer (some ⟨pB.bp, 0, none⟩), (.agg #[.slice aC' f.n cC', .slice aR' f.k cR', .int .i64 f.week, .slice aH' f.hol.length cH'])] ox fun e w' => LoP f MR ox e w') := cnlook_at Kx.out (by omega) (FA0.out.below (SW.out.below (Below.refl _ _) (fun j hj => hj))) (c := 3) (by omega) EB.out.1 EB.out.2 rfl
        go_wp2_with fail
        refine LK.out.mono ?_
        rintro e awy ⟨vy, rfl, l, b⟩
        have Ly := hid l
        obtain ⟨yV, yS, yL, rfl, r1, r2, r3⟩ := l.ex
        obtain ⟨ya1, yc1, rfl⟩ := own_len r1
        obtain ⟨ya2, yc2, rfl⟩ := own_len r2
        obtain ⟨ya3, yc3, rfl⟩ := own_len r3
        have Rx' := hid (Ry.out.below b)
        obtain ⟨fn, rw_⟩ := Ry.out.below b
        have k0 := rw_.cell (i := 0) (by omega)
        have z0 := rw_.frozen 0
        have k1 := rw_.cell (i := 1) (by omega)
        have z1 := rw_.frozen 1
        have k2 := rw_.cell (i := 2) (by omega)
        have z2 := rw_.frozen 2
        have k3 := rw_.cell (i := 3) (by omega)
        have z3 := rw_.frozen 3
        have k4 := rw_.cell (i := 4) (by omega)
        have z4 := rw_.frozen 4
        have zlt : gy < ox.heap.size := by have := Kx.out.lt gy zy.out; omega
        have bs := b.size
        have B9 := hid b
        clear rw_ r1 r2 r3 l b LK
        go_upto_region 33 with (fail)
        obtain ⟨oy, hoy⟩ : ∃ W, lok5 awy gy (.int .i64 MR.T) (.slice ya1 f.n yc1) (.slice ya2 f.k yc2) (.slice ya3 MR.E.length yc3) (.bool true) = W := ⟨_, rfl⟩
        have OC := hid (Rx'.out.lok5 (.int .i64 MR.T) (.slice ya1 f.n yc1) (.slice ya2 f.k yc2) (.slice ya3 MR.E.length yc3) (.bool true))
        have OS : Hid (oy.heap.size = awy.heap.size) := by show _ = _; rw [← hoy]; exact lok5_size _ _ _ _ _ _ _
        have OO : Hid (∀ j, j ≠ gy → oy.heap[j]? = awy.heap[j]?) := fun j hj => by rw [← hoy]; exact lok5_other _ _ _ _ _ _ _ hj
        have OE : Hid (oy.os = awy.os ∧ oy.tape = awy.tape ∧ oy.output = awy.output) := by rw [← hoy]; exact ⟨rfl, rfl, rfl⟩
        rw [hoy] at OC
        unfold lok5 at hoy
        rw [hoy]
        clear hoy Rx' k0 k1 k2 k3 k4 z0 z1 z2 z3 z4
        have SX : Hid (StZ (fun j => Zy j ∧ j ≠ gy) ox oy) := ⟨OE.out.1.trans B9.out.os, OE.out.2.1.trans B9.out.tape, OE.out.2.2.trans B9.out.output, by rw [OS.out]; exact bs, fun j hj => (OO.out j hj.2).trans (B9.out.block j (Kx.out.lt j hj.1))⟩
        have Ky : Hid (CN Zy (1 + mS + 2 * i + mS + mP + mS + mR) 4 (q4 KA KX KY KB) (q4 MP MP MR MR) oy) := (Kx.out.keep B9.out).store zy.out (fun i hi hq => by have := QLT.out i hi _ hq; omega) (by omega) (by rw [OS.out]; exact Nat.le_refl _) (fun j _ hj => OO.out j hj)
        have Ly := hid (Ly.out.off (w' := oy) (fun j hj _ => OO.out j (by omega)))
        obtain ⟨cy0, cy1, cy2, cy3, cy4⟩ := OC.out
        have g0 := (SX.out.cell 0 ⟨ZG.out, by omega⟩).trans g0
        have g1 := (SX.out.cell 1 ⟨ZG.out, by omega⟩).trans g1
        have g2 := (SX.out.cell 2 ⟨ZG.out, by omega⟩).trans g2
        have g3 := (SX.out.cell 3 ⟨ZG.out, by omega⟩).trans g3
        have SW : Hid (StZ (fun j => j < w0.heap.size) w0 oy) := SW.out.trans (SX.out.less (fun j hj => ⟨HZ.out j hj, by have := hq0; omega⟩))
        have Lx := hid ((Lxh.out.below (B2 := 0) B9.out).off (w' := oy) (fun j hj _ => OO.out j (by omega)))
        have cx0 := (SX.out.cell 0 ⟨zx.out, by omega⟩).trans cx0
        have cx1 := (SX.out.cell 1 ⟨zx.out, by omega⟩).trans cx1
        have cx2 := (SX.out.cell 2 ⟨zx.out, by omega⟩).trans cx2
        have cx3 := (SX.out.cell 3 ⟨zx.out, by omega⟩).trans cx3
        have cx4 := (SX.out.cell 4 ⟨zx.out, by omega⟩).trans cx4
        have QX : Hid (Below oy.heap.size oy oy) := Below.refl _ _
        have zgy := Ky.out.lt g ZG.out
        have zxy := Ky.out.lt gx zx.out
        have zyy := Ky.out.lt gy zy.out
        have CF := hid Ky.out
        clear SX OO OS OE OC B9 Lxh
        have LK : Hid (Calls Tryd.prog 23 #[.pointer (some ⟨pX.bp, 0, none⟩), (.agg #[.slice aC' f.n cC', .slice aR' f.k cR', .int .i64 f.week, .slice aH' f.hol.length cH'])] oy fun e w' => LoP f MP oy e w') := cnlook_at (CF.out.keep QX.out) (by omega) (FA0.out.below ((SW.out.below (Below.refl _ _) (fun j hj => hj)).trans (QX.out.mono SW.out.size))) (c := 1) (by omega) EX.out.1 EX.out.2 rfl
        go_wp2_with fail
        refine LK.out.mono ?_
        rintro e ap ⟨vp, rfl, l, b⟩
        have Lp := hid l
        obtain ⟨pV, pS, pL, rfl, r1, r2, r3⟩ := l.ex
        obtain ⟨pa1, pc1, rfl⟩ := own_len r1
        obtain ⟨pa2, pc2, rfl⟩ := own_len r2
        obtain ⟨pa3, pc3, rfl⟩ := own_len r3
        have BB : Hid (Below ap.heap.size ap (ap.alloc (.cells #[.int .i64 MP.T, .slice pa1 f.n pc1, .slice pa2 f.k pc2, .slice pa3 MP.E.length pc3, .bool true] 46))) := boxed_below (Below.refl (ap.heap.size + 1) (ap.alloc (.cells #[.int .i64 MP.T, .slice pa1 f.n pc1, .slice pa2 f.k pc2, .slice pa3 MP.E.length pc3, .bool true] 46)))
        have NW : Hid (Below oy.heap.size oy (ap.alloc (.cells #[.int .i64 MP.T, .slice pa1 f.n pc1, .slice pa2 f.k pc2, .slice pa3 MP.E.length pc3, .bool true] 46))) := b.trans (BB.out.mono b.size)
        have Lp := hid (Lp.out.below (B2 := 0) BB.out)
        have Lx := hid (Lx.out.below (B2 := 0) NW.out)
        have cx0 := (NW.out.cell (p := ⟨gx, 0, none⟩) (by show gx < _; have := QX.out.size; omega)).trans cx0
        have cx1 := (NW.out.cell (p := ⟨gx, 1, none⟩) (by show gx < _; have := QX.out.size; omega)).trans cx1
        have cx2 := (NW.out.cell (p := ⟨gx, 2, none⟩) (by show gx < _; have := QX.out.size; omega)).trans cx2
        have cx3 := (NW.out.cell (p := ⟨gx, 3, none⟩) (by show gx < _; have := QX.out.size; omega)).trans cx3
        have cx4 := (NW.out.cell (p := ⟨gx, 4, none⟩) (by show gx < _; have := QX.out.size; omega)).trans cx4
        have Ly := hid (Ly.out.below (B2 := 0) NW.out)
        have cy0 := (NW.out.cell (p := ⟨gy, 0, none⟩) (by show gy < _; have := QX.out.size; omega)).trans cy0
        have cy1 := (NW.out.cell (p := ⟨gy, 1, none⟩) (by show gy < _; have := QX.out.size; omega)).trans cy1
        have cy2 := (NW.out.cell (p := ⟨gy, 2, none⟩) (by show gy < _; have := QX.out.size; omega)).trans cy2
        have cy3 := (NW.out.cell (p := ⟨gy, 3, none⟩) (by show gy < _; have := QX.out.size; omega)).trans cy3
        have cy4 := (NW.out.cell (p := ⟨gy, 4, none⟩) (by show gy < _; have := QX.out.size; omega)).trans cy4
        have g0 := (NW.out.cell (p := ⟨g, 0, none⟩) (by show g < _; have := QX.out.size; omega)).trans g0
        have g1 := (NW.out.cell (p := ⟨g, 1, none⟩) (by show g < _; have := QX.out.size; omega)).trans g1
        have g2 := (NW.out.cell (p := ⟨g, 2, none⟩) (by show g < _; have := QX.out.size; omega)).trans g2
        have g3 := (NW.out.cell (p := ⟨g, 3, none⟩) (by show g < _; have := QX.out.size; omega)).trans g3
        have cp0 : (ap.alloc (.cells #[.int .i64 MP.T, .slice pa1 f.n pc1, .slice pa2 f.k pc2, .slice pa3 MP.E.length pc3, .bool true] 46)).cell? ⟨ap.heap.size, 0, none⟩ = some (.int .i64 MP.T) := boxed (Below.refl (ap.heap.size + 1) (ap.alloc (.cells #[.int .i64 MP.T, .slice pa1 f.n pc1, .slice pa2 f.k pc2, .slice pa3 MP.E.length pc3, .bool true] 46))) 0
        have cp1 : (ap.alloc (.cells #[.int .i64 MP.T, .slice pa1 f.n pc1, .slice pa2 f.k pc2, .slice pa3 MP.E.length pc3, .bool true] 46)).cell? ⟨ap.heap.size, 1, none⟩ = some (.slice pa1 f.n pc1) := boxed (Below.refl (ap.heap.size + 1) (ap.alloc (.cells #[.int .i64 MP.T, .slice pa1 f.n pc1, .slice pa2 f.k pc2, .slice pa3 MP.E.length pc3, .bool true] 46))) 1
        have cp2 : (ap.alloc (.cells #[.int .i64 MP.T, .slice pa1 f.n pc1, .slice pa2 f.k pc2, .slice pa3 MP.E.length pc3, .bool true] 46)).cell? ⟨ap.heap.size, 2, none⟩ = some (.slice pa2 f.k pc2) := boxed (Below.refl (ap.heap.size + 1) (ap.alloc (.cells #[.int .i64 MP.T, .slice pa1 f.n pc1, .slice pa2 f.k pc2, .slice pa3 MP.E.length pc3, .bool true] 46))) 2
        have cp3 : (ap.alloc (.cells #[.int .i64 MP.T, .slice pa1 f.n pc1, .slice pa2 f.k pc2, .slice pa3 MP.E.length pc3, .bool true] 46)).cell? ⟨ap.heap.size, 3, none⟩ = some (.slice pa3 MP.E.length pc3) := boxed (Below.refl (ap.heap.size + 1) (ap.alloc (.cells #[.int .i64 MP.T, .slice pa1 f.n pc1, .slice pa2 f.k pc2, .slice pa3 MP.E.length pc3, .bool true] 46))) 3
        have cp4 : (ap.alloc (.cells #[.int .i64 MP.T, .slice pa1 f.n pc1, .slice pa2 f.k pc2, .slice pa3 MP.E.length pc3, .bool true] 46)).cell? ⟨ap.heap.size, 4, none⟩ = some (.bool true) := boxed (Below.refl (ap.heap.size + 1) (ap.alloc (.cells #[.int .i64 MP.T, .slice pa1 f.n pc1, .slice pa2 f.k pc2, .slice pa3 MP.E.length pc3, .bool true] 46))) 4
        have zpy : oy.heap.size ≤ ap.heap.size := by have := QX.out.size; have := b.size; omega
        have QX := hid (QX.out.trans (NW.out.mono QX.out.size))
        have zpz : ap.heap.size < (ap.alloc (.cells #[.int .i64 MP.T, .slice pa1 f.n pc1, .slice pa2 f.k pc2, .slice pa3 MP.E.length pc3, .bool true] 46)).heap.size := by simp
        have NWs := NW.out.size
        clear r1 r2 r3 l b BB NW LK
        go_upto_region 34 with (fail)
        generalize (ap.alloc (.cells #[.int .i64 MP.T, .slice pa1 f.n pc1, .slice pa2 f.k pc2, .slice pa3 MP.E.length pc3, .bool true] 46)) = up at *
        generalize ap.heap.size = gp at *
        have LK : Hid (Calls Tryd.prog 23 #[.pointer (some ⟨pY.bp, 0, none⟩), (.agg #[.slice aC' f.n cC', .slice aR' f.k cR', .int .i64 f.week, .slice aH' f.hol.length cH'])] up fun e w' => LoP f MR up e w') := cnlook_at (CF.out.keep QX.out) (by omega) (FA0.out.below ((SW.out.below (Below.refl _ _) (fun j hj => hj)).trans (QX.out.mono SW.out.size))) (c := 2) (by omega) EY.out.1 EY.out.2 rfl
        go_wp2_with fail
        refine LK.out.mono ?_
        rintro e aq ⟨vq, rfl, l, b⟩
        have Lq := hid l
        obtain ⟨qV, qS, qL, rfl, r1, r2, r3⟩ := l.ex
        obtain ⟨qa1, qc1, rfl⟩ := own_len r1
        obtain ⟨qa2, qc2, rfl⟩ := own_len r2
        obtain ⟨qa3, qc3, rfl⟩ := own_len r3
        have BB : Hid (Below aq.heap.size aq (aq.alloc (.cells #[.int .i64 MR.T, .slice qa1 f.n qc1, .slice qa2 f.k qc2, .slice qa3 MR.E.length qc3, .bool true] 46))) := boxed_below (Below.refl (aq.heap.size + 1) (aq.alloc (.cells #[.int .i64 MR.T, .slice qa1 f.n qc1, .slice qa2 f.k qc2, .slice qa3 MR.E.length qc3, .bool true] 46)))
        have NW : Hid (Below up.heap.size up (aq.alloc (.cells #[.int .i64 MR.T, .slice qa1 f.n qc1, .slice qa2 f.k qc2, .slice qa3 MR.E.length qc3, .bool true] 46))) := b.trans (BB.out.mono b.size)
        have Lq := hid (Lq.out.below (B2 := 0) BB.out)
        have Lx := hid (Lx.out.below (B2 := 0) NW.out)
        have cx0 := (NW.out.cell (p := ⟨gx, 0, none⟩) (by show gx < _; have := QX.out.size; omega)).trans cx0
        have cx1 := (NW.out.cell (p := ⟨gx, 1, none⟩) (by show gx < _; have := QX.out.size; omega)).trans cx1
        have cx2 := (NW.out.cell (p := ⟨gx, 2, none⟩) (by show gx < _; have := QX.out.size; omega)).trans cx2
        have cx3 := (NW.out.cell (p := ⟨gx, 3, none⟩) (by show gx < _; have := QX.out.size; omega)).trans cx3
        have cx4 := (NW.out.cell (p := ⟨gx, 4, none⟩) (by show gx < _; have := QX.out.size; omega)).trans cx4
        have Ly := hid (Ly.out.below (B2 := 0) NW.out)
        have cy0 := (NW.out.cell (p := ⟨gy, 0, none⟩) (by show gy < _; have := QX.out.size; omega)).trans cy0
        have cy1 := (NW.out.cell (p := ⟨gy, 1, none⟩) (by show gy < _; have := QX.out.size; omega)).trans cy1
        have cy2 := (NW.out.cell (p := ⟨gy, 2, none⟩) (by show gy < _; have := QX.out.size; omega)).trans cy2
        have cy3 := (NW.out.cell (p := ⟨gy, 3, none⟩) (by show gy < _; have := QX.out.size; omega)).trans cy3
        have cy4 := (NW.out.cell (p := ⟨gy, 4, none⟩) (by show gy < _; have := QX.out.size; omega)).trans cy4
        have Lp := hid (Lp.out.below (B2 := 0) NW.out)
        have cp0 := (NW.out.cell (p := ⟨gp, 0, none⟩) (by show gp < _; have := QX.out.size; omega)).trans cp0
        have cp1 := (NW.out.cell (p := ⟨gp, 1, none⟩) (by show gp < _; have := QX.out.size; omega)).trans cp1
        have cp2 := (NW.out.cell (p := ⟨gp, 2, none⟩) (by show gp < _; have := QX.out.size; omega)).trans cp2
        have cp3 := (NW.out.cell (p := ⟨gp, 3, none⟩) (by show gp < _; have := QX.out.size; omega)).trans cp3
        have cp4 := (NW.out.cell (p := ⟨gp, 4, none⟩) (by show gp < _; have := QX.out.size; omega)).trans cp4
        have g0 := (NW.out.cell (p := ⟨g, 0, none⟩) (by show g < _; have := QX.out.size; omega)).trans g0
        have g1 := (NW.out.cell (p := ⟨g, 1, none⟩) (by show g < _; have := QX.out.size; omega)).trans g1
        have g2 := (NW.out.cell (p := ⟨g, 2, none⟩) (by show g < _; have := QX.out.size; omega)).trans g2
        have g3 := (NW.out.cell (p := ⟨g, 3, none⟩) (by show g < _; have := QX.out.size; omega)).trans g3
        have cq0 : (aq.alloc (.cells #[.int .i64 MR.T, .slice qa1 f.n qc1, .slice qa2 f.k qc2, .slice qa3 MR.E.length qc3, .bool true] 46)).cell? ⟨aq.heap.size, 0, none⟩ = some (.int .i64 MR.T) := boxed (Below.refl (aq.heap.size + 1) (aq.alloc (.cells #[.int .i64 MR.T, .slice qa1 f.n qc1, .slice qa2 f.k qc2, .slice qa3 MR.E.length qc3, .bool true] 46))) 0
        have cq1 : (aq.alloc (.cells #[.int .i64 MR.T, .slice qa1 f.n qc1, .slice qa2 f.k qc2, .slice qa3 MR.E.length qc3, .bool true] 46)).cell? ⟨aq.heap.size, 1, none⟩ = some (.slice qa1 f.n qc1) := boxed (Below.refl (aq.heap.size + 1) (aq.alloc (.cells #[.int .i64 MR.T, .slice qa1 f.n qc1, .slice qa2 f.k qc2, .slice qa3 MR.E.length qc3, .bool true] 46))) 1
        have cq2 : (aq.alloc (.cells #[.int .i64 MR.T, .slice qa1 f.n qc1, .slice qa2 f.k qc2, .slice qa3 MR.E.length qc3, .bool true] 46)).cell? ⟨aq.heap.size, 2, none⟩ = some (.slice qa2 f.k qc2) := boxed (Below.refl (aq.heap.size + 1) (aq.alloc (.cells #[.int .i64 MR.T, .slice qa1 f.n qc1, .slice qa2 f.k qc2, .slice qa3 MR.E.length qc3, .bool true] 46))) 2
        have cq3 : (aq.alloc (.cells #[.int .i64 MR.T, .slice qa1 f.n qc1, .slice qa2 f.k qc2, .slice qa3 MR.E.length qc3, .bool true] 46)).cell? ⟨aq.heap.size, 3, none⟩ = some (.slice qa3 MR.E.length qc3) := boxed (Below.refl (aq.heap.size + 1) (aq.alloc (.cells #[.int .i64 MR.T, .slice qa1 f.n qc1, .slice qa2 f.k qc2, .slice qa3 MR.E.length qc3, .bool true] 46))) 3
        have cq4 : (aq.alloc (.cells #[.int .i64 MR.T, .slice qa1 f.n qc1, .slice qa2 f.k qc2, .slice qa3 MR.E.length qc3, .bool true] 46)).cell? ⟨aq.heap.size, 4, none⟩ = some (.bool true) := boxed (Below.refl (aq.heap.size + 1) (aq.alloc (.cells #[.int .i64 MR.T, .slice qa1 f.n qc1, .slice qa2 f.k qc2, .slice qa3 MR.E.length qc3, .bool true] 46))) 4
        have zqy : oy.heap.size ≤ aq.heap.size := by have := QX.out.size; have := b.size; omega
        have QX := hid (QX.out.trans (NW.out.mono QX.out.size))
        have zqz : aq.heap.size < (aq.alloc (.cells #[.int .i64 MR.T, .slice qa1 f.n qc1, .slice qa2 f.k qc2, .slice qa3 MR.E.length qc3, .bool true] 46)).heap.size := by simp
        have NWs := NW.out.size
        clear r1 r2 r3 l b BB NW LK
        go_upto_region 35 with (fail)
        generalize (aq.alloc (.cells #[.int .i64 MR.T, .slice qa1 f.n qc1, .slice qa2 f.k qc2, .slice qa3 MR.E.length qc3, .bool true] 46)) = uq at *
        generalize aq.heap.size = gq at *
        have hpq : gp < uq.heap.size := by have := NWs; omega
        have AX := hid (fun W (hW : Below uq.heap.size uq W) => kalike_any (Lx.out.below (B2 := 0) hW) (Lp.out.below (B2 := 0) hW) rfl rfl rfl (fun _ _ => rfl) (fun _ _ => rfl) rfl n20 k6 LENP.out)
        have AY := hid (fun W (hW : Below uq.heap.size uq W) => kalike_any (Ly.out.below (B2 := 0) hW) (Lq.out.below (B2 := 0) hW) rfl rfl rfl (fun _ _ => rfl) (fun _ _ => rfl) rfl n20 k6 LENR.out)
        go_wp2_with fail
        refine (AX.out _ (Below.refl _ _)).mono ?_
        rintro e v1 ⟨rfl, hb1⟩
        have V1 := hid hb1
        have cy0 := (hb1.cell (p := ⟨gy, 0, none⟩) (by show gy < _; have := QX.out.size; omega)).trans cy0
        have cq0 := (hb1.cell (p := ⟨gq, 0, none⟩) zqz).trans cq0
        have cy1 := (hb1.cell (p := ⟨gy, 1, none⟩) (by show gy < _; have := QX.out.size; omega)).trans cy1
        have cq1 := (hb1.cell (p := ⟨gq, 1, none⟩) zqz).trans cq1
        have cy2 := (hb1.cell (p := ⟨gy, 2, none⟩) (by show gy < _; have := QX.out.size; omega)).trans cy2
        have cq2 := (hb1.cell (p := ⟨gq, 2, none⟩) zqz).trans cq2
        have cy3 := (hb1.cell (p := ⟨gy, 3, none⟩) (by show gy < _; have := QX.out.size; omega)).trans cy3
        have cq3 := (hb1.cell (p := ⟨gq, 3, none⟩) zqz).trans cq3
        have cy4 := (hb1.cell (p := ⟨gy, 4, none⟩) (by show gy < _; have := QX.out.size; omega)).trans cy4
        have cq4 := (hb1.cell (p := ⟨gq, 4, none⟩) zqz).trans cq4
        clear hb1 AX
        go_wp2_with fail
        refine (AY.out _ V1.out).mono ?_
        rintro e v2 ⟨rfl, hb2⟩
        have R : Hid (TPost w (.returned (.bool true)) v2) := ⟨rfl, B0.out.trans (((SW.out.below (Below.refl _ _) (fun j hj => hj)).trans ((QX.out.trans ((V1.out.trans (hb2.mono V1.out.size)).mono QX.out.size)).mono SW.out.size)).mono B0.out.size)⟩
        clear hb2 AY
        go_wp2
        go_ret
        exact R.out

end Go.Proofs.YtmofidaojmiepaaDoor
