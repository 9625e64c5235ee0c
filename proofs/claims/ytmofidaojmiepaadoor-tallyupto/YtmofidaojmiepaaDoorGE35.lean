/-
  MEMORY: docketkeep's book: a case, and what its owner expects of it.
-/
import Derived.Test.YtmofidaojmiepaaDoorGE18
import Derived.Deep.RegionLaw
import Derived.BigQuiet
set_option linter.unusedVariables false
set_option linter.unusedSimpArgs false
namespace Go.Proofs.YtmofidaojmiepaaDoor
open Go.RowKit
attribute [local go_sem ↓] Go.wp_at_zero Go.wp_at_succ

/-- Blocks that are nobody's, and that no case stands on, turn. -/
theorem CN.turn {Z : Nat → Prop} {b np : Nat} {K : Nat → KS} {M : Nat → Cs} {w w' : World} (h : CN Z b np K M w) {X : Nat → Prop} (hX : ∀ j, X j → Z j ∧ j ≠ 0 ∧ ∀ i, i < np → ¬ (K i).Q j) (hs : w.heap.size ≤ w'.heap.size) (hb : ∀ j, j < w.heap.size → ¬ X j → w'.heap[j]? = w.heap[j]?) : CN (zup Z w w') b np K M w' := by
  obtain ⟨V, tag, h1, h2⟩ := h
  refine ⟨V, ntag tag w.heap.size 0, ⟨fun i hi => ?_, fun i hi j hj => ?_, fun i hi j hj => ?_, h1.kok, h1.fok, ⟨by have := h1.tab.1; omega, fun q hq' => ?_⟩, ?_⟩, fun j hj => ?_⟩
  · refine KSt.move (h1.kst i hi) hs (fun j hj => ?_)
    rcases hj with hj | hj
    · exact hb j (KSt.qlt (h1.kst i hi) j hj) (fun e => (hX j e).2.2 i hi hj)
    · refine hb j (KSt.own_lt (h1.kst i hi) j hj) (fun e => ?_)
      have t1 := h1.kown i hi j hj
      rw [(h2 j (hX j e).1).2] at t1
      omega
  · rw [ntag_old (KSt.own_lt (h1.kst i hi) j hj)]; exact h1.kown i hi j hj
  · rw [ntag_old (KSt.qlt (h1.kst i hi) j hj)]; exact h1.kq i hi j hj
  · have := h1.tab.2 q hq'
    have e : w'.heap[0]? = w.heap[0]? := hb 0 h1.tab.1 (fun e => (hX 0 e).2.1 rfl)
    unfold World.cell? at this ⊢
    rw [e]
    exact this
  · rw [ntag_old h1.tab.1]; exact h1.t0
  · rcases hj with hj | ⟨h3, h4⟩
    · obtain ⟨a, c⟩ := h2 j hj
      exact ⟨by omega, by rw [ntag_old a]; exact c⟩
    · exact ⟨h4, ntag_new h3⟩
theorem C1.turn {Z : Nat → Prop} {b : Nat} {f : Frm} {Q : Nat → Prop} {p : KPl} {m : Cs} {w w' : World} (h : C1 Z b f Q p m w) {X : Nat → Prop} (hX : ∀ j, X j → Z j ∧ j ≠ 0 ∧ ¬ Q j) (hs : w.heap.size ≤ w'.heap.size) (hb : ∀ j, j < w.heap.size → ¬ X j → w'.heap[j]? = w.heap[j]?) : C1 (zup Z w w') b f Q p m w' := by
  obtain ⟨v, h⟩ := h
  have h1 : CN Z b 1 (fun _ => ⟨Q, p, f⟩) (fun _ => m) w := ⟨fun _ => v, h⟩
  obtain ⟨V, h2⟩ := h1.turn (X := X) (fun j hj => ⟨(hX j hj).1, (hX j hj).2.1, fun _ _ => (hX j hj).2.2⟩) hs hb
  exact ⟨V 0, h2.congr (fun i hi => by
    have e : i = 0 := by omega
    subst e
    rfl)⟩

/-- A book's places. -/
structure BPl where
  bb : Nat
  gS : Nat
  cS : Nat
  aC : Option Addr
  cC : Nat
  aR : Option Addr
  cR : Nat
  aH : Option Addr
  cH : Nat

def bkf (f : Frm) (q : BPl) (p : KPl) (T : Int) (op : Bool) (vE : Value) (j : Nat) : Value :=
  if j = 0 then .pointer (some ⟨p.bp, 0, none⟩) else if j = 1 then .slice q.aC f.n q.cC else if j = 2 then .slice q.aR f.k q.cR else if j = 3 then .int .i64 f.week else if j = 4 then .slice q.aH f.hol.length q.cH else if j = 5 then .int .i64 T else if j = 6 then .bool op else if j = 7 then .slice (some ⟨q.gS, 0, none⟩) f.k q.cS else vE

structure BkSt (f : Frm) (q : BPl) (p : KPl) (T : Int) (op : Bool) (S : Nat → St) (vE : Value) (E : List Ev) (w : World) : Prop where
  row : w.rowIs q.bb 51 9 (bkf f q p T op vE)
  sta : FRow w q.gS 80 (f.k * 4) (stf S)
  ev : w.ownsRow 0 101 3 vE E.length (evs E)
  n1 : q.gS ≠ q.bb
  n2 : vE.ownBlock ≠ some q.bb
  n3 : vE.ownBlock ≠ some q.gS

def BOwn (q : BPl) (vE : Value) (j : Nat) : Prop := j = q.bb ∨ j = q.gS ∨ vE.ownBlock = some j

theorem BkSt.move {f : Frm} {q : BPl} {p : KPl} {T : Int} {op : Bool} {S : Nat → St} {vE : Value} {E : List Ev} {w w' : World} (h : BkSt f q p T op S vE E w) (hb : ∀ j, BOwn q vE j → w'.heap[j]? = w.heap[j]?) : BkSt f q p T op S vE E w' :=
  ⟨h.row.of_block (hb _ (Or.inl rfl)), h.sta.of_block (hb _ (Or.inr (Or.inl rfl))), own_of_block h.ev (fun g hg _ => hb g (Or.inr (Or.inr hg))), h.n1, h.n2, h.n3⟩
theorem BkSt.congrS {f : Frm} {q : BPl} {p : KPl} {T : Int} {op : Bool} {S S' : Nat → St} {vE : Value} {E : List Ev} {w : World} (h : BkSt f q p T op S vE E w) (hs : ∀ i, i < f.k → S i = S' i) : BkSt f q p T op S' vE E w :=
  ⟨h.row, h.sta.congr (fun j hj => stf_congr hs j hj), h.ev, h.n1, h.n2, h.n3⟩

/-- A case, and its book. -/
def CB (w0 : World) (QB b : Nat) (f : Frm) (Q : Nat → Prop) (p : KPl) (m : Cs) (q : BPl) (T : Int) (op : Bool) (S : Nat → St) (E : List Ev) (w : World) : Prop :=
  ∃ Z vE, C1 Z b f Q p m w ∧ BkSt f q p T op S vE E w ∧ (∀ j, BOwn q vE j → Z j ∧ QB ≤ j) ∧ (∀ j, j < w0.heap.size → Z j) ∧ StZ (fun j => j < w0.heap.size) w0 w ∧ (∀ j, Q j → j < QB) ∧ w0.heap.size ≤ QB ∧ 0 < QB

section
variable {w0 : World} {QB b : Nat} {f : Frm} {Q : Nat → Prop} {p : KPl} {m : Cs} {q : BPl} {T : Int} {op : Bool} {S : Nat → St} {E : List Ev} {w w' : World}

theorem CB.keep (h : CB w0 QB b f Q p m q T op S E w) (hb : Below w.heap.size w w') : CB w0 QB b f Q p m q T op S E w' := by
  obtain ⟨Z, vE, h1, h2, h3, h4, h5, h6⟩ := h
  exact ⟨Z, vE, h1.keep hb, h2.move (fun j hj => hb.block j (h1.lt j (h3 j hj).1)), h3, h4, h5.trans ((StZ.of hb h1.lt).less h4), h6⟩
theorem CB.up (h : CB w0 QB b f Q p m q T op S E w) {b2 : Nat} (hb : b ≤ b2) : CB w0 QB b2 f Q p m q T op S E w := by
  obtain ⟨Z, vE, h1, h2⟩ := h
  exact ⟨Z, vE, h1.up hb, h2⟩
theorem CB.congrS (h : CB w0 QB b f Q p m q T op S E w) {S' : Nat → St} (hs : ∀ i, i < f.k → S i = S' i) : CB w0 QB b f Q p m q T op S' E w := by
  obtain ⟨Z, vE, h1, h2, h3⟩ := h
  exact ⟨Z, vE, h1, h2.congrS hs, h3⟩
theorem CB.fok (h : CB w0 QB b f Q p m q T op S E w) : f.Ok := by obtain ⟨Z, vE, h1, _⟩ := h; exact h1.fok
theorem CB.mok (h : CB w0 QB b f Q p m q T op S E w) : m.Ok f := by obtain ⟨Z, vE, h1, _⟩ := h; exact h1.mok
theorem CB.len (h : CB w0 QB b f Q p m q T op S E w) (hb : b ≤ 10000000000) : m.E.length ≤ 999999999000 := by obtain ⟨Z, vE, h1, _⟩ := h; exact h1.len hb
theorem CB.below (h : CB w0 QB b f Q p m q T op S E w) : Below w0.heap.size w0 w := by obtain ⟨Z, vE, _, _, _, _, h5, _⟩ := h; exact h5.below (Below.refl _ _) (fun j hj => hj)

/-- A call on the case. -/
theorem CB.on (h : CB w0 QB b f Q p m q T op S E w) {F : FuncId} {args : Array Value} {r : Value} {b' : Nat} {m' : Cs} (hc : ∀ Z, C1 Z b f Q p m w → Calls Tryd.prog F args w fun e w' => C1P r Z b' f Q p m' w e w') :
    Calls Tryd.prog F args w fun e w' => e = .returned r ∧ CB w0 QB b' f Q p m' q T op S E w' := by
  obtain ⟨Z, vE, h1, h2, h3, h4, h5, h6⟩ := h
  exact (hc Z h1).mono (fun e w' g => ⟨g.1, Z, vE, g.2.1, h2.move (fun j hj => g.2.2.block j (h3 j hj).1), h3, h4, h5.trans (g.2.2.less h4), h6⟩)
/-- One that only asks. -/
theorem CB.ask (h : CB w0 QB b f Q p m q T op S E w) {F : FuncId} {args : Array Value} {P : Ending → World → Prop} (hc : ∀ Z, C1 Z b f Q p m w → Calls Tryd.prog F args w P) : Calls Tryd.prog F args w P := by
  obtain ⟨Z, vE, h1, _⟩ := h
  exact hc Z h1

/-- A store into the book, or into its states. -/
theorem CB.put (h : CB w0 QB b f Q p m q T op S E w) {g x : Nat} {v : Value} {T' : Int} {op' : Bool} {S' : Nat → St} (hg : g = q.bb ∨ g = q.gS) (hb : ∀ vE, BkSt f q p T op S vE E w → BkSt f q p T' op' S' vE E (w.setCell ⟨g, x, none⟩ v)) : CB w0 QB b f Q p m q T' op' S' E (w.setCell ⟨g, x, none⟩ v) := by
  obtain ⟨Z, vE, h1, h2, h3, h4, h5, h6, h7, h8⟩ := h
  have hz : Z g ∧ QB ≤ g := by
    rcases hg with rfl | rfl
    · exact h3 _ (Or.inl rfl)
    · exact h3 _ (Or.inr (Or.inl rfl))
  refine ⟨Z, vE, h1.store hz.1 (fun hq => by have := h6 _ hq; omega) (by omega) (by simp [World.setCell]) (fun j _ hj => Go.Deep.blk_setCell_other _ _ _ _ hj), hb vE h2, h3, h4, h5.trans ⟨rfl, rfl, rfl, by simp [World.setCell], fun j hj => Go.Deep.blk_setCell_other _ _ _ _ (by show j ≠ g; omega)⟩, h6, h7, h8⟩
theorem CB.now (h : CB w0 QB b f Q p m q T op S E w) (t : Int) : CB w0 QB b f Q p m q t op S E (w.setCell ⟨q.bb, 5, none⟩ (.int .i64 t)) :=
  h.put (Or.inl rfl) (fun vE hb => ⟨(hb.row.set 5 _).congr (fun j hj => by
    have : j = 0 ∨ j = 1 ∨ j = 2 ∨ j = 3 ∨ j = 4 ∨ j = 5 ∨ j = 6 ∨ j = 7 ∨ j = 8 := by omega
    rcases this with rfl | rfl | rfl | rfl | rfl | rfl | rfl | rfl | rfl <;> rfl), hb.sta.setOther hb.n1 _, ownsRow_setCell_other hb.ev hb.n2 _, hb.n1, hb.n2, hb.n3⟩)
theorem CB.shut (h : CB w0 QB b f Q p m q T op S E w) (o : Bool) : CB w0 QB b f Q p m q T o S E (w.setCell ⟨q.bb, 6, none⟩ (.bool o)) :=
  h.put (Or.inl rfl) (fun vE hb => ⟨(hb.row.set 6 _).congr (fun j hj => by
    have : j = 0 ∨ j = 1 ∨ j = 2 ∨ j = 3 ∨ j = 4 ∨ j = 5 ∨ j = 6 ∨ j = 7 ∨ j = 8 := by omega
    rcases this with rfl | rfl | rfl | rfl | rfl | rfl | rfl | rfl | rfl <;> rfl), hb.sta.setOther hb.n1 _, ownsRow_setCell_other hb.ev hb.n2 _, hb.n1, hb.n2, hb.n3⟩)
theorem CB.one (h : CB w0 QB b f Q p m q T op S E w) (x : Nat) (v : Value) {S' : Nat → St} (hs : ∀ j, (if j = x then v else stf S j) = stf S' j) : CB w0 QB b f Q p m q T op S' E (w.setCell ⟨q.gS, x, none⟩ v) :=
  h.put (Or.inr rfl) (fun vE hb => ⟨hb.row.setOther (fun e => hb.n1 e.symm) _, (hb.sta.set x v).congr (fun j _ => hs j), ownsRow_setCell_other hb.ev hb.n3 _, hb.n1, hb.n2, hb.n3⟩)
end

/-- One place of the states turns: it need not be a state in between. -/
theorem BkSt.sta4 {f : Frm} {q : BPl} {p : KPl} {T : Int} {op : Bool} {S : Nat → St} {vE : Value} {E : List Ev} {w : World} (h : BkSt f q p T op S vE E w) (i : Nat) (a : Bool) (b c : Int) (d : Bool) :
    BkSt f q p T op (upd S i ⟨a, b, c, d⟩) vE E ((((w.setCell ⟨q.gS, i * 4, none⟩ (.bool a)).setCell ⟨q.gS, i * 4 + 1, none⟩ (.int .i64 b)).setCell ⟨q.gS, i * 4 + 2, none⟩ (.int .i64 c)).setCell ⟨q.gS, i * 4 + 3, none⟩ (.bool d)) := by
  have n1 : q.bb ≠ q.gS := fun e => h.n1 e.symm
  refine ⟨(((h.row.setOther n1 _).setOther n1 _).setOther n1 _).setOther n1 _, ((((h.sta.set _ _).set _ _).set _ _).set _ _).congr (fun j _ => stf_set j), ownsRow_setCell_other (ownsRow_setCell_other (ownsRow_setCell_other (ownsRow_setCell_other h.ev h.n3 _) h.n3 _) h.n3 _) h.n3 _, h.n1, h.n2, h.n3⟩

theorem CB.four {w0 : World} {QB b : Nat} {f : Frm} {Q : Nat → Prop} {p : KPl} {m : Cs} {q : BPl} {T : Int} {op : Bool} {S : Nat → St} {E : List Ev} {w : World} (h : CB w0 QB b f Q p m q T op S E w) (i : Nat) (a : Bool) (b' c : Int) (d : Bool) :
    CB w0 QB b f Q p m q T op (upd S i ⟨a, b', c, d⟩) E ((((w.setCell ⟨q.gS, i * 4, none⟩ (.bool a)).setCell ⟨q.gS, i * 4 + 1, none⟩ (.int .i64 b')).setCell ⟨q.gS, i * 4 + 2, none⟩ (.int .i64 c)).setCell ⟨q.gS, i * 4 + 3, none⟩ (.bool d)) := by
  obtain ⟨Z, vE, h1, h2, h3, h4, h5, h6, h7, h8⟩ := h
  have hz := h3 _ (Or.inr (Or.inl rfl))
  have oth : ∀ j, j ≠ q.gS → ((((w.setCell ⟨q.gS, i * 4, none⟩ (.bool a)).setCell ⟨q.gS, i * 4 + 1, none⟩ (.int .i64 b')).setCell ⟨q.gS, i * 4 + 2, none⟩ (.int .i64 c)).setCell ⟨q.gS, i * 4 + 3, none⟩ (.bool d)).heap[j]? = w.heap[j]? := fun j hj => by
    rw [Go.Deep.blk_setCell_other _ _ _ _ hj, Go.Deep.blk_setCell_other _ _ _ _ hj, Go.Deep.blk_setCell_other _ _ _ _ hj, Go.Deep.blk_setCell_other _ _ _ _ hj]
  refine ⟨Z, vE, h1.store hz.1 (fun hq => by have := h6 _ hq; omega) (by omega) (by simp [World.setCell]) (fun j _ hj => oth j hj), h2.sta4 i a b' c d, h3, h4, h5.trans ⟨rfl, rfl, rfl, by simp [World.setCell], fun j hj => oth j (by omega)⟩, h6, h7, h8⟩

/-- An event more. -/
theorem CB.event {w0 : World} {QB b : Nat} {f : Frm} {Q : Nat → Prop} {p : KPl} {m : Cs} {q : BPl} {T : Int} {op : Bool} {S : Nat → St} {E : List Ev} {Z : Nat → Prop} {vE : Value} {w w1 : World} {o : Obj} {r : Nat} {l : Int} {g cap : Nat}
    (h1 : C1 Z b f Q p m w) (h2 : BkSt f q p T op S vE E w) (h3 : ∀ j, BOwn q vE j → Z j ∧ QB ≤ j) (h4 : ∀ j, j < w0.heap.size → Z j) (h5 : StZ (fun j => j < w0.heap.size) w0 w) (h6 : ∀ j, Q j → j < QB) (h7 : w0.heap.size ≤ QB) (h8 : 0 < QB)
    (k1 : w1.ownsRow 0 101 3 (.slice (some ⟨g, 0, none⟩) (E.length + 1) cap) (E.length + 1) (evs E ++ [.int .i64 T, .int .i64 r, .int .i64 l])) (hg : ((w.alloc o).drew).grownBy w1 vE.ownBlock) (hat : vE.ownBlock = some g ∨ g = w.heap.size + 1) :
    CB w0 QB b f Q p m q T op S (E ++ [⟨T, r, l⟩]) (w1.setCell ⟨q.bb, 8, none⟩ (.slice (some ⟨g, 0, none⟩) (E.length + 1) cap)) := by
  have hsz := hg.size
  simp at hsz
  have hz := h3 _ (Or.inl rfl)
  have zb := h2.row.lt
  have qlt := h1.qlt
  have far : ∀ j, j < w.heap.size → vE.ownBlock ≠ some j → w1.heap[j]? = w.heap[j]? := fun j hj hne => ev_far w o hg hj hne
  have glt : g < w1.heap.size := by
    obtain ⟨_, _, e, hl, _⟩ := own_cell k1 (by omega)
    simp at e
    rw [e.1]
    exact hl
  have gge : (Value.slice (some ⟨g, 0, none⟩) (E.length + 1) cap).ownBlock = some g := rfl
  have gz : (Z g ∧ QB ≤ g) ∨ w.heap.size ≤ g := by
    rcases hat with h | h
    · exact Or.inl (h3 _ (Or.inr (Or.inr h)))
    · exact Or.inr (by omega)
  have sqb : QB ≤ w.heap.size := by have := hz.2; omega
  have gq : QB ≤ g := by rcases gz with h | h; exact h.2; omega
  have gnb : g ≠ q.bb := fun e => by
    rcases hat with h | h
    · rw [e] at h; exact h2.n2 h
    · omega
  have gns : g ≠ q.gS := fun e => by
    rcases hat with h | h
    · rw [e] at h; exact h2.n3 h
    · have := h2.sta.lt; omega
  have gnb' : (Value.slice (some ⟨g, 0, none⟩) (E.length + 1) cap).ownBlock ≠ some q.bb := fun e => gnb (Option.some.inj e)
  have turn : C1 (zup Z w (w1.setCell ⟨q.bb, 8, none⟩ (.slice (some ⟨g, 0, none⟩) (E.length + 1) cap))) b f Q p m (w1.setCell ⟨q.bb, 8, none⟩ (.slice (some ⟨g, 0, none⟩) (E.length + 1) cap)) :=
    h1.turn (X := fun j => j = q.bb ∨ vE.ownBlock = some j) (fun j hj => by
      rcases hj with rfl | hj
      · exact ⟨hz.1, by omega, fun hq => by have := h6 _ hq; omega⟩
      · have z0 := h3 _ (Or.inr (Or.inr hj))
        exact ⟨z0.1, by omega, fun hq => by have := h6 _ hq; omega⟩) (by simp [World.setCell]; omega) (fun j hj hx => by
      rw [Go.Deep.blk_setCell_other _ _ _ _ (fun e => hx (Or.inl e))]
      exact far j hj (fun e => hx (Or.inr e)))
  refine ⟨_, _, turn, ⟨((h2.row.of_block (far _ zb h2.n2)).set 8 _).congr (fun j hj => ?_), (h2.sta.of_block (far _ h2.sta.lt h2.n3)).setOther h2.n1 _, ?_, h2.n1, gnb', fun e => gns (Option.some.inj e)⟩, fun j hj => ?_, fun j hj => Or.inl (h4 j hj), h5.trans ⟨hg.os, hg.tape, hg.output, by simp [World.setCell]; omega, fun j hj => ?_⟩, h6, h7, h8⟩
  · have : j = 0 ∨ j = 1 ∨ j = 2 ∨ j = 3 ∨ j = 4 ∨ j = 5 ∨ j = 6 ∨ j = 7 ∨ j = 8 := by omega
    rcases this with rfl | rfl | rfl | rfl | rfl | rfl | rfl | rfl | rfl <;> rfl
  · rw [evs_snoc, List.length_append]
    exact ownsRow_setCell_other k1 gnb' _
  · rcases hj with rfl | rfl | hj
    · exact ⟨Or.inl hz.1, hz.2⟩
    · have z1 := h3 _ (Or.inr (Or.inl rfl))
      exact ⟨Or.inl z1.1, z1.2⟩
    · have e : g = j := Option.some.inj hj
      subst e
      rcases gz with h | h
      · exact ⟨Or.inl h.1, h.2⟩
      · exact ⟨Or.inr ⟨h, by simp [World.setCell]; omega⟩, gq⟩
  · rw [Go.Deep.blk_setCell_other _ _ _ _ (by show j ≠ q.bb; omega)]
    exact far j (by omega) (fun e => by have := (h3 _ (Or.inr (Or.inr e))).2; omega)

end Go.Proofs.YtmofidaojmiepaaDoor

/-
  THE WALKS: docketkeep's book settles.
-/
set_option linter.unusedVariables false
set_option linter.unusedSimpArgs false
namespace Go.Proofs.YtmofidaojmiepaaDoor
open Go.RowKit
attribute [local go_sem ↓] Go.wp_at_zero Go.wp_at_succ

/-- What settle leaves. -/
def SbP (w0 : World) (QB b : Nat) (f : Frm) (Q : Nat → Prop) (p : KPl) (m : Cs) (q : BPl) (T : Int) (op : Bool) (S : Nat → St) (E : List Ev) (e : Ending) (w' : World) : Prop := e = .returned (.bool true) ∧ CB w0 QB b f Q p m q T op S E w'

theorem sb_of {w0 : World} {QB b : Nat} {f : Frm} {Q : Nat → Prop} {p : KPl} {m : Cs} {q : BPl} {T : Int} {V : Nat → Int} {S S' : Nat → St} {E E' : List Ev} {w' : World} (h : Par f V T S E f.k S' E') (hc : CB w0 QB b f Q p m q T true S' E' w') : SbP w0 QB b f Q p m q T true (setS f V T S) (E ++ setE f V T S) (.returned (.bool true)) w' := by
  refine ⟨rfl, ?_⟩
  obtain ⟨h1, rfl⟩ := h
  refine hc.congrS (fun i hi => ?_)
  rw [h1, if_pos hi]
  unfold setS
  rw [if_pos hi]

set_option maxRecDepth 100000 in
set_option maxHeartbeats 8000000 in
theorem ksettleB_any {w0 : World} {QB b : Nat} {f : Frm} {Q : Nat → Prop} {p : KPl} {m : Cs} {q : BPl} {T : Int} {S : Nat → St} {E : List Ev} {w : World} (h : CB w0 QB b f Q p m q T true S E w) (hT : m.T = T) (hR : RAt w0 q.aR f.k f.R) (hSt : ∀ i, i < f.k → StOk (S i)) (hE : E.length ≤ 999999999000) :
    Calls Tryd.prog 25 #[.pointer (some ⟨q.bb, 0, none⟩)] w fun e w' => SbP w0 QB b f Q p m q T true (setS f (f.vals m.F T) T S) (E ++ setE f (f.vals m.F T) T S) e w' := by
  obtain ⟨i9, hi9, hz⟩ := Option.map_eq_some_iff.1 info101
  simp only [Prod.mk.injEq] at hz
  obtain ⟨hz0, hz1, hz2⟩ := hz
  have HI := hid hi9
  have HZ0 := hid hz0
  have HZ1 := hid hz1
  have HZ2 := hid hz2
  clear hi9 hz0 hz1 hz2
  obtain ⟨n1, hn, hk, wk1, wk2⟩ := h.fok.sizes
  have HF := hid h.fok
  have HT := hid hT
  have T0 : 0 ≤ T := by have := h.mok.t0; omega
  have T1 : T ≤ 1000000000 := by have := h.mok.t1; omega
  have H := hid h
  have HR := hid hR
  have HST := hid hSt
  have HP0 := hid (Par.start f (f.vals m.F T) T S E)
  clear h hR hSt hT
  go_enter Tryd.func25, Tryd.ntmps25
  go_wp2_with fail
  go_loopw [3] (fun t wr => ∃ (i : Nat) (S' : Nat → St) (E' : List Ev), i ≤ f.k ∧ t = .int .i64 i ∧ E'.length ≤ E.length + i ∧ Hid (Par f (f.vals m.F T) T S E i S' E') ∧ Hid (CB w0 QB b f Q p m q T true S' E' wr)) (fun t _ => f.k - (intOf t).toNat)
  case atStart => exact ⟨0, S, E, by omega, rfl, by omega, HP0, H⟩
  case round =>
    clear H HP0
    obtain ⟨i, S', E', i1, rfl, hnE, hpar, hc⟩ := hrel
    have BL := hid hc.out.below
    obtain ⟨Z, vE, _, hb, _⟩ := hc.out
    have r0 := hb.row.cell (i := 0) (by omega)
    have r2 := hb.row.cell (i := 2) (by omega)
    have r6 := hb.row.cell (i := 6) (by omega)
    have r7 := hb.row.cell (i := 7) (by omega)
    simp [bkf] at r0 r2 r6 r7
    have zb := hb.row.lt
    clear hb
    by_cases hit : i < f.k
    · have lt' : (i : Int) < (f.k : Int) := by omega
      obtain ⟨bR, oR, haO, zR, hrr⟩ : ∃ b off, q.aR = some ⟨b, off, none⟩ ∧ b < wr.heap.size ∧ ∀ m, m < f.k → RuleIs wr b (off + m * 2) (f.R m) := by
        rcases HR.out.below BL.out with h | h
        · omega
        · exact h
      obtain ⟨u0, ast, caps, u1, u2, u3⟩ := hrr i hit
      rw [haO] at r2
      obtain ⟨g0, g1, hsl, hbad⟩ := HF.out.rules i hit
      have HBAD := hid hbad
      clear hbad
      obtain ⟨gx, hgx⟩ := Int.eq_ofNat_of_zero_le g0
      have hgn : gx < f.n := by omega
      have SOK : Hid (StOk (S' i)) := by show StOk _; rw [hpar.out.here]; exact HST.out i hit
      have GX : Hid (grd f.R (f.vals m.F T) i = f.vals m.F T gx) := by show f.vals m.F T (f.R i).guard.toNat = _; rw [hgx]; rfl
      have NX := hid (fun s l hs => hpar.out.next (s := s) (l := l) hs)
      rw [GX.out] at NX
      rw [hgx] at u0
      have WB0 : Hid (Below wr.heap.size wr (wr.alloc (.cells #[.int .i64 gx, .slice ast (f.R i).steps.length caps] 86))) := (Below.refl _ _).alloc (Nat.le_refl _) _
      have U2 := hid (SlAt.below u2 WB0.out (Nat.le_refl _))
      have C1' := hid (hc.out.keep WB0.out)
      have x0 : (wr.alloc (.cells #[.int .i64 gx, .slice ast (f.R i).steps.length caps] 86)).cell? ⟨wr.heap.size, 0, none⟩ = some (.int .i64 gx) := boxed (Below.refl (wr.heap.size + 1) _) 0
      have x1 : (wr.alloc (.cells #[.int .i64 gx, .slice ast (f.R i).steps.length caps] 86)).cell? ⟨wr.heap.size, 1, none⟩ = some (.slice ast (f.R i).steps.length caps) := boxed (Below.refl (wr.heap.size + 1) _) 1
      have zx : wr.heap.size < (wr.alloc (.cells #[.int .i64 gx, .slice ast (f.R i).steps.length caps] 86)).heap.size := by simp
      have p0 := (WB0.out.cell (p := ⟨q.bb, 0, none⟩) zb).trans r0
      have zb1 : q.bb < (wr.alloc (.cells #[.int .i64 gx, .slice ast (f.R i).steps.length caps] 86)).heap.size := by simp; omega
      clear hrr u2 hgx g0 g1 WB0 hc hpar GX
      go_upto_region 5 with (fail)
      generalize wr.alloc (.cells #[.int .i64 gx, .slice ast (f.R i).steps.length caps] 86) = Wa at *
      generalize wr.heap.size = gr at *
      have VC : Hid (∀ W, Below Wa.heap.size Wa W → Calls Tryd.prog 31 #[.pointer (some ⟨p.bp, 0, none⟩), .int .i64 gx] W fun e w' => e = .returned (.tuple #[.int .i64 (f.vals m.F T gx), .int .i64 0]) ∧ Below Wa.heap.size Wa w') := fun W hW => ((C1'.out.keep hW).ask (fun Z hz => c1value hz gx)).mono (fun e w' g => ⟨by
        rw [g.1, HT.out]
        unfold valV valE
        rw [if_pos (by omega), if_pos (by omega)]
        rfl, hW.trans (g.2.mono hW.size)⟩)
      clear r0 r2 r6 r7 u0 u1
      go_region_held3 (fun w' => w'.cell? ⟨q.bb, 0, none⟩ = some (.pointer (some ⟨p.bp, 0, none⟩)) ∧ w'.cell? ⟨gr, 0, none⟩ = some (.int .i64 gx))
        (refine ⟨?_, ?_⟩ <;> assumption)
        ((go_at_call 31; refine (VC.out _ (Below.refl _ _).drew).mono ?_; rintro e w5 ⟨rfl, hb5⟩; have k0 : w5.cell? ⟨q.bb, 0, none⟩ = some (.pointer (some ⟨p.bp, 0, none⟩)) := (hb5.cell (p := ⟨q.bb, 0, none⟩) zb1).trans p0; have k1 : w5.cell? ⟨gr, 0, none⟩ = some (.int .i64 gx) := (hb5.cell (p := ⟨gr, 0, none⟩) zx).trans x0))
      all_goals (
        have C5 := hid (C1'.out.keep ⟨hb5.os, hb5.tape, hb5.output, hb5.size, hb5.block⟩)
        have U5 := hid (SlAt.below U2.out (show Below Wa.heap.size Wa w5 from ⟨hb5.os, hb5.tape, hb5.output, hb5.size, hb5.block⟩) (Nat.le_refl _))
        have x1 := (hb5.cell (p := ⟨gr, 1, none⟩) zx).trans x1
        have zx5 : gr < w5.heap.size := by have := hb5.size; have h2 : Wa.heap.size ≤ w5.heap.size := this; omega
        clear hb5 C1' U2 VC k0 k1 p0 x0
        obtain ⟨Z, vE, _, hb, _⟩ := C5.out
        have r7 := hb.row.cell (i := 7) (by omega)
        simp [bkf] at r7
        have s0 := hb.sta.cell (i := i * 4) (by omega)
        have s1 := hb.sta.cell (i := i * 4 + 1) (by omega)
        have s2 := hb.sta.cell (i := i * 4 + 2) (by omega)
        have s3 := hb.sta.cell (i := i * 4 + 3) (by omega)
        rw [stf0] at s0
        rw [stf1] at s1
        rw [stf2] at s2
        rw [stf3] at s3
        clear hb
        obtain ⟨⟨sl, ss, sv, sa⟩, hst⟩ : ∃ st, S' i = st := ⟨_, rfl⟩
        rw [hst] at s0 s1 s2 s3 SOK
        have HST2 := hid hst
        rw [hst] at NX
        clear hst
        have s0 : w5.cell? ⟨q.gS, i * 4, none⟩ = some (.bool sl) := s0
        have s1 : w5.cell? ⟨q.gS, i * 4 + 1, none⟩ = some (.int .i64 ss) := s1
        have s2 : w5.cell? ⟨q.gS, i * 4 + 2, none⟩ = some (.int .i64 sv) := s2
        have s3 : w5.cell? ⟨q.gS, i * 4 + 3, none⟩ = some (.bool sa) := s3
        obtain ⟨so1, so2, so3, so4⟩ := SOK.out
        have so1 : 0 ≤ ss := so1
        have so2 : ss ≤ 1000000000 := so2
        have so3 : 0 ≤ sv := so3
        have so4 : sv ≤ 1000 := so4
        have BS := hid (boxed_below (Below.refl (w5.heap.size + 1) (w5.alloc (.cells #[.bool sl, .int .i64 ss, .int .i64 sv, .bool sa] 80))))
        have b0 : (w5.alloc (.cells #[.bool sl, .int .i64 ss, .int .i64 sv, .bool sa] 80)).cell? ⟨w5.heap.size, 0, none⟩ = some (.bool sl) := boxed (Below.refl (w5.heap.size + 1) _) 0
        have b1 : (w5.alloc (.cells #[.bool sl, .int .i64 ss, .int .i64 sv, .bool sa] 80)).cell? ⟨w5.heap.size, 1, none⟩ = some (.int .i64 ss) := boxed (Below.refl (w5.heap.size + 1) _) 1
        have b2 : (w5.alloc (.cells #[.bool sl, .int .i64 ss, .int .i64 sv, .bool sa] 80)).cell? ⟨w5.heap.size, 2, none⟩ = some (.int .i64 sv) := boxed (Below.refl (w5.heap.size + 1) _) 2
        have b3 : (w5.alloc (.cells #[.bool sl, .int .i64 ss, .int .i64 sv, .bool sa] 80)).cell? ⟨w5.heap.size, 3, none⟩ = some (.bool sa) := boxed (Below.refl (w5.heap.size + 1) _) 3
        have C6 := hid (C5.out.keep BS.out)
        have U6 := hid (SlAt.below U5.out BS.out (Nat.le_refl _))
        have x1 := (BS.out.cell (p := ⟨gr, 1, none⟩) zx5).trans x1
        clear SOK
        go_upto_region 9 with (fail)
        generalize w5.alloc (.cells #[.bool sl, .int .i64 ss, .int .i64 sv, .bool sa] 80) = Wb at *
        generalize w5.heap.size = gs at *
        clear C5 U5 BS s0 s1 s2 s3 r7
        obtain ⟨Z, vE, hc1, hb, hrest⟩ := C6.out
        have r7 := hb.row.cell (i := 7) (by omega)
        have r5 := hb.row.cell (i := 5) (by omega)
        simp [bkf] at r7 r5
        have s0 := hb.sta.cell (i := i * 4) (by omega)
        have s1 := hb.sta.cell (i := i * 4 + 1) (by omega)
        have s2 := hb.sta.cell (i := i * 4 + 2) (by omega)
        have s3 := hb.sta.cell (i := i * 4 + 3) (by omega)
        rw [stf2, HST2.out] at s2
        have s2 : Wb.cell? ⟨q.gS, i * 4 + 2, none⟩ = some (.int .i64 sv) := s2
        have fz : ∀ j, Wb.frozen? ⟨q.gS, j, none⟩ = false := fun j => hb.sta.frozen j
        have zP := hb.row.lt
        have zS := hb.sta.lt
        have nn : q.gS ≠ q.bb := hb.n1
        clear hb hc1 hrest
        by_cases hv0 : f.vals m.F T gx = 0
        · have NP : Hid (Par f (f.vals m.F T) T S E (i + 1) (upd S' i ⟨false, 0, 0, false⟩) E') := by
            have h := NX.out ⟨false, 0, 0, false⟩ [] ⟨by unfold stepSt; rw [if_pos hv0], by unfold stepEv; rw [if_pos hv0]⟩
            rw [List.append_nil] at h
            exact h
          have N1 := hid (C6.out.four i false 0 0 false)
          rw [hv0]
          clear hv0 NX
          go_wp2
          go_roundw
          case rel => exact ⟨i + 1, _, E', by omega, by go_num, by omega, NP, N1⟩
          case measure => simp [intOf]; omega
        · have dv : (f.vals m.F T gx == 0) = false := beq_eq_false_iff_ne.2 hv0
          have HV0 := hid hv0
          clear hv0
          generalize f.vals m.F T gx = vg at *
          cases sl
          · have NP : Hid (Par f (f.vals m.F T) T S E (i + 1) (upd S' i ⟨true, T, 0, false⟩) (E' ++ [⟨T, i, 0⟩])) := NX.out ⟨true, T, 0, false⟩ [⟨T, i, 0⟩] ⟨by unfold stepSt; rw [if_neg HV0.out, if_pos rfl], by unfold stepEv; rw [if_neg HV0.out, if_pos rfl]⟩
            have N0 := hid ((C6.out.four i true T 0 false).keep (Below.refl _ _).drew)
            clear NX
            go_wp2
            go_region
            go_wp2_with fail
            generalize ((((Wb.setCell ⟨q.gS, i * 4, none⟩ (.bool true)).setCell ⟨q.gS, i * 4 + 1, none⟩ (.int .i64 T)).setCell ⟨q.gS, i * 4 + 2, none⟩ (.int .i64 0)).setCell ⟨q.gS, i * 4 + 3, none⟩ (.bool false)).drew = Wf at *
            clear r7 r5 s0 s1 s2 s3 fz zP zS
            obtain ⟨Z, vE, hc1, hb, hrest⟩ := N0.out
            clear N0
            have y8 := hb.row.cell (i := 8) (by omega)
            have y5 := hb.row.cell (i := 5) (by omega)
            have y7 := hb.row.cell (i := 7) (by omega)
            simp [bkf] at y8 y5 y7
            have f8 := hb.row.frozen 8
            have zP := hb.row.lt
            have y8a : ∀ o, (Wf.alloc o).cell? ⟨q.bb, 8, none⟩ = some vE := fun o => by rw [World.cell?_alloc_lt (h := zP)]; exact y8
            have OWN := hid hb.ev
            have NE : Hid (vE.ownBlock ≠ some q.bb) := hb.n2
            have hE9 : E'.length ≤ 999999999006 := by omega
            have HB := hid hb
            have HZ := hid (And.intro hc1 hrest)
            clear hb hc1 hrest
            go_region_law ((refine step_append_lies _ (by rfl) (.tmp 77) (.tmp 84) 44 (by rfl) 0 101 i9 _ 3 24 Tryd.underlying44 HI.out HZ0.out HZ1.out HZ2.out (by rfl) (by omega) vE E'.length (evs E') (by simp [Act.eval, Act.put]) (by exact own_alloc_drew OWN.out _) ⟨Wf.heap.size, 0, none⟩ 1 1 [.int .i64 T, .int .i64 i, .int .i64 (0)] (by simp [Act.eval, Act.put]) (by rfl) (by exact news3 _ _ _ _ _) (by simp [Value.oneCell']) (by omega) (by unfold maxLen; omega) (by omega) (by omega) (Wf.heap.size + 1) (by simp) ?_; intro g cap w1 hown1 hgrow hat hlt; have hbk : w1.heap[q.bb]? = Wf.heap[q.bb]? := ev_far Wf _ hgrow (by omega) NE.out; have e8 : w1.cell? ⟨q.bb, 8, none⟩ = some vE := (by rw [World.cell?_of_block (w := Wf) hbk]; exact y8); have e9 : w1.frozen? ⟨q.bb, 8, none⟩ = false := (by rw [World.frozen?_of_block (w := Wf) hbk]; exact f8)))
            all_goals (
              have N1 := hid (CB.event HZ.out.1 HB.out HZ.out.2.1 HZ.out.2.2.1 HZ.out.2.2.2.1 HZ.out.2.2.2.2.1 HZ.out.2.2.2.2.2.1 HZ.out.2.2.2.2.2.2 hown1 hgrow hat)
              clear hown1 hgrow hat hlt hbk e8 e9 HZ HB
              go_wp2
              go_roundw
              case rel => exact ⟨i + 1, _, E' ++ [⟨T, i, 0⟩], by omega, by go_num, by simp; omega, NP, N1⟩
              case measure => simp [intOf]; omega)
          · by_cases hc : sv < (f.R i).steps.length ∧ sa = false ∧ T = ss + (f.R i).steps.getD sv.toNat 0
            · obtain ⟨c1, c2, c3⟩ := hc
              have NP : Hid (Par f (f.vals m.F T) T S E (i + 1) (upd S' i ⟨true, ss, sv + 1, sa⟩) (E' ++ [⟨T, i, sv + 1⟩])) := NX.out ⟨true, ss, sv + 1, sa⟩ [⟨T, i, sv + 1⟩] ⟨by unfold stepSt; rw [if_neg HV0.out, if_neg (by simp), if_pos ⟨c1, c2, c3⟩], by unfold stepEv; rw [if_neg HV0.out, if_neg (by simp), if_pos ⟨c1, c2, c3⟩]⟩
              subst c2
              obtain ⟨lv, hlv⟩ := Int.eq_ofNat_of_zero_le so3
              subst hlv
              have ll : lv < (f.R i).steps.length := by omega
              rcases IntsAt.cases U6.out with h | ⟨bT, oT, haT, zT, hT⟩
              · omega
              have t0 := hT lv ll
              rw [show ((lv : Int)).toNat = lv by omega] at c3
              subst haT
              clear hT NX
              have C3 := hid c3
              generalize (f.R i).steps.getD lv 0 = sp at *
              generalize (f.R i).steps.length = ln at *
              have e1 : decide ((lv : Int) < (ln : Int)) = true := decide_eq_true c1
              have sp0 : ss + sp = T := c3.symm
              have e2 : (ss + sp == T) = true := by rw [sp0]; simp
              have spb : -1000000000 ≤ sp ∧ sp ≤ 1000000000 := by omega
              clear c3 sp0
              go_upto_region 14 with (fail)
              go_quiet (fail)
              have C7 := hid (C6.out.keep (below_drewN (Below.refl _ _) nq))
              clear r7 r5 s0 s1 s2 s3 fz zP zS C6 U6 x1 b0 b1 b2 b3 t0
              generalize Wb.drewN nq = Wq at *
              obtain ⟨Z, vE, hc1, hb, hrest⟩ := C7.out
              have r7 := hb.row.cell (i := 7) (by omega)
              simp [bkf] at r7
              have s2 := hb.sta.cell (i := i * 4 + 2) (by omega)
              rw [stf2, HST2.out] at s2
              have s2 : Wq.cell? ⟨q.gS, i * 4 + 2, none⟩ = some (.int .i64 lv) := s2
              have fz : ∀ j, Wq.frozen? ⟨q.gS, j, none⟩ = false := fun j => hb.sta.frozen j
              have zP := hb.row.lt
              have zS := hb.sta.lt
              clear hb hc1 hrest
              have N0 : Hid (CB w0 QB b f Q p m q T true (upd S' i ⟨true, ss, lv + 1, false⟩) E' (Wq.setCell ⟨q.gS, i * 4 + 2, none⟩ (.int .i64 (lv + 1)))) := by
                refine C7.out.one (i * 4 + 2) (.int .i64 (lv + 1)) (fun j => ?_)
                have h := stf_lev (S := S') (i := i) (c := lv + 1) j
                rw [HST2.out] at h
                exact h
              go_wp2_with fail
              generalize Wq.setCell ⟨q.gS, i * 4 + 2, none⟩ (.int .i64 (lv + 1)) = Wf at *
              clear r7 s2 fz zP zS
              obtain ⟨Z, vE, hc1, hb, hrest⟩ := N0.out
              clear N0
              have y8 := hb.row.cell (i := 8) (by omega)
              have y5 := hb.row.cell (i := 5) (by omega)
              have y7 := hb.row.cell (i := 7) (by omega)
              simp [bkf] at y8 y5 y7
              have yl := hb.sta.cell (i := i * 4 + 2) (by omega)
              rw [stf2, upd_same] at yl
              have yl : Wf.cell? ⟨q.gS, i * 4 + 2, none⟩ = some (.int .i64 (lv + 1)) := yl
              have f8 := hb.row.frozen 8
              have zP := hb.row.lt
              have y8a : ∀ o, (Wf.alloc o).cell? ⟨q.bb, 8, none⟩ = some vE := fun o => by rw [World.cell?_alloc_lt (h := zP)]; exact y8
              have OWN := hid hb.ev
              have NE : Hid (vE.ownBlock ≠ some q.bb) := hb.n2
              have hE9 : E'.length ≤ 999999999006 := by omega
              have HB := hid hb
              have HZ := hid (And.intro hc1 hrest)
              clear hb hc1 hrest
              go_region_law ((refine step_append_lies _ (by rfl) (.tmp 130) (.tmp 145) 44 (by rfl) 0 101 i9 _ 3 24 Tryd.underlying44 HI.out HZ0.out HZ1.out HZ2.out (by rfl) (by omega) vE E'.length (evs E') (by simp [Act.eval, Act.put]) (by exact own_alloc_drew OWN.out _) ⟨Wf.heap.size, 0, none⟩ 1 1 [.int .i64 T, .int .i64 i, .int .i64 (lv + 1 : Int)] (by simp [Act.eval, Act.put]) (by rfl) (by exact news3 _ _ _ _ _) (by simp [Value.oneCell']) (by omega) (by unfold maxLen; omega) (by omega) (by omega) (Wf.heap.size + 1) (by simp) ?_; intro g cap w1 hown1 hgrow hat hlt; have hbk : w1.heap[q.bb]? = Wf.heap[q.bb]? := ev_far Wf _ hgrow (by omega) NE.out; have e8 : w1.cell? ⟨q.bb, 8, none⟩ = some vE := (by rw [World.cell?_of_block (w := Wf) hbk]; exact y8); have e9 : w1.frozen? ⟨q.bb, 8, none⟩ = false := (by rw [World.frozen?_of_block (w := Wf) hbk]; exact f8)))
              all_goals (
                have N1 := hid (CB.event HZ.out.1 HB.out HZ.out.2.1 HZ.out.2.2.1 HZ.out.2.2.2.1 HZ.out.2.2.2.2.1 HZ.out.2.2.2.2.2.1 HZ.out.2.2.2.2.2.2 hown1 hgrow hat)
                clear hown1 hgrow hat hlt hbk e8 e9 HZ HB
                go_wp2
                go_roundw
                case rel => exact ⟨i + 1, _, E' ++ [⟨T, i, lv + 1⟩], by omega, by go_num, by simp; omega, NP, N1⟩
                case measure => simp [intOf]; omega)
            · have NP : Hid (Par f (f.vals m.F T) T S E (i + 1) S' E') := by
                have h := NX.out ⟨true, ss, sv, sa⟩ [] ⟨by unfold stepSt; rw [if_neg HV0.out, if_neg (by simp), if_neg hc], by unfold stepEv; rw [if_neg HV0.out, if_neg (by simp), if_neg hc]⟩
                rw [List.append_nil, ← HST2.out, upd_self] at h
                exact h
              clear NX
              have FIN : Hid (∀ nq, CB w0 QB b f Q p m q T true S' E' (Wb.drewN nq)) := fun nq => C6.out.keep (below_drewN (Below.refl _ _) nq)
              cases sa
              · by_cases hl : sv < (f.R i).steps.length
                · obtain ⟨lv, hlv⟩ := Int.eq_ofNat_of_zero_le so3
                  subst hlv
                  have ll : lv < (f.R i).steps.length := by omega
                  rcases IntsAt.cases U6.out with h | ⟨bT, oT, haT, zT, hT⟩
                  · omega
                  have t0 := hT lv ll
                  have hb3 := HBAD.out lv ll
                  unfold BadAt at hb3
                  have hne : T ≠ ss + (f.R i).steps.getD lv 0 := fun e => hc ⟨hl, rfl, e⟩
                  subst haT
                  clear hT hc HBAD
                  generalize (f.R i).steps.getD lv 0 = sp at *
                  generalize (f.R i).steps.length = ln at *
                  have e1 : decide ((lv : Int) < (ln : Int)) = true := decide_eq_true hl
                  have e2 : (ss + sp == T) = false := beq_eq_false_iff_ne.2 (fun e => hne e.symm)
                  have spb : 1 ≤ sp ∧ sp ≤ 1000000000 := by omega
                  clear hne hb3
                  go_upto_region 14 with (fail)
                  go_quiet (fail)
                  have N1 := hid (FIN.out nq)
                  generalize Wb.drewN nq = Wq at *
                  go_wp2
                  go_roundw
                  case rel => exact ⟨i + 1, S', E', by omega, by go_num, by omega, NP, N1⟩
                  case measure => simp [intOf]; omega
                · have e1 : decide (sv < ((f.R i).steps.length : Int)) = false := decide_eq_false hl
                  clear hc
                  generalize (f.R i).steps.length = ln at *
                  go_upto_region 14 with (fail)
                  go_quiet (fail)
                  have N1 := hid (FIN.out nq)
                  generalize Wb.drewN nq = Wq at *
                  go_wp2
                  go_roundw
                  case rel => exact ⟨i + 1, S', E', by omega, by go_num, by omega, NP, N1⟩
                  case measure => simp [intOf]; omega
              · clear hc
                go_upto_region 14 with (fail)
                go_quiet (fail)
                have N1 := hid (FIN.out nq)
                generalize Wb.drewN nq = Wq at *
                go_wp2
                go_roundw
                case rel => exact ⟨i + 1, S', E', by omega, by go_num, by omega, NP, N1⟩
                case measure => simp [intOf]; omega)
    · obtain rfl : i = f.k := by omega
      have R : Hid (SbP w0 QB b f Q p m q T true (setS f (f.vals m.F T) T S) (E ++ setE f (f.vals m.F T) T S) (.returned (.bool true)) wr) := sb_of hpar.out hc.out
      go_wp2
      go_ret
      exact R.out

end Go.Proofs.YtmofidaojmiepaaDoor

/-
  THE WALKS: the book and its model.
-/
set_option linter.unusedVariables false
set_option linter.unusedSimpArgs false
namespace Go.Proofs.YtmofidaojmiepaaDoor
open Go.RowKit
attribute [local go_sem ↓] Go.wp_at_zero Go.wp_at_succ

theorem CB.cells {w0 : World} {QB b : Nat} {f : Frm} {Q : Nat → Prop} {p : KPl} {m : Cs} {q : BPl} {T : Int} {op : Bool} {S : Nat → St} {E : List Ev} {w : World} (h : CB w0 QB b f Q p m q T op S E w) :
    w.cell? ⟨q.bb, 0, none⟩ = some (.pointer (some ⟨p.bp, 0, none⟩)) ∧ w.cell? ⟨q.bb, 1, none⟩ = some (.slice q.aC f.n q.cC) ∧ w.cell? ⟨q.bb, 2, none⟩ = some (.slice q.aR f.k q.cR) ∧ w.cell? ⟨q.bb, 3, none⟩ = some (.int .i64 f.week) ∧ w.cell? ⟨q.bb, 4, none⟩ = some (.slice q.aH f.hol.length q.cH) ∧ w.cell? ⟨q.bb, 5, none⟩ = some (.int .i64 T) ∧ w.cell? ⟨q.bb, 6, none⟩ = some (.bool op) ∧ w.cell? ⟨q.bb, 7, none⟩ = some (.slice (some ⟨q.gS, 0, none⟩) f.k q.cS) ∧ q.bb < w.heap.size ∧ ∀ j, w.frozen? ⟨q.bb, j, none⟩ = false := by
  obtain ⟨Z, vE, _, hb, _⟩ := h
  exact ⟨hb.row.cell (i := 0) (by omega), hb.row.cell (i := 1) (by omega), hb.row.cell (i := 2) (by omega), hb.row.cell (i := 3) (by omega), hb.row.cell (i := 4) (by omega), hb.row.cell (i := 5) (by omega), hb.row.cell (i := 6) (by omega), hb.row.cell (i := 7) (by omega), hb.row.lt, fun j => hb.row.frozen j⟩
theorem CB.stas {w0 : World} {QB b : Nat} {f : Frm} {Q : Nat → Prop} {p : KPl} {m : Cs} {q : BPl} {T : Int} {op : Bool} {S : Nat → St} {E : List Ev} {w : World} (h : CB w0 QB b f Q p m q T op S E w) {i : Nat} (hi : i < f.k) :
    w.cell? ⟨q.gS, i * 4, none⟩ = some (.bool (S i).lit) ∧ w.cell? ⟨q.gS, i * 4 + 1, none⟩ = some (.int .i64 (S i).since) ∧ w.cell? ⟨q.gS, i * 4 + 2, none⟩ = some (.int .i64 (S i).level) ∧ w.cell? ⟨q.gS, i * 4 + 3, none⟩ = some (.bool (S i).acked) ∧ q.gS < w.heap.size ∧ q.gS ≠ q.bb ∧ ∀ j, w.frozen? ⟨q.gS, j, none⟩ = false := by
  obtain ⟨Z, vE, _, hb, _⟩ := h
  exact ⟨by rw [← stf0]; exact hb.sta.cell (i := i * 4) (by omega), by rw [← stf1]; exact hb.sta.cell (i := i * 4 + 1) (by omega), by rw [← stf2]; exact hb.sta.cell (i := i * 4 + 2) (by omega), by rw [← stf3]; exact hb.sta.cell (i := i * 4 + 3) (by omega), hb.sta.lt, hb.n1, fun j => hb.sta.frozen j⟩

set_option maxRecDepth 100000 in
set_option maxHeartbeats 4000000 in
theorem ksettleN {w0 : World} {QB b : Nat} {f : Frm} {Q : Nat → Prop} {p : KPl} {m : Cs} {q : BPl} {T : Int} {S : Nat → St} {E : List Ev} {w : World} (h : CB w0 QB b f Q p m q T false S E w) : Calls Tryd.prog 25 #[.pointer (some ⟨q.bb, 0, none⟩)] w fun e w' => e = .returned (.bool true) ∧ w' = w := by
  obtain ⟨r0, _, _, _, _, _, r6, r7, zb, _⟩ := h.cells
  have hk := h.fok.sizes.2.2.1
  clear h
  go_enter Tryd.func25, Tryd.ntmps25
  go_wp2_with fail
  go_loopw [3] (fun t wr => t = .int .i64 (0 : Nat) ∧ Hid (wr = w)) (fun _ _ => 0)
  case atStart => exact ⟨rfl, rfl⟩
  case round =>
    obtain ⟨rfl, hw⟩ := hrel
    have r0 : wr.cell? ⟨q.bb, 0, none⟩ = some (.pointer (some ⟨p.bp, 0, none⟩)) := by rw [hw.out]; exact r0
    have r6 : wr.cell? ⟨q.bb, 6, none⟩ = some (.bool false) := by rw [hw.out]; exact r6
    have r7 : wr.cell? ⟨q.bb, 7, none⟩ = some (.slice (some ⟨q.gS, 0, none⟩) f.k q.cS) := by rw [hw.out]; exact r7
    have zb : q.bb < wr.heap.size := by rw [hw.out]; exact zb
    by_cases h0 : f.k = 0
    · rw [h0] at r7
      go_wp2
      go_ret
      exact ⟨rfl, hw.out⟩
    · have lt' : ((0 : Nat) : Int) < (f.k : Int) := by omega
      go_wp2
      go_ret
      exact ⟨rfl, hw.out⟩

/-- The book is the model's. -/
def BM (w0 : World) (QB b : Nat) (f : Frm) (Q : Nat → Prop) (p : KPl) (m : Cs) (q : BPl) (w : World) : Prop := CB w0 QB b f Q p m q m.T m.op m.S m.E w
def StP (w0 : World) (QB b : Nat) (f : Frm) (Q : Nat → Prop) (p : KPl) (m : Cs) (q : BPl) (e : Ending) (w' : World) : Prop := e = .returned (.bool true) ∧ BM w0 QB b f Q p m q w'
def SmP (w0 : World) (QB b : Nat) (f : Frm) (Q : Nat → Prop) (p : KPl) (q : BPl) (e : Ending) (w' : World) : Prop := ∃ m', StP w0 QB b f Q p m' q e w'

theorem ksettleM {w0 : World} {QB b : Nat} {f : Frm} {Q : Nat → Prop} {p : KPl} {q : BPl} {n : Cs} {w : World} (h : CB w0 QB b f Q p (Cs.settle f n) q n.T n.op n.S n.E w) (hn : ∀ i, i < f.k → StOk (n.S i)) (hb : b ≤ 10000000000) (hR : RAt w0 q.aR f.k f.R) : Calls Tryd.prog 25 #[.pointer (some ⟨q.bb, 0, none⟩)] w fun e w' => StP w0 QB b f Q p (Cs.settle f n) q e w' := by
  by_cases ho : n.op = true
  · have hl := h.len hb
    have e1 : Cs.settle f n = ⟨n.F, n.T, n.op, setS f (f.vals n.F n.T) n.T n.S, n.E ++ setE f (f.vals n.F n.T) n.T n.S⟩ := by unfold Cs.settle; rw [if_pos ho]
    have hl2 : n.E.length ≤ 999999999000 := by
      rw [e1] at hl
      have : (n.E ++ setE f (f.vals n.F n.T) n.T n.S).length ≤ 999999999000 := hl
      rw [List.length_append] at this
      omega
    rw [ho] at h
    refine (ksettleB_any h (settle_T f n) hR hn hl2).mono ?_
    rintro e w' ⟨h1, h2⟩
    refine ⟨h1, ?_⟩
    rw [settle_F] at h2
    have x1 : (Cs.settle f n).S = setS f (f.vals n.F n.T) n.T n.S := by rw [e1]
    have x2 : (Cs.settle f n).E = n.E ++ setE f (f.vals n.F n.T) n.T n.S := by rw [e1]
    unfold BM
    rw [settle_T, settle_op, ho, x1, x2]
    exact h2
  · have ho : n.op = false := by simpa using ho
    have e1 : Cs.settle f n = n := by unfold Cs.settle; rw [if_neg (by rw [ho]; simp)]
    rw [e1] at h ⊢
    have h2 := h
    rw [ho] at h
    refine (ksettleN h).mono ?_
    rintro e w' ⟨h1, h3⟩
    subst h3
    exact ⟨h1, h2⟩

end Go.Proofs.YtmofidaojmiepaaDoor

/-
  THE WALKS: the book goes on.
-/
set_option linter.unusedVariables false
set_option linter.unusedSimpArgs false
namespace Go.Proofs.YtmofidaojmiepaaDoor
open Go.RowKit
attribute [local go_sem ↓] Go.wp_at_zero Go.wp_at_succ
set_option maxRecDepth 100000 in
set_option maxHeartbeats 4000000 in
theorem kgoesB_any {w0 : World} {QB b : Nat} {f : Frm} {Q : Nat → Prop} {p : KPl} {m : Cs} {q : BPl} {w : World} (h : BM w0 QB b f Q p m q w) (hb : b ≤ 10000000000) (hR : RAt w0 q.aR f.k f.R) (tq : Int) (h0 : m.T ≤ tq) (h1 : tq ≤ 1000000000) :
    Calls Tryd.prog 62 #[.pointer (some ⟨q.bb, 0, none⟩), .int .i64 tq] w fun e w' => SmP w0 QB b f Q p q e w' := by
  have HR := hid hR
  have H := hid h
  have t0 : 0 ≤ tq := by have := (CB.mok h).t0; omega
  clear h hR
  go_enter Tryd.func62, Tryd.ntmps62
  go_wp2_with fail
  go_loopw [5] (fun t wr => ∃ (n : Nat) (m' : Cs), n ≤ 400 ∧ t = .int .i64 n ∧ m'.T ≤ tq ∧ Hid (BM w0 QB b f Q p m' q wr)) (fun t _ => 400 - (intOf t).toNat)
  case atStart => exact ⟨0, m, by omega, rfl, h0, H⟩
  case round =>
    clear H
    obtain ⟨n, m', n1, rfl, t1, hc⟩ := hrel
    by_cases hit : n < 400
    · have lt' : (n : Int) < 400 := by omega
      have MOK := hid (CB.mok hc.out)
      have HF := hid (CB.fok hc.out)
      have T0 := MOK.out.t0
      have T1 := MOK.out.t1
      obtain ⟨r0, _, _, _, _, r5, _, _, zb, _⟩ := CB.cells hc.out
      have KC := hid (CB.ask hc.out (fun Z hz => c1next hz))
      go_wp2_with fail
      refine KC.out.mono ?_
      rintro e y1 ⟨t, ok, rfl, hnx, hb1⟩
      have HN := hid hnx
      have K1 : Hid (BM w0 QB b f Q p m' q y1) := CB.keep hc.out hb1
      clear KC hb1 hnx hc r0 r5 zb
      obtain ⟨r0, _, _, _, _, r5, _, _, zb, _⟩ := CB.cells K1.out
      cases ok
      · have HS : Hid (t = 0 ∧ ∀ u, m'.T < u → u < tq → SameAt f m' u) := by
          rcases HN.out with ⟨e, _⟩ | ⟨_, e, g⟩
          · cases e
          · exact ⟨e, fun u a c => g u a (by omega)⟩
        obtain rfl := HS.out.1
        have HS := hid HS.out.2
        rcases Int.lt_or_le m'.T tq with hlt | hlt
        · have AE : Hid (advM f m' tq = Cs.settle f (m'.at tq)) := adv_hop HF.out MOK.out hlt h1 HS.out
          clear HS HN
          have AN : Hid (advAns m'.T tq = 0) := by show advAns _ _ = _; unfold advAns; rw [if_neg (by omega)]
          have KC : Hid (Calls Tryd.prog 20 #[.pointer (some ⟨p.bp, 0, none⟩), .int .i64 tq] y1 fun e w' => e = .returned (.int .i64 0) ∧ CB w0 QB b f Q p (Cs.settle f (m'.at tq)) q m'.T m'.op m'.S m'.E w') := (CB.on K1.out (fun Z hz => c1adv hz hb tq)).mono (fun e w' g => ⟨by rw [g.1, AN.out], by have h2 := g.2; rw [AE.out] at h2; exact h2⟩)
          go_wp2_with fail
          refine KC.out.mono ?_
          rintro e y2 ⟨rfl, hc2⟩
          have C2 := hid hc2
          clear hc2 KC K1 r0 r5 AN AE
          obtain ⟨r0, _, _, _, _, r5, _, _, zb, fz⟩ := C2.out.cells
          have C3 : Hid (CB w0 QB b f Q p (Cs.settle f (m'.at tq)) q (m'.at tq).T (m'.at tq).op (m'.at tq).S (m'.at tq).E (y2.setCell ⟨q.bb, 5, none⟩ (.int .i64 tq))) := C2.out.now tq
          have KS := hid (ksettleM C3.out MOK.out.st hb HR.out)
          go_wp2_with fail
          refine KS.out.mono ?_
          rintro e y3 ⟨rfl, hc3⟩
          have R : Hid (SmP w0 QB b f Q p q (.returned (.bool true)) y3) := ⟨_, rfl, hc3⟩
          clear hc3 KS C3 C2
          go_wp2
          go_ret
          exact R.out
        · clear HS HN
          have AN : Hid (advAns m'.T tq = 0) := by show advAns _ _ = _; unfold advAns; rw [if_neg (by omega)]
          have AE : Hid (advM f m' tq = m') := by show _ = _; unfold advM; rw [if_neg (by omega), show (tq - m'.T).toNat = 0 by omega]; rfl
          have KC : Hid (Calls Tryd.prog 20 #[.pointer (some ⟨p.bp, 0, none⟩), .int .i64 tq] y1 fun e w' => e = .returned (.int .i64 0) ∧ BM w0 QB b f Q p m' q w') := (CB.on K1.out (fun Z hz => c1adv hz hb tq)).mono (fun e w' g => ⟨by rw [g.1, AN.out], by have h2 := g.2; rw [AE.out] at h2; exact h2⟩)
          have ng : decide (m'.T < tq) = false := decide_eq_false (by omega)
          go_wp2_with fail
          refine KC.out.mono ?_
          rintro e y2 ⟨rfl, hc2⟩
          have C2 := hid hc2
          clear hc2 KC K1 r0 r5 AN AE
          obtain ⟨r0, _, _, _, _, r5, _, _, zb, fz⟩ := CB.cells C2.out
          have R : Hid (SmP w0 QB b f Q p q (.returned (.bool true)) y2) := ⟨_, rfl, C2.out⟩
          clear C2
          go_wp2
          go_ret
          exact R.out
      · have HY : Hid (m'.T < t ∧ t ≤ 1000000000 ∧ ∀ u, m'.T < u → u < t → SameAt f m' u) := by
          rcases HN.out with ⟨_, a, c, _, d⟩ | ⟨e, _⟩
          · exact ⟨a, c, d⟩
          · cases e
        have y1' := HY.out.1
        have y2' := HY.out.2.1
        have HY := hid HY.out.2.2
        have d1 : decide (t ≤ m'.T) = false := decide_eq_false (by omega)
        rcases Int.lt_or_le tq t with hlt2 | hle2
        · have HS : Hid (∀ u, m'.T < u → u < tq → SameAt f m' u) := fun u a c => HY.out u a (by omega)
          clear HY
          rcases Int.lt_or_le m'.T tq with hlt | hlt
          · have AE : Hid (advM f m' tq = Cs.settle f (m'.at tq)) := adv_hop HF.out MOK.out hlt h1 HS.out
            clear HS HN
            have AN : Hid (advAns m'.T tq = 0) := by show advAns _ _ = _; unfold advAns; rw [if_neg (by omega)]
            have KC : Hid (Calls Tryd.prog 20 #[.pointer (some ⟨p.bp, 0, none⟩), .int .i64 tq] y1 fun e w' => e = .returned (.int .i64 0) ∧ CB w0 QB b f Q p (Cs.settle f (m'.at tq)) q m'.T m'.op m'.S m'.E w') := (CB.on K1.out (fun Z hz => c1adv hz hb tq)).mono (fun e w' g => ⟨by rw [g.1, AN.out], by have h2 := g.2; rw [AE.out] at h2; exact h2⟩)
            go_wp2_with fail
            refine KC.out.mono ?_
            rintro e y2 ⟨rfl, hc2⟩
            have C2 := hid hc2
            clear hc2 KC K1 r0 r5 AN AE
            obtain ⟨r0, _, _, _, _, r5, _, _, zb, fz⟩ := C2.out.cells
            have C3 : Hid (CB w0 QB b f Q p (Cs.settle f (m'.at tq)) q (m'.at tq).T (m'.at tq).op (m'.at tq).S (m'.at tq).E (y2.setCell ⟨q.bb, 5, none⟩ (.int .i64 tq))) := C2.out.now tq
            have KS := hid (ksettleM C3.out MOK.out.st hb HR.out)
            go_wp2_with fail
            refine KS.out.mono ?_
            rintro e y3 ⟨rfl, hc3⟩
            have R : Hid (SmP w0 QB b f Q p q (.returned (.bool true)) y3) := ⟨_, rfl, hc3⟩
            clear hc3 KS C3 C2
            go_wp2
            go_ret
            exact R.out
          · clear HS HN
            have AN : Hid (advAns m'.T tq = 0) := by show advAns _ _ = _; unfold advAns; rw [if_neg (by omega)]
            have AE : Hid (advM f m' tq = m') := by show _ = _; unfold advM; rw [if_neg (by omega), show (tq - m'.T).toNat = 0 by omega]; rfl
            have KC : Hid (Calls Tryd.prog 20 #[.pointer (some ⟨p.bp, 0, none⟩), .int .i64 tq] y1 fun e w' => e = .returned (.int .i64 0) ∧ BM w0 QB b f Q p m' q w') := (CB.on K1.out (fun Z hz => c1adv hz hb tq)).mono (fun e w' g => ⟨by rw [g.1, AN.out], by have h2 := g.2; rw [AE.out] at h2; exact h2⟩)
            have ng : decide (m'.T < tq) = false := decide_eq_false (by omega)
            go_wp2_with fail
            refine KC.out.mono ?_
            rintro e y2 ⟨rfl, hc2⟩
            have C2 := hid hc2
            clear hc2 KC K1 r0 r5 AN AE
            obtain ⟨r0, _, _, _, _, r5, _, _, zb, fz⟩ := CB.cells C2.out
            have R : Hid (SmP w0 QB b f Q p q (.returned (.bool true)) y2) := ⟨_, rfl, C2.out⟩
            clear C2
            go_wp2
            go_ret
            exact R.out
        · have ng2 : decide (tq < t) = false := decide_eq_false (by omega)
          have AE : Hid (advM f m' t = Cs.settle f (m'.at t)) := adv_hop HF.out MOK.out y1' y2' HY.out
          clear HY HN
          have AN : Hid (advAns m'.T t = 0) := by show advAns _ _ = _; unfold advAns; rw [if_neg (by omega)]
          have KC : Hid (Calls Tryd.prog 20 #[.pointer (some ⟨p.bp, 0, none⟩), .int .i64 t] y1 fun e w' => e = .returned (.int .i64 0) ∧ CB w0 QB b f Q p (Cs.settle f (m'.at t)) q m'.T m'.op m'.S m'.E w') := (CB.on K1.out (fun Z hz => c1adv hz hb t)).mono (fun e w' g => ⟨by rw [g.1, AN.out], by have h2 := g.2; rw [AE.out] at h2; exact h2⟩)
          go_wp2_with fail
          refine KC.out.mono ?_
          rintro e y2 ⟨rfl, hc2⟩
          have C2 := hid hc2
          clear hc2 KC K1 r0 r5 AN AE
          obtain ⟨r0, _, _, _, _, r5, _, _, zb, fz⟩ := C2.out.cells
          have C3 : Hid (CB w0 QB b f Q p (Cs.settle f (m'.at t)) q (m'.at t).T (m'.at t).op (m'.at t).S (m'.at t).E (y2.setCell ⟨q.bb, 5, none⟩ (.int .i64 t))) := C2.out.now t
          have KS := hid (ksettleM C3.out MOK.out.st hb HR.out)
          go_wp2_with fail
          refine KS.out.mono ?_
          rintro e y3 ⟨rfl, hc3⟩
          have C4 := hid hc3
          have TT : (Cs.settle f (m'.at t)).T ≤ tq := by rw [settle_T]; show t ≤ tq; omega
          clear hc3 KS C3 C2
          generalize Cs.settle f (m'.at t) = m2 at *
          go_wp2
          go_roundw
          case rel => exact ⟨n + 1, m2, by omega, by go_num, TT, C4⟩
          case measure => simp [intOf]; omega
    · obtain rfl : n = 400 := by omega
      have R : Hid (SmP w0 QB b f Q p q (.returned (.bool true)) wr) := ⟨_, rfl, hc.out⟩
      go_wp2
      go_ret
      exact R.out

end Go.Proofs.YtmofidaojmiepaaDoor

/-
  THE WALKS: the book acks and closes.
-/
set_option linter.unusedVariables false
set_option linter.unusedSimpArgs false
namespace Go.Proofs.YtmofidaojmiepaaDoor
open Go.RowKit
attribute [local go_sem ↓] Go.wp_at_zero Go.wp_at_succ
set_option maxRecDepth 100000 in
set_option maxHeartbeats 4000000 in
theorem kacksB_any {w0 : World} {QB b : Nat} {f : Frm} {Q : Nat → Prop} {p : KPl} {m : Cs} {q : BPl} {w : World} (h : BM w0 QB b f Q p m q w) (c : Int) (hc : I64k c) :
    Calls Tryd.prog 63 #[.pointer (some ⟨q.bb, 0, none⟩), .int .i64 c] w fun e w' => SmP w0 QB b f Q p q e w' := by
  have H := hid h
  have hk := (CB.fok h).sizes.2.2.1
  obtain ⟨r0, _, _, _, _, _, r6, r7, zb, _⟩ := CB.cells h
  clear h
  by_cases h0 : f.k = 0
  · rw [h0] at r7
    have R : Hid (SmP w0 QB b f Q p q (.returned (.bool true)) w) := ⟨_, rfl, H.out⟩
    go_enter Tryd.func63, Tryd.ntmps63
    go_wp2
    go_ret
    exact R.out
  · have PK := hid (fun W => kpick_any c f.k W hc (by omega) (by omega))
    have bd := pickI_bd c (n := f.k) (by omega)
    obtain ⟨ix, hix⟩ := Int.eq_ofNat_of_zero_le bd.1
    rw [hix] at PK
    have ik : ix < f.k := by omega
    have dz : ((f.k : Int) == 0) = false := beq_eq_false_iff_ne.2 (by omega)
    clear bd hix
    go_enter Tryd.func63, Tryd.ntmps63
    go_wp2_with fail
    refine (PK.out _).mono ?_
    rintro e w' ⟨rfl, hw⟩
    rw [hw]
    clear hw w' PK
    have KA := hid (CB.on H.out (fun Z hz => c1ack hz ix))
    have tn : ((ix : Int)).toNat = ix := by omega
    cases ho : m.op
    · have N : Hid (ackNo f m ix = 10 ∧ ackM f m ix = m) := by
        have h1 : ackNo f m ix = 10 := by unfold ackNo; rw [if_pos ho]
        exact ⟨h1, by unfold ackM; rw [if_neg (by omega)]⟩
      have KC : Hid (Calls Tryd.prog 39 #[.pointer (some ⟨p.bp, 0, none⟩), .int .i64 ix] w fun e w' => e = .returned (.int .i64 10) ∧ BM w0 QB b f Q p m q w') := KA.out.mono (fun e w' g => ⟨by rw [g.1, N.out.1], by have h2 := g.2; rw [N.out.2] at h2; exact h2⟩)
      clear KA N H
      have HO := hid ho
      clear ho
      go_wp2_with fail
      refine KC.out.mono ?_
      rintro e y1 ⟨rfl, hc2⟩
      have C2 := hid hc2
      clear hc2 KC r0 r6 r7
      obtain ⟨r0, _, _, _, _, _, r6, r7, zb, _⟩ := CB.cells C2.out
      rw [HO.out] at r6
      have R : Hid (SmP w0 QB b f Q p q (.returned (.bool true)) y1) := ⟨_, rfl, C2.out⟩
      clear C2
      go_wp2
      go_ret
      exact R.out
    · have HO := hid ho
      by_cases hl : (m.S ix).lit = false ∨ (m.S ix).acked = true
      · have N : Hid (ackNo f m ix = 11 ∧ ackM f m ix = m) := by
          have h1 : ackNo f m ix = 11 := by unfold ackNo; rw [if_neg (by rw [ho]; simp), if_neg (by omega), tn, if_pos hl]
          exact ⟨h1, by unfold ackM; rw [if_neg (by omega)]⟩
        have KC : Hid (Calls Tryd.prog 39 #[.pointer (some ⟨p.bp, 0, none⟩), .int .i64 ix] w fun e w' => e = .returned (.int .i64 11) ∧ BM w0 QB b f Q p m q w') := KA.out.mono (fun e w' g => ⟨by rw [g.1, N.out.1], by have h2 := g.2; rw [N.out.2] at h2; exact h2⟩)
        clear KA N H ho
        have HL := hid hl
        clear hl
        go_wp2_with fail
        refine KC.out.mono ?_
        rintro e y1 ⟨rfl, hc2⟩
        have C2 := hid hc2
        clear hc2 KC r0 r6 r7
        obtain ⟨r0, _, _, _, _, _, r6, r7, zb, _⟩ := CB.cells C2.out
        obtain ⟨s0, _, _, s3, zs, _, _⟩ := CB.stas C2.out ik
        rw [HO.out] at r6
        have R : Hid (SmP w0 QB b f Q p q (.returned (.bool true)) y1) := ⟨_, rfl, C2.out⟩
        clear C2
        cases hli : (m.S ix).lit
        · rw [hli] at s0
          clear hli HL
          go_wp2
          go_ret
          exact R.out
        · have ha : (m.S ix).acked = true := by
            rcases HL.out with h | h
            · rw [hli] at h; cases h
            · exact h
          rw [hli] at s0
          rw [ha] at s3
          clear hli ha HL
          go_wp2
          go_ret
          exact R.out
      · have N : Hid (ackNo f m ix = 0 ∧ ackM f m ix = ⟨m.F, m.T, m.op, upd m.S ix ⟨(m.S ix).lit, (m.S ix).since, (m.S ix).level, true⟩, m.E⟩) := by
          have h1 : ackNo f m ix = 0 := by unfold ackNo; rw [if_neg (by rw [ho]; simp), if_neg (by omega), tn, if_neg hl]
          exact ⟨h1, by unfold ackM; rw [if_pos h1, tn]⟩
        have KC : Hid (Calls Tryd.prog 39 #[.pointer (some ⟨p.bp, 0, none⟩), .int .i64 ix] w fun e w' => e = .returned (.int .i64 0) ∧ CB w0 QB b f Q p (ackM f m ix) q m.T m.op m.S m.E w') := KA.out.mono (fun e w' g => ⟨by rw [g.1, N.out.1], g.2⟩)
        have hli : (m.S ix).lit = true := by cases h : (m.S ix).lit; exact absurd (Or.inl h) hl; rfl
        have ha : (m.S ix).acked = false := by cases h : (m.S ix).acked; rfl; exact absurd (Or.inr h) hl
        have HLI := hid hli
        have HA := hid ha
        clear KA H ho hl hli ha
        go_wp2_with fail
        refine KC.out.mono ?_
        rintro e y1 ⟨rfl, hc2⟩
        have C2 := hid hc2
        clear hc2 KC r0 r6 r7
        obtain ⟨r0, _, _, _, _, _, r6, r7, zb, _⟩ := CB.cells C2.out
        obtain ⟨s0, _, _, s3, zs, _, fz⟩ := CB.stas C2.out ik
        rw [HO.out] at r6
        rw [HLI.out] at s0
        rw [HA.out] at s3
        have R : Hid (SmP w0 QB b f Q p q (.returned (.bool true)) (y1.setCell ⟨q.gS, ix * 4 + 3, none⟩ (.bool true))) := by
          refine ⟨ackM f m ix, rfl, ?_⟩
          have h2 := C2.out.one (ix * 4 + 3) (.bool true) (fun j => stf_ack (S := m.S) (i := ix) (d := true) j)
          unfold BM
          rw [N.out.2] at h2 ⊢
          exact h2
        clear C2 N HLI HA
        go_wp2
        go_ret
        exact R.out

set_option maxRecDepth 100000 in
set_option maxHeartbeats 4000000 in
theorem kclosesB_any {w0 : World} {QB b : Nat} {f : Frm} {Q : Nat → Prop} {p : KPl} {m : Cs} {q : BPl} {w : World} (h : BM w0 QB b f Q p m q w) :
    Calls Tryd.prog 64 #[.pointer (some ⟨q.bb, 0, none⟩)] w fun e w' => SmP w0 QB b f Q p q e w' := by
  have H := hid h
  have hk := (CB.fok h).sizes.2.2.1
  obtain ⟨r0, _, _, _, _, _, r6, r7, zb, _⟩ := CB.cells h
  clear h
  have KA := hid (CB.on H.out (fun Z hz => c1close hz))
  cases ho : m.op
  · have N : Hid (closeNo m = 10 ∧ closeM f m = m) := ⟨by unfold closeNo; rw [if_pos ho], by unfold closeM; rw [if_pos ho]⟩
    have KC : Hid (Calls Tryd.prog 38 #[.pointer (some ⟨p.bp, 0, none⟩)] w fun e w' => e = .returned (.int .i64 10) ∧ BM w0 QB b f Q p m q w') := KA.out.mono (fun e w' g => ⟨by rw [g.1, N.out.1], by have h2 := g.2; rw [N.out.2] at h2; exact h2⟩)
    have HO := hid ho
    clear KA N H ho
    go_enter Tryd.func64, Tryd.ntmps64
    go_wp2_with fail
    refine KC.out.mono ?_
    rintro e y1 ⟨rfl, hc2⟩
    have C2 := hid hc2
    clear hc2 KC r0 r6 r7
    obtain ⟨r0, _, _, _, _, _, r6, r7, zb, _⟩ := CB.cells C2.out
    rw [HO.out] at r6
    have R : Hid (SmP w0 QB b f Q p q (.returned (.bool true)) y1) := ⟨_, rfl, C2.out⟩
    clear C2
    go_wp2
    go_ret
    exact R.out
  · have N : Hid (closeNo m = 0 ∧ closeM f m = ⟨m.F, m.T, false, fun i => if i < f.k then noSt else m.S i, m.E⟩) := ⟨by unfold closeNo; rw [if_neg (by rw [ho]; simp)], by unfold closeM; rw [if_neg (by rw [ho]; simp)]⟩
    have KC : Hid (Calls Tryd.prog 38 #[.pointer (some ⟨p.bp, 0, none⟩)] w fun e w' => e = .returned (.int .i64 0) ∧ CB w0 QB b f Q p (closeM f m) q m.T m.op m.S m.E w') := KA.out.mono (fun e w' g => ⟨by rw [g.1, N.out.1], g.2⟩)
    have HO := hid ho
    clear KA H ho
    go_enter Tryd.func64, Tryd.ntmps64
    go_wp2_with fail
    refine KC.out.mono ?_
    rintro e y1 ⟨rfl, hc2⟩
    have C2 := hid hc2
    clear hc2 KC r0 r6 r7
    obtain ⟨r0, _, _, _, _, _, r6, r7, zb, fz⟩ := CB.cells C2.out
    rw [HO.out] at r6
    have C3 := hid (C2.out.shut false)
    clear C2
    go_wp2_with fail
    generalize y1.setCell ⟨q.bb, 6, none⟩ (.bool false) = y2 at *
    clear r0 r6 r7 fz zb
    go_loopw [4] (fun t wr => ∃ (i : Nat) (S' : Nat → St), i ≤ f.k ∧ t = .int .i64 i ∧ Hid (∀ j, j < i → S' j = noSt) ∧ Hid (CB w0 QB b f Q p (closeM f m) q m.T false S' m.E wr)) (fun t _ => f.k - (intOf t).toNat)
    case atStart => exact ⟨0, m.S, by omega, rfl, fun j hj => by omega, C3⟩
    case round =>
      clear C3
      obtain ⟨i, S', i1, rfl, hs, hc⟩ := hrel
      obtain ⟨r0, _, _, _, _, _, r6, r7, zb, _⟩ := CB.cells hc.out
      by_cases hit : i < f.k
      · have lt' : (i : Int) < (f.k : Int) := by omega
        obtain ⟨s0, s1, s2, s3, zs, nn, fz⟩ := CB.stas hc.out hit
        have N1 := hid (hc.out.four i false 0 0 false)
        have N2 : Hid (∀ j, j < i + 1 → upd S' i ⟨false, 0, 0, false⟩ j = noSt) := fun j hj => by
          by_cases e : j = i
          · subst e; rw [upd_same]; rfl
          · rw [upd_other _ _ e]; exact hs.out j (by omega)
        clear hc hs
        go_wp2
        go_roundw
        case rel => exact ⟨i + 1, _, by omega, by go_num, N2, N1⟩
        case measure => simp [intOf]; omega
      · obtain rfl : i = f.k := by omega
        have R : Hid (SmP w0 QB b f Q p q (.returned (.bool true)) wr) := by
          refine ⟨closeM f m, rfl, ?_⟩
          have h2 := hc.out.congrS (S' := fun i => if i < f.k then noSt else m.S i) (fun j hj => by rw [hs.out j hj, if_pos hj])
          unfold BM
          rw [N.out.2] at h2 ⊢
          exact h2
        clear hc hs N
        go_wp2
        go_ret
        exact R.out

end Go.Proofs.YtmofidaojmiepaaDoor

/-
  THE WALKS: what the case tells is what the book holds.
-/
set_option linter.unusedVariables false
set_option linter.unusedSimpArgs false
namespace Go.Proofs.YtmofidaojmiepaaDoor
open Go.RowKit
attribute [local go_sem ↓] Go.wp_at_zero Go.wp_at_succ
set_option maxRecDepth 100000 in
set_option maxHeartbeats 4000000 in
theorem ksameStF_any {n ba gb cb : Nat} {S : Nat → St} {va : Value} {w : World} (ha : w.ownsRow ba 80 4 va n (stas4 S n)) (hb : FRow w gb 80 (n * 4) (stf S)) (hn : n ≤ 6) :
    Calls Tryd.prog 61 #[va, .slice (some ⟨gb, 0, none⟩) n cb] w fun e w' => TPost w e w' := by
  obtain ⟨aa, ca, rfl⟩ := own_len ha
  have HA := hid ha
  have HB := hid hb
  clear ha hb
  go_enter Tryd.func61, Tryd.ntmps61
  go_wp2
  have hm := gSt
  go_loopw [5] (fun t wr => ∃ i : Nat, i ≤ n ∧ t = .int .i64 i ∧ Hid (Below w.heap.size w wr)) (fun t _ => n - (intOf t).toNat)
  case atStart => exact ⟨0, by omega, rfl, Below.refl _ _⟩
  case round =>
    obtain ⟨i, i1, rfl, hb⟩ := hrel
    by_cases hit : i < n
    · have lt' : (i : Int) < (n : Int) := by omega
      obtain ⟨ga, ca', e1, za, x⟩ := own_cell (own_of_block HA.out (w' := wr) (fun g _ hlt => hb.out.block g hlt)) (by omega)
      have FB := HB.out.of_block (hb.out.block _ HB.out.lt)
      have zb := FB.lt
      simp at e1
      obtain ⟨rfl, rfl⟩ := e1
      have at' : ∀ j, j < n * 4 → (stas4 S n)[j]? = some (stf S j) := fun j hj => by simp [stas4, hj]
      have x0 := x (i * 4) (by omega)
      have x1 := x (i * 4 + 1) (by omega)
      have x2 := x (i * 4 + 2) (by omega)
      have x3 := x (i * 4 + 3) (by omega)
      have y0 := FB.cell (i := i * 4) (by omega)
      have y1 := FB.cell (i := i * 4 + 1) (by omega)
      have y2 := FB.cell (i := i * 4 + 2) (by omega)
      have y3 := FB.cell (i := i * 4 + 3) (by omega)
      rw [at' _ (by omega)] at x0 x1 x2 x3
      rw [stf0] at x0 y0
      rw [stf1] at x1 y1
      rw [stf2] at x2 y2
      rw [stf3] at x3 y3
      clear x FB at'
      generalize S i = st at *
      go_wp2
      go_region
      go_wp2
      go_roundw
      case rel => exact ⟨i + 1, by omega, by go_num, hb.out.drew⟩
      case measure => simp [intOf]; omega
    · have R : Hid (TPost w (.returned (.bool true)) wr) := ⟨rfl, hb.out⟩
      go_wp2
      go_ret
      exact R.out

/-- A look in a box. -/
structure LkBox (W : World) (f : Frm) (m : Cs) (bx : Nat) (a2 a3 : Option Addr) (c2 c3 : Nat) (X : World) : Prop where
  bel : Below W.heap.size W X
  low : W.heap.size ≤ bx
  lt : bx < X.heap.size
  c0 : X.cell? ⟨bx, 0, none⟩ = some (.int .i64 m.T)
  d2 : X.cell? ⟨bx, 2, none⟩ = some (.slice a2 f.k c2)
  d3 : X.cell? ⟨bx, 3, none⟩ = some (.slice a3 m.E.length c3)
  d4 : X.cell? ⟨bx, 4, none⟩ = some (.bool true)
  o2 : X.ownsRow 0 80 4 (.slice a2 f.k c2) f.k (stas4 m.S f.k)
  o3 : X.ownsRow 0 101 3 (.slice a3 m.E.length c3) m.E.length (evs m.E)

theorem own_zero {w : World} {B t s n : Nat} {v : Value} {xs : List Value} (h : w.ownsRow B t s v n xs) : w.ownsRow 0 t s v n xs := by
  refine ⟨h.1, ?_⟩
  rcases h.2 with h | ⟨g, cap, cur, h1, _, h2⟩
  · exact Or.inl h
  · exact Or.inr ⟨g, cap, cur, h1, Nat.zero_le _, h2⟩
theorem own_ge {w : World} {B t s n : Nat} {v : Value} {xs : List Value} (h : w.ownsRow B t s v n xs) {j : Nat} (hj : j < B) : v.ownBlock ≠ some j := fun e => by
  rcases h.2 with h | ⟨g, cap, cur, h1, h2, _⟩
  · rw [h.1] at e; cases e
  · rw [h1] at e
    have : g = j := Option.some.inj e
    omega

theorem lkA {W w5 : World} {f : Frm} {m : Cs} {B : Nat} {a1 a2 a3 : Option Addr} {c1 c2 c3 : Nat} (hb : Below W.heap.size W.drew w5)
    (h2 : w5.ownsRow B 80 4 (.slice a2 f.k c2) f.k (stas4 m.S f.k)) (h3 : w5.ownsRow B 101 3 (.slice a3 m.E.length c3) m.E.length (evs m.E)) :
    LkBox W f m w5.heap.size a2 a3 c2 c3 (w5.alloc (.cells #[.int .i64 m.T, .slice a1 f.n c1, .slice a2 f.k c2, .slice a3 m.E.length c3, .bool true] 46)) := by
  have hb' : Below W.heap.size W w5 := ⟨hb.os, hb.tape, hb.output, hb.size, hb.block⟩
  have BX := Below.refl (w5.heap.size + 1) (w5.alloc (.cells #[.int .i64 m.T, .slice a1 f.n c1, .slice a2 f.k c2, .slice a3 m.E.length c3, .bool true] 46))
  have hk := boxed_below BX
  exact ⟨hb'.alloc hb'.size _, hb'.size, by simp, boxed BX 0, boxed BX 2, boxed BX 3, boxed BX 4, own_zero (own_of_block h2 (fun g _ hl => hk.block g hl)), own_zero (own_of_block h3 (fun g _ hl => hk.block g hl))⟩

theorem lkB {W w5 : World} {f : Frm} {m : Cs} {a1 a2 a3 : Option Addr} {c1 c2 c3 : Nat} (hb : Below ((W.alloc (.cells #[.int .i64 0, .slice none 0 0, .slice none 0 0, .slice none 0 0, .bool false] 46)).drew).heap.size ((W.alloc (.cells #[.int .i64 0, .slice none 0 0, .slice none 0 0, .slice none 0 0, .bool false] 46)).drew) w5)
    (h2 : w5.ownsRow ((W.alloc (.cells #[.int .i64 0, .slice none 0 0, .slice none 0 0, .slice none 0 0, .bool false] 46)).drew).heap.size 80 4 (.slice a2 f.k c2) f.k (stas4 m.S f.k)) (h3 : w5.ownsRow ((W.alloc (.cells #[.int .i64 0, .slice none 0 0, .slice none 0 0, .slice none 0 0, .bool false] 46)).drew).heap.size 101 3 (.slice a3 m.E.length c3) m.E.length (evs m.E)) :
    LkBox W f m W.heap.size a2 a3 c2 c3 (((((w5.setCell ⟨W.heap.size, 0, none⟩ (.int .i64 m.T)).setCell ⟨W.heap.size, 1, none⟩ (.slice a1 f.n c1)).setCell ⟨W.heap.size, 2, none⟩ (.slice a2 f.k c2)).setCell ⟨W.heap.size, 3, none⟩ (.slice a3 m.E.length c3)).setCell ⟨W.heap.size, 4, none⟩ (.bool true)) := by
  have h0 : (W.alloc (.cells #[.int .i64 0, .slice none 0 0, .slice none 0 0, .slice none 0 0, .bool false] 46)).rowIs W.heap.size 46 5 (lkf 0 (.slice none 0 0) (.slice none 0 0) (.slice none 0 0) false) := World.rowIs_alloc W _ 46 _ (fun i hi => by
    have hi' : i = 0 ∨ i = 1 ∨ i = 2 ∨ i = 3 ∨ i = 4 := by simp at hi; omega
    rcases hi' with rfl | rfl | rfl | rfl | rfl <;> rfl)
  have h1 : w5.rowIs W.heap.size 46 5 _ := h0.drew.of_block (hb.block _ h0.lt)
  have hb' : Below W.heap.size W w5 := (((Below.refl _ _).alloc (Nat.le_refl _) _).drew).trans (hb.mono (by simp))
  have hr := ((((h1.set 0 (.int .i64 m.T)).set 1 (.slice a1 f.n c1)).set 2 (.slice a2 f.k c2)).set 3 (.slice a3 m.E.length c3)).set 4 (.bool true)
  have n2 := own_ge h2 (j := W.heap.size) (by simp)
  have n3 := own_ge h3 (j := W.heap.size) (by simp)
  refine ⟨((((hb'.setCell (Nat.le_refl _) _).setCell (Nat.le_refl _) _).setCell (Nat.le_refl _) _).setCell (Nat.le_refl _) _).setCell (Nat.le_refl _) _, Nat.le_refl _, hr.lt, hr.cell (i := 0) (by omega), hr.cell (i := 2) (by omega), hr.cell (i := 3) (by omega), hr.cell (i := 4) (by omega), ?_, ?_⟩
  · exact own_zero (ownsRow_setCell_other (ownsRow_setCell_other (ownsRow_setCell_other (ownsRow_setCell_other (ownsRow_setCell_other h2 n2 _) n2 _) n2 _) n2 _) n2 _)
  · exact own_zero (ownsRow_setCell_other (ownsRow_setCell_other (ownsRow_setCell_other (ownsRow_setCell_other (ownsRow_setCell_other h3 n3 _) n3 _) n3 _) n3 _) n3 _)

theorem CB.lists {w0 : World} {QB b : Nat} {f : Frm} {Q : Nat → Prop} {p : KPl} {m : Cs} {q : BPl} {T : Int} {op : Bool} {S : Nat → St} {E : List Ev} {w : World} (h : CB w0 QB b f Q p m q T op S E w) : ∃ aE cE, w.cell? ⟨q.bb, 8, none⟩ = some (.slice aE E.length cE) ∧ w.ownsRow 0 101 3 (.slice aE E.length cE) E.length (evs E) ∧ FRow w q.gS 80 (f.k * 4) (stf S) := by
  obtain ⟨Z, vE, _, hb, _⟩ := h
  have h8 := hb.row.cell (i := 8) (by omega)
  have ev := hb.ev
  obtain ⟨aE, cE, rfl⟩ := own_len ev
  exact ⟨aE, cE, h8, ev, hb.sta⟩

theorem lo_refl (W : World) : Lo W W := ⟨Nat.le_refl _, fun _ _ _ => rfl⟩
theorem lo_set5 {W w5 : World} (h : Lo W w5) (v0 v1 v2 v3 v4 : Value) : Lo W (((((w5.setCell ⟨W.heap.size, 0, none⟩ v0).setCell ⟨W.heap.size, 1, none⟩ v1).setCell ⟨W.heap.size, 2, none⟩ v2).setCell ⟨W.heap.size, 3, none⟩ v3).setCell ⟨W.heap.size, 4, none⟩ v4) :=
  ((((h.set (Nat.le_refl _) _).set (Nat.le_refl _) _).set (Nat.le_refl _) _).set (Nat.le_refl _) _).set (Nat.le_refl _) _
theorem five {W w' : World} {b1 : Nat} {v0 v1 v2 v3 v4 : Value} (x0 : W.cell? ⟨b1, 0, none⟩ = some v0) (x1 : W.cell? ⟨b1, 1, none⟩ = some v1) (x2 : W.cell? ⟨b1, 2, none⟩ = some v2) (x3 : W.cell? ⟨b1, 3, none⟩ = some v3) (x4 : W.cell? ⟨b1, 4, none⟩ = some v4) (z1 : b1 < W.heap.size) (h : Lo W w') :
    Lo W w' ∧ w'.cell? ⟨b1, 0, none⟩ = some v0 ∧ w'.cell? ⟨b1, 1, none⟩ = some v1 ∧ w'.cell? ⟨b1, 2, none⟩ = some v2 ∧ w'.cell? ⟨b1, 3, none⟩ = some v3 ∧ w'.cell? ⟨b1, 4, none⟩ = some v4 :=
  ⟨h, (h.2 _ _ z1).trans x0, (h.2 _ _ z1).trans x1, (h.2 _ _ z1).trans x2, (h.2 _ _ z1).trans x3, (h.2 _ _ z1).trans x4⟩

theorem lk_cells {w w5 : World} (hb : Below ((w.alloc (.cells #[.int .i64 0, .slice none 0 0, .slice none 0 0, .slice none 0 0, .bool false] 46)).drew).heap.size ((w.alloc (.cells #[.int .i64 0, .slice none 0 0, .slice none 0 0, .slice none 0 0, .bool false] 46)).drew) w5) : (∀ j, w5.frozen? ⟨w.heap.size, j, none⟩ = false) ∧ w5.cell? ⟨w.heap.size, 0, none⟩ = some (.int .i64 0) ∧ w5.cell? ⟨w.heap.size, 1, none⟩ = some (.slice none 0 0) ∧ w5.cell? ⟨w.heap.size, 2, none⟩ = some (.slice none 0 0) ∧ w5.cell? ⟨w.heap.size, 3, none⟩ = some (.slice none 0 0) ∧ w5.cell? ⟨w.heap.size, 4, none⟩ = some (.bool false) := by
  have h0 : (w.alloc (.cells #[.int .i64 0, .slice none 0 0, .slice none 0 0, .slice none 0 0, .bool false] 46)).rowIs w.heap.size 46 5 (lkf 0 (.slice none 0 0) (.slice none 0 0) (.slice none 0 0) false) := World.rowIs_alloc w _ 46 _ (fun i hi => by
    have hi' : i = 0 ∨ i = 1 ∨ i = 2 ∨ i = 3 ∨ i = 4 := by simp at hi; omega
    rcases hi' with rfl | rfl | rfl | rfl | rfl <;> rfl)
  have h1 : w5.rowIs w.heap.size 46 5 _ := h0.drew.of_block (hb.block _ h0.lt)
  exact ⟨fun j => h1.frozen j, h1.cell (i := 0) (by omega), h1.cell (i := 1) (by omega), h1.cell (i := 2) (by omega), h1.cell (i := 3) (by omega), h1.cell (i := 4) (by omega)⟩

set_option maxRecDepth 100000 in
set_option maxHeartbeats 4000000 in
theorem ktoldB_any {w0 : World} {QB b : Nat} {f : Frm} {Q : Nat → Prop} {p : KPl} {m : Cs} {q : BPl} {w : World} (h : BM w0 QB b f Q p m q w) (hb : b ≤ 10000000000) (hfv : FAt w0 f (.agg #[.slice q.aC f.n q.cC, .slice q.aR f.k q.cR, .int .i64 f.week, .slice q.aH f.hol.length q.cH])) :
    Calls Tryd.prog 26 #[.pointer (some ⟨q.bb, 0, none⟩)] w fun e w' => TPost w e w' := by
  have H := hid h
  obtain ⟨n1, n20, k6, _, _⟩ := (CB.fok h).sizes
  have hl := CB.len h hb
  obtain ⟨r0, r1, r2, r3, r4, r5, r6, r7, zb, _⟩ := CB.cells h
  obtain ⟨aE, cE, r8, _, _⟩ := CB.lists h
  have LK : Hid (∀ W, Below w.heap.size w W → Calls Tryd.prog 23 #[.pointer (some ⟨p.bp, 0, none⟩), (.agg #[.slice q.aC f.n q.cC, .slice q.aR f.k q.cR, .int .i64 f.week, .slice q.aH f.hol.length q.cH])] W fun e w' => LoP f m W e w') := fun W hW => CB.ask (CB.keep h hW) (fun Z hz => c1look hz hb ((hfv.below (CB.below h)).below hW))
  clear h
  go_enter Tryd.func26, Tryd.ntmps26
  go_wp2_with fail
  go_region_held3 (fun w' => Lo w w' ∧ w'.cell? ⟨q.bb, 0, none⟩ = some (.pointer (some ⟨p.bp, 0, none⟩)) ∧ w'.cell? ⟨q.bb, 1, none⟩ = some (.slice q.aC f.n q.cC) ∧ w'.cell? ⟨q.bb, 2, none⟩ = some (.slice q.aR f.k q.cR) ∧ w'.cell? ⟨q.bb, 3, none⟩ = some (.int .i64 f.week) ∧ w'.cell? ⟨q.bb, 4, none⟩ = some (.slice q.aH f.hol.length q.cH))
    ((refine five r0 r1 r2 r3 r4 zb ?_; first | with_reducible exact Lo.drew0 w | with_reducible exact LW | with_reducible exact Lo.alloc LW _ | with_reducible exact Lo.drewM (Lo.alloc (lo_refl w) _) | with_reducible exact lo_set5 LW _ _ _ _ _))
    ((go_at_call 23; refine (LK.out _ (by repeat' (first | exact Below.refl _ _ | refine Below.drew ?_ | refine Below.alloc ?_ (by first | exact Nat.le_refl _ | (simp; done) | (simp; omega)) _))).mono ?_; rintro e w5 ⟨vx, rfl, l5, hb5⟩; have LW : Lo w w5 := (by first | with_reducible exact Lo.below (Lo.drew0 w) hb5 | with_reducible exact Lo.below (Lo.drewM (Lo.alloc (lo_refl w) _)) hb5); obtain ⟨vV, vS, vL, rfl, q1, q2, q3⟩ := l5.ex; clear l5; obtain ⟨va1, vc1, rfl⟩ := own_len q1; obtain ⟨va2, vc2, rfl⟩ := own_len q2; obtain ⟨va3, vc3, rfl⟩ := own_len q3; clear q1; have Q2 := hid q2; have Q3 := hid q3; clear q2 q3; try (have fzc := lk_cells (w := w) hb5; obtain ⟨fz5, fc0, fc1, fc2, fc3, fc4⟩ := fzc)))
  all_goals (first
    | (have BX := hid (lkA (W := w) (m := m) (a1 := va1) (c1 := vc1) hb5 Q2.out Q3.out)
       generalize (w5.alloc (.cells #[.int .i64 m.T, .slice va1 f.n vc1, .slice va2 f.k vc2, .slice va3 m.E.length vc3, .bool true] 46)) = X at *
       have HBX : ∃ b, b = w5.heap.size := ⟨_, rfl⟩
       obtain ⟨bx, hbx⟩ := HBX
       rw [← hbx]
       rw [← hbx] at BX
       clear hbx)
    | (have BX := hid (lkB (W := w) (m := m) (a1 := va1) (c1 := vc1) hb5 Q2.out Q3.out)
       generalize (((((w5.setCell ⟨w.heap.size, 0, none⟩ (.int .i64 m.T)).setCell ⟨w.heap.size, 1, none⟩ (.slice va1 f.n vc1)).setCell ⟨w.heap.size, 2, none⟩ (.slice va2 f.k vc2)).setCell ⟨w.heap.size, 3, none⟩ (.slice va3 m.E.length vc3)).setCell ⟨w.heap.size, 4, none⟩ (.bool true)) = X at *
       have HBX : ∃ b, Hid (b = w.heap.size) := ⟨_, rfl⟩
       obtain ⟨bx, hbx⟩ := HBX
       rw [← hbx.out]
       have BX2 : Hid (LkBox w f m bx va2 va3 vc2 vc3 X) := by show LkBox _ _ _ _ _ _ _ _ _; rw [hbx.out]; exact BX.out
       clear BX hbx
       have BX := BX2
       clear BX2))
  all_goals (
    clear hb5 LW r0 r1 r2 r3 r4 r5 r6 r7 r8 LK Q2 Q3
    try clear fz5 fc0 fc1 fc2 fc3 fc4
    have H2 := hid (CB.keep H.out BX.out.bel)
    have B2 := hid BX.out.bel
    have d0 := BX.out.c0
    have d2 := BX.out.d2
    have d3 := BX.out.d3
    have d4 := BX.out.d4
    have zx := BX.out.lt
    obtain ⟨r0, _, _, _, _, r5, r6, r7, zb, _⟩ := CB.cells H2.out
    obtain ⟨aE, cE, r8, ev, fr⟩ := CB.lists H2.out
    have SS : Hid (∀ W, Below X.heap.size X W → Calls Tryd.prog 61 #[.slice va2 f.k vc2, .slice (some ⟨q.gS, 0, none⟩) f.k q.cS] W fun e w' => e = .returned (.bool true) ∧ Below X.heap.size X w') := fun W hW => (ksameStF_any (own_of_block BX.out.o2 (w' := W) (fun g _ hlt => hW.block g hlt)) (fr.of_block (hW.block _ fr.lt)) k6).mono (fun e w' g => ⟨g.1, hW.trans (g.2.mono hW.size)⟩)
    have SE : Hid (∀ W, Below X.heap.size X W → Calls Tryd.prog 40 #[.slice va3 m.E.length vc3, .slice aE m.E.length cE] W fun e w' => TPost W e w') := fun W hW => ksameEv_any (own_of_block BX.out.o3 (w' := W) (fun g _ hlt => hW.block g hlt)) (own_of_block ev (w' := W) (fun g _ hlt => hW.block g hlt)) (by omega)
    clear ev fr BX H2 H
    go_upto_region 2 with (fail)
    go_region_held3 (fun w' => w'.cell? ⟨bx, 2, none⟩ = some (.slice va2 f.k vc2) ∧ w'.cell? ⟨q.bb, 7, none⟩ = some (.slice (some ⟨q.gS, 0, none⟩) f.k q.cS))
      (refine ⟨?_, ?_⟩ <;> assumption)
      ((go_at_call 61; refine (SS.out _ (Below.refl _ _).drew).mono ?_; rintro e w6 ⟨rfl, hb6⟩; have k0 : w6.cell? ⟨bx, 2, none⟩ = some (.slice va2 f.k vc2) := (hb6.cell (p := ⟨bx, 2, none⟩) zx).trans d2; have k1 : w6.cell? ⟨q.bb, 7, none⟩ = some (.slice (some ⟨q.gS, 0, none⟩) f.k q.cS) := (hb6.cell (p := ⟨q.bb, 7, none⟩) zb).trans r7)))
  all_goals (
    have B6 : Hid (Below X.heap.size X w6) := ⟨hb6.os, hb6.tape, hb6.output, hb6.size, hb6.block⟩
    clear k0 k1 hb6 SS r0 r6 r7 d2
    have d0 := (B6.out.cell (p := ⟨bx, 0, none⟩) zx).trans d0
    have d3 := (B6.out.cell (p := ⟨bx, 3, none⟩) zx).trans d3
    have d4 := (B6.out.cell (p := ⟨bx, 4, none⟩) zx).trans d4
    have r5 := (B6.out.cell (p := ⟨q.bb, 5, none⟩) zb).trans r5
    have r8 := (B6.out.cell (p := ⟨q.bb, 8, none⟩) zb).trans r8
    have B3 := hid (B2.out.trans (B6.out.mono B2.out.size))
    have zx : bx < w6.heap.size := by have := B6.out.size; omega
    have zb : q.bb < w6.heap.size := by have := B6.out.size; omega
    have SE : Hid (∀ W, Below w6.heap.size w6 W → Calls Tryd.prog 40 #[.slice va3 m.E.length vc3, .slice aE m.E.length cE] W fun e w' => e = .returned (.bool true) ∧ Below w6.heap.size w6 w') := fun W hW => (SE.out W (B6.out.trans (hW.mono B6.out.size))).mono (fun e w' g => ⟨g.1, hW.trans (g.2.mono hW.size)⟩)
    clear B2
    go_upto_region 3 with (fail)
    go_region_held3 (fun w' => w'.cell? ⟨bx, 3, none⟩ = some (.slice va3 m.E.length vc3) ∧ w'.cell? ⟨q.bb, 8, none⟩ = some (.slice aE m.E.length cE))
      (refine ⟨?_, ?_⟩ <;> assumption)
      ((go_at_call 40; refine (SE.out _ (Below.refl _ _).drew).mono ?_; rintro e w7 ⟨rfl, hb7⟩; have k0 : w7.cell? ⟨bx, 3, none⟩ = some (.slice va3 m.E.length vc3) := (hb7.cell (p := ⟨bx, 3, none⟩) zx).trans d3; have k1 : w7.cell? ⟨q.bb, 8, none⟩ = some (.slice aE m.E.length cE) := (hb7.cell (p := ⟨q.bb, 8, none⟩) zb).trans r8)))
  all_goals (
    have B7 : Hid (Below w6.heap.size w6 w7) := ⟨hb7.os, hb7.tape, hb7.output, hb7.size, hb7.block⟩
    clear k0 k1 hb7 SE r8 d3
    have d0 := (B7.out.cell (p := ⟨bx, 0, none⟩) zx).trans d0
    have d4 := (B7.out.cell (p := ⟨bx, 4, none⟩) zx).trans d4
    have r5 := (B7.out.cell (p := ⟨q.bb, 5, none⟩) zb).trans r5
    have B4 := hid (B3.out.trans (B7.out.mono B3.out.size))
    have R : Hid (∀ nq, TPost w (.returned (.bool true)) (w7.drewN nq)) := fun nq => ⟨rfl, below_drewN B4.out nq⟩
    clear B3 B4
    go_upto_region 4 with (fail)
    go_quiet (fail)
    go_wp2
    go_ret
    exact R.out _)

end Go.Proofs.YtmofidaojmiepaaDoor

/-
  THE WALKS: a step of the book.
-/
set_option linter.unusedVariables false
set_option linter.unusedSimpArgs false
namespace Go.Proofs.YtmofidaojmiepaaDoor
open Go.RowKit
attribute [local go_sem ↓] Go.wp_at_zero Go.wp_at_succ

theorem SmP.up {w0 : World} {QB b b2 : Nat} {f : Frm} {Q : Nat → Prop} {p : KPl} {q : BPl} {e : Ending} {w' : World} (h : SmP w0 QB b f Q p q e w') (hb : b ≤ b2) : SmP w0 QB b2 f Q p q e w' := by
  obtain ⟨m', h1, h2⟩ := h
  exact ⟨m', h1, CB.up h2 hb⟩

set_option maxRecDepth 100000 in
set_option maxHeartbeats 4000000 in
theorem kstepB_any {w0 : World} {QB b : Nat} {f : Frm} {Q : Nat → Prop} {p : KPl} {m : Cs} {q : BPl} {w : World} (h : BM w0 QB b f Q p m q w) (hb : b ≤ 9000000000) (hR : RAt w0 q.aR f.k f.R) (hfv : FAt w0 f (.agg #[.slice q.aC f.n q.cC, .slice q.aR f.k q.cR, .int .i64 f.week, .slice q.aH f.hol.length q.cH])) (kd a b' : Int) (h0 : I64k kd) (h1 : I64k a) (h2 : I64k b') :
    Calls Tryd.prog 27 #[.pointer (some ⟨q.bb, 0, none⟩), .agg #[.int .i64 kd, .int .i64 a, .int .i64 b']] w fun e w' => SmP w0 QB (b + 1) f Q p q e w' := by
  have PK4 := hid (fun W => kpick_any kd 4 W h0 (by omega) (by omega))
  have b4 := pickI_bd kd (n := 4) (by omega)
  have HR := hid hR
  have HFV := hid hfv
  have hn := (CB.fok h).sizes.2.1
  have T0 := (CB.mok h).t0
  have T1 := (CB.mok h).t1
  have BX := hid (Below.refl (w.heap.size + 1) (w.alloc (.cells #[.int .i64 kd, .int .i64 a, .int .i64 b'] 34)))
  have H1 : Hid (BM w0 QB b f Q p m q (w.alloc (.cells #[.int .i64 kd, .int .i64 a, .int .i64 b'] 34))) := CB.keep h (boxed_below BX.out)
  have s0 : (w.alloc (.cells #[.int .i64 kd, .int .i64 a, .int .i64 b'] 34)).cell? ⟨w.heap.size, 0, none⟩ = some (.int .i64 kd) := boxed BX.out 0
  have s1 : (w.alloc (.cells #[.int .i64 kd, .int .i64 a, .int .i64 b'] 34)).cell? ⟨w.heap.size, 1, none⟩ = some (.int .i64 a) := boxed BX.out 1
  have s2 : (w.alloc (.cells #[.int .i64 kd, .int .i64 a, .int .i64 b'] 34)).cell? ⟨w.heap.size, 2, none⟩ = some (.int .i64 b') := boxed BX.out 2
  have zs : w.heap.size < (w.alloc (.cells #[.int .i64 kd, .int .i64 a, .int .i64 b'] 34)).heap.size := by simp
  clear h BX hR hfv
  have cs : pickI kd 4 = 0 ∨ pickI kd 4 = 1 ∨ pickI kd 4 = 2 ∨ pickI kd 4 = 3 := by omega
  rcases cs with e | e | e | e
  · rw [e] at PK4
    clear e b4
    go_enter Tryd.func27, Tryd.ntmps27
    go_upto_region 1 with (fail)
    generalize w.alloc (.cells #[.int .i64 kd, .int .i64 a, .int .i64 b'] 34) = W at *
    generalize w.heap.size = gs at *
    obtain ⟨r0, r1, r2, r3, r4, r5, r6, r7, zb, _⟩ := CB.cells H1.out
    go_wp2_with fail
    refine (PK4.out _).mono ?_
    rintro e w' ⟨rfl, hw⟩
    rw [hw]
    clear hw w' PK4
    rcases setsK_ok f a b' with ⟨e1, e2⟩ | ⟨j, e1, e2, e3, e4⟩
    · have EK := hid e1
      have EV := hid e2
      clear e1 e2
      have SE : Hid (∀ W', Below W.heap.size W W' → Calls Tryd.prog 17 #[(.agg #[.slice q.aC f.n q.cC, .slice q.aR f.k q.cR, .int .i64 f.week, .slice q.aH f.hol.length q.cH]), .agg #[.int .i64 kd, .int .i64 a, .int .i64 b']] W' fun e w' => e = .returned (.tuple #[.int .i64 (-1), .int .i64 0]) ∧ Below W.heap.size W w') := fun W' hW => (ksets_any hn ((HFV.out.below (CB.below H1.out)).below hW) kd a b' h1 h2).mono (fun e w' g => ⟨by rw [g.1, EK.out, EV.out], hW.trans (g.2.mono hW.size)⟩)
      go_wp2_with fail
      go_region_held3 (fun w' => w'.cell? ⟨q.bb, 1, none⟩ = some (.slice q.aC f.n q.cC) ∧ w'.cell? ⟨q.bb, 2, none⟩ = some (.slice q.aR f.k q.cR) ∧ w'.cell? ⟨q.bb, 3, none⟩ = some (.int .i64 f.week) ∧ w'.cell? ⟨q.bb, 4, none⟩ = some (.slice q.aH f.hol.length q.cH) ∧ w'.cell? ⟨gs, 0, none⟩ = some (.int .i64 kd) ∧ w'.cell? ⟨gs, 1, none⟩ = some (.int .i64 a) ∧ w'.cell? ⟨gs, 2, none⟩ = some (.int .i64 b'))
        (refine ⟨?_, ?_, ?_, ?_, ?_, ?_, ?_⟩ <;> assumption)
        ((go_at_call 17; refine (SE.out _ (Below.refl _ _).drew).mono ?_; rintro e w5 ⟨rfl, hb5⟩; have k1 := (hb5.cell (p := ⟨q.bb, 1, none⟩) zb).trans r1; have k2 := (hb5.cell (p := ⟨q.bb, 2, none⟩) zb).trans r2; have k3 := (hb5.cell (p := ⟨q.bb, 3, none⟩) zb).trans r3; have k4 := (hb5.cell (p := ⟨q.bb, 4, none⟩) zb).trans r4; have k5 := (hb5.cell (p := ⟨gs, 0, none⟩) zs).trans s0; have k6 := (hb5.cell (p := ⟨gs, 1, none⟩) zs).trans s1; have k7 := (hb5.cell (p := ⟨gs, 2, none⟩) zs).trans s2))
      all_goals (
        have H5 : Hid (BM w0 QB b f Q p m q w5) := CB.keep H1.out ⟨hb5.os, hb5.tape, hb5.output, hb5.size, hb5.block⟩
        have R : Hid (SmP w0 QB (b + 1) f Q p q (.returned (.bool true)) w5) := ⟨m, rfl, CB.up H5.out (by omega)⟩
        clear k1 k2 k3 k4 k5 k6 k7 hb5 H5 SE H1
        go_wp2
        go_ret
        exact R.out)
    · obtain ⟨sv, hsv⟩ : ∃ sv, setsV f b' = sv := ⟨_, rfl⟩
      rw [hsv] at e4
      have EK := hid e1
      have EV := hid hsv
      have E2 := hid e2
      have E3 := hid e3
      have E4 := hid e4
      have j0 : (0 : Int) ≤ (j : Int) := by omega
      clear e1 e2 e3 e4 hsv
      have SE : Hid (∀ W', Below W.heap.size W W' → Calls Tryd.prog 17 #[(.agg #[.slice q.aC f.n q.cC, .slice q.aR f.k q.cR, .int .i64 f.week, .slice q.aH f.hol.length q.cH]), .agg #[.int .i64 kd, .int .i64 a, .int .i64 b']] W' fun e w' => e = .returned (.tuple #[.int .i64 j, .int .i64 sv]) ∧ Below W.heap.size W w') := fun W' hW => (ksets_any hn ((HFV.out.below (CB.below H1.out)).below hW) kd a b' h1 h2).mono (fun e w' g => ⟨by rw [g.1, EK.out, EV.out], hW.trans (g.2.mono hW.size)⟩)
      go_wp2_with fail
      go_region_held3 (fun w' => w'.cell? ⟨q.bb, 1, none⟩ = some (.slice q.aC f.n q.cC) ∧ w'.cell? ⟨q.bb, 2, none⟩ = some (.slice q.aR f.k q.cR) ∧ w'.cell? ⟨q.bb, 3, none⟩ = some (.int .i64 f.week) ∧ w'.cell? ⟨q.bb, 4, none⟩ = some (.slice q.aH f.hol.length q.cH) ∧ w'.cell? ⟨gs, 0, none⟩ = some (.int .i64 kd) ∧ w'.cell? ⟨gs, 1, none⟩ = some (.int .i64 a) ∧ w'.cell? ⟨gs, 2, none⟩ = some (.int .i64 b'))
        (refine ⟨?_, ?_, ?_, ?_, ?_, ?_, ?_⟩ <;> assumption)
        ((go_at_call 17; refine (SE.out _ (Below.refl _ _).drew).mono ?_; rintro e w5 ⟨rfl, hb5⟩; have k1 := (hb5.cell (p := ⟨q.bb, 1, none⟩) zb).trans r1; have k2 := (hb5.cell (p := ⟨q.bb, 2, none⟩) zb).trans r2; have k3 := (hb5.cell (p := ⟨q.bb, 3, none⟩) zb).trans r3; have k4 := (hb5.cell (p := ⟨q.bb, 4, none⟩) zb).trans r4; have k5 := (hb5.cell (p := ⟨gs, 0, none⟩) zs).trans s0; have k6 := (hb5.cell (p := ⟨gs, 1, none⟩) zs).trans s1; have k7 := (hb5.cell (p := ⟨gs, 2, none⟩) zs).trans s2))
      all_goals (
        have H5 : Hid (BM w0 QB b f Q p m q w5) := CB.keep H1.out ⟨hb5.os, hb5.tape, hb5.output, hb5.size, hb5.block⟩
        clear k1 k2 k3 k4 k5 k6 k7 hb5 SE H1 r0 r1 r2 r3 r4 r5 r6 r7 s0 s1 s2
        obtain ⟨r0, _, _, _, _, r5, r6, _, zb, _⟩ := CB.cells H5.out
        have KA := hid (CB.on H5.out (fun Z hz => c1set hz (by omega) j sv))
        cases ho : m.op
        · have N : Hid (setNo f m j sv = 10 ∧ setM f m j sv = m) := by
            have h1 : setNo f m j sv = 10 := by unfold setNo; rw [if_pos ho]
            exact ⟨h1, by unfold setM; rw [if_neg (by omega)]⟩
          have KC : Hid (Calls Tryd.prog 18 #[.pointer (some ⟨p.bp, 0, none⟩), .int .i64 j, .int .i64 sv] w5 fun e w' => e = .returned (.int .i64 10) ∧ BM w0 QB (b + 1) f Q p m q w') := KA.out.mono (fun e w' g => ⟨by rw [g.1, N.out.1], by have h2 := g.2; rw [N.out.2] at h2; exact h2⟩)
          have HO := hid ho
          clear KA N H5 ho
          go_wp2_with fail
          refine KC.out.mono ?_
          rintro e y1 ⟨rfl, hc2⟩
          have C2 := hid hc2
          clear hc2 KC r0 r5 r6
          obtain ⟨r0, _, _, _, _, r5, r6, _, zb, _⟩ := CB.cells C2.out
          rw [HO.out] at r6
          have R : Hid (SmP w0 QB (b + 1) f Q p q (.returned (.bool true)) y1) := ⟨_, rfl, C2.out⟩
          clear C2
          go_wp2
          go_ret
          exact R.out
        · have N : Hid (setNo f m j sv = 0 ∧ setM f m j sv = Cs.settle f (m.fill j sv)) := by
            have h1 : setNo f m j sv = 0 := by
              unfold setNo
              rw [if_neg (by rw [ho]; simp)]
              unfold setAns
              have i4 : M.isv sv = true := by unfold M.isv; exact decide_eq_true E4.out
              have ej : ((j : Int)).toNat = j := by omega
              rw [if_neg (by have := E2.out; omega), if_neg (by simpa using E3.out), if_neg (by rw [i4]; simp)]
            exact ⟨h1, by unfold setM; rw [if_pos h1]; rfl⟩
          have KC : Hid (Calls Tryd.prog 18 #[.pointer (some ⟨p.bp, 0, none⟩), .int .i64 j, .int .i64 sv] w5 fun e w' => e = .returned (.int .i64 0) ∧ CB w0 QB (b + 1) f Q p (Cs.settle f (m.fill j sv)) q (m.fill j sv).T (m.fill j sv).op (m.fill j sv).S (m.fill j sv).E w') := KA.out.mono (fun e w' g => ⟨by rw [g.1, N.out.1], by have h2 := g.2; rw [N.out.2] at h2; exact h2⟩)
          have HO := hid ho
          have MST := hid (CB.mok H5.out).st
          clear KA N H5 ho
          go_wp2_with fail
          refine KC.out.mono ?_
          rintro e y1 ⟨rfl, hc2⟩
          have C2 := hid hc2
          clear hc2 KC r0 r5 r6
          obtain ⟨r0, _, _, _, _, r5, r6o, _, zb, _⟩ := CB.cells C2.out
          have r6 : y1.cell? ⟨q.bb, 6, none⟩ = some (.bool true) := by rw [r6o]; show some (Value.bool m.op) = _; rw [HO.out]
          clear r6o
          have KS := hid (ksettleM C2.out MST.out (by omega) HR.out)
          go_wp2_with fail
          refine KS.out.mono ?_
          rintro e y2 ⟨rfl, hc3⟩
          have R : Hid (SmP w0 QB (b + 1) f Q p q (.returned (.bool true)) y2) := ⟨_, rfl, hc3⟩
          clear hc3 KS C2
          go_wp2
          go_ret
          exact R.out)
  · rw [e] at PK4
    clear e b4
    go_enter Tryd.func27, Tryd.ntmps27
    go_upto_region 1 with (fail)
    generalize w.alloc (.cells #[.int .i64 kd, .int .i64 a, .int .i64 b'] 34) = W at *
    generalize w.heap.size = gs at *
    obtain ⟨r0, r1, r2, r3, r4, r5, r6, r7, zb, _⟩ := CB.cells H1.out
    go_wp2_with fail
    refine (PK4.out _).mono ?_
    rintro e w' ⟨rfl, hw⟩
    rw [hw]
    clear hw w' PK4
    obtain ⟨o1, o2⟩ := ontoI_bd a T0 T1
    have ON : Hid (∀ W', Below W.heap.size W W' → Calls Tryd.prog 19 #[.int .i64 m.T, .int .i64 a] W' fun e w' => e = .returned (.int .i64 (ontoI m.T a)) ∧ Below W.heap.size W w') := fun W' hW => (konto_any m.T a W' T0 T1 h1).mono (fun e w' g => ⟨g.1, by rw [g.2]; exact hW⟩)
    obtain ⟨tq, hto⟩ : ∃ tq, ontoI m.T a = tq := ⟨_, rfl⟩
    rw [hto] at ON o1 o2
    clear hto
    go_wp2_with fail
    go_region_held3 (fun w' => w'.cell? ⟨q.bb, 5, none⟩ = some (.int .i64 m.T) ∧ w'.cell? ⟨gs, 1, none⟩ = some (.int .i64 a))
      (refine ⟨?_, ?_⟩ <;> assumption)
      ((go_at_call 19; refine (ON.out _ (Below.refl _ _).drew).mono ?_; rintro e w5 ⟨rfl, hb5⟩; have k1 : w5.cell? ⟨q.bb, 5, none⟩ = some (.int .i64 m.T) := (hb5.cell (p := ⟨q.bb, 5, none⟩) zb).trans r5; have k2 : w5.cell? ⟨gs, 1, none⟩ = some (.int .i64 a) := (hb5.cell (p := ⟨gs, 1, none⟩) zs).trans s1))
    all_goals (
      have H5 : Hid (BM w0 QB b f Q p m q w5) := CB.keep H1.out ⟨hb5.os, hb5.tape, hb5.output, hb5.size, hb5.block⟩
      clear k1 k2 hb5 ON H1
      have KG := hid ((kgoesB_any H5.out (by omega) HR.out tq o1 o2).mono (fun e w' g => SmP.up g (Nat.le_succ b)))
      go_wp2_with fail
      refine KG.out.mono ?_
      rintro e y1 hs
      have S1 := hid hs
      obtain ⟨_, rfl, _⟩ := hs
      clear KG H5
      go_wp2
      go_ret
      exact S1.out)
  · rw [e] at PK4
    clear e b4
    go_enter Tryd.func27, Tryd.ntmps27
    go_upto_region 1 with (fail)
    generalize w.alloc (.cells #[.int .i64 kd, .int .i64 a, .int .i64 b'] 34) = W at *
    generalize w.heap.size = gs at *
    obtain ⟨r0, r1, r2, r3, r4, r5, r6, r7, zb, _⟩ := CB.cells H1.out
    go_wp2_with fail
    refine (PK4.out _).mono ?_
    rintro e w' ⟨rfl, hw⟩
    rw [hw]
    clear hw w' PK4
    have KG := hid ((kacksB_any H1.out a h1).mono (fun e w' g => SmP.up g (Nat.le_succ b)))
    go_wp2_with fail
    refine KG.out.mono ?_
    rintro e y1 hs
    have S1 := hid hs
    obtain ⟨_, rfl, _⟩ := hs
    clear KG
    go_wp2
    go_ret
    exact S1.out
  · rw [e] at PK4
    clear e b4
    go_enter Tryd.func27, Tryd.ntmps27
    go_upto_region 1 with (fail)
    generalize w.alloc (.cells #[.int .i64 kd, .int .i64 a, .int .i64 b'] 34) = W at *
    generalize w.heap.size = gs at *
    obtain ⟨r0, r1, r2, r3, r4, r5, r6, r7, zb, _⟩ := CB.cells H1.out
    go_wp2_with fail
    refine (PK4.out _).mono ?_
    rintro e w' ⟨rfl, hw⟩
    rw [hw]
    clear hw w' PK4
    have KG := hid ((kclosesB_any H1.out).mono (fun e w' g => SmP.up g (Nat.le_succ b)))
    go_wp2_with fail
    refine KG.out.mono ?_
    rintro e y1 hs
    have S1 := hid hs
    obtain ⟨_, rfl, _⟩ := hs
    clear KG
    go_wp2
    go_ret
    exact S1.out

end Go.Proofs.YtmofidaojmiepaaDoor

/-
  THE WALKS: docketkeep's Tally.
-/
set_option linter.unusedVariables false
set_option linter.unusedSimpArgs false
namespace Go.Proofs.YtmofidaojmiepaaDoor
open Go.RowKit
attribute [local go_sem ↓] Go.wp_at_zero Go.wp_at_succ

theorem book_row (w : World) (f : Frm) (q : BPl) (p : KPl) {b : Nat} (hb : b = w.heap.size) : (w.alloc (.cells #[.pointer (some ⟨p.bp, 0, none⟩), .slice q.aC f.n q.cC, .slice q.aR f.k q.cR, .int .i64 f.week, .slice q.aH f.hol.length q.cH, .int .i64 0, .bool true, .slice (some ⟨q.gS, 0, none⟩) f.k q.cS, .slice none 0 0] 51)).rowIs b 51 9 (bkf f q p 0 true (.slice none 0 0)) := by
  subst hb
  exact World.rowIs_alloc w _ 51 _ (fun i hi => by
    have : i = 0 ∨ i = 1 ∨ i = 2 ∨ i = 3 ∨ i = 4 ∨ i = 5 ∨ i = 6 ∨ i = 7 ∨ i = 8 := by simp at hi; omega
    rcases this with rfl | rfl | rfl | rfl | rfl | rfl | rfl | rfl | rfl <;> rfl)

/-- A book is opened. -/
theorem cb_start {w0 w2 X : World} {b : Nat} {f : Frm} {Q : Nat → Prop} {p : KPl} {m : Cs} {q : BPl} (h : C1 (fun j => j < w0.heap.size) b f Q p m w2) (hs : StZ (fun j => j < w0.heap.size) w0 w2) (h0 : 0 < w0.heap.size) (hb : Below w2.heap.size w2 X) (hr : X.rowIs q.bb 51 9 (bkf f q p 0 true (.slice none 0 0))) (hst : FRow X q.gS 80 (f.k * 4) (stf (fun _ => noSt))) (l1 : w2.heap.size ≤ q.bb) (l2 : w2.heap.size ≤ q.gS) (ne : q.gS ≠ q.bb) :
    CB w0 w2.heap.size b f Q p m q 0 true (fun _ => noSt) [] X := by
  have sz := hs.size
  refine ⟨zup (fun j => j < w0.heap.size) w2 X, .slice none 0 0, h.drop hb, ⟨hr, hst, ⟨rfl, Or.inl ⟨rfl, rfl⟩⟩, ne, (fun e => by cases e), (fun e => by cases e)⟩, fun j hj => ?_, fun j hj => Or.inl hj, hs.trans (StZ.of (Z := fun j => j < w0.heap.size) hb (fun j hj => by have : j < w0.heap.size := hj; omega)), h.qlt, sz, by omega⟩
  rcases hj with rfl | rfl | e
  · exact ⟨Or.inr ⟨l1, hr.lt⟩, l1⟩
  · exact ⟨Or.inr ⟨l2, hst.lt⟩, l2⟩
  · cases e

set_option maxRecDepth 100000 in
set_option maxHeartbeats 4000000 in
theorem ktally_any (C : Nat → Cel) (R : Nat → Rul) (hol : List Int) (aC aR aH : Option Addr) (n cC k cR cH : Nat) (week : Int) (w : World) (ht : Tab w) (hn : n ≤ 1000000000) (hk : k ≤ 1000000000) (hhl : hol.length ≤ 1000000000) (h64 : Raw64 C n R k week hol)
    (hcs : CAt w aC n C) (hrs : RAt w aR k R) (hhs : IntsAt w (.slice aH hol.length cH) hol) {aS : Option Addr} {mS cS : Nat} {S : Nat → StK} (hsc : ScK w aS mS S) (hm : mS ≤ 1048576) :
    Calls Tryd.prog 5 #[.agg #[.slice aC n cC, .slice aR k cR, .int .i64 week, .slice aH hol.length cH], .slice aS mS cS] w fun e w' => TPost w e w' := by
  have BX := hid (Below.refl (w.heap.size + 1) (w.alloc (.cells #[.slice aC n cC, .slice aR k cR, .int .i64 week, .slice aH hol.length cH] 26)))
  have BW := hid (boxed_below BX.out)
  have SH := hid (kshaped_any C R hol aC aR aH n cC k cR cH week _ hn hk hhl h64 (hcs.below BW.out) (hrs.below BW.out) (SlAt.below hhs BW.out (Nat.le_refl _)))
  have FSO := hid (shF_ok C n R k week hol)
  have HT := hid ht
  have HSC := hid hsc
  clear hcs hrs hhs h64 ht hsc
  generalize shF C n R k week hol = f at *
  go_enter Tryd.func5, Tryd.ntmps5
  go_wp2_with fail
  refine SH.out.mono ?_
  rintro e w1 ⟨fv, rfl, fa, hb1⟩
  have FA := hid fa
  obtain ⟨aC', cC', aR', cR', aH', cH', rfl, fa1, fa2, fa3⟩ := fa
  clear fa1 fa2 fa3
  have B1 : Hid (Below w.heap.size w w1) := BW.out.trans (hb1.mono (by simp))
  clear hb1 BX BW SH
  have BX := hid (Below.refl (w1.heap.size + 1) (w1.alloc (.cells #[.slice aC' f.n cC', .slice aR' f.k cR', .int .i64 f.week, .slice aH' f.hol.length cH'] 26)))
  have BB := hid (boxed_below BX.out)
  have f0 : (w1.alloc (.cells #[.slice aC' f.n cC', .slice aR' f.k cR', .int .i64 f.week, .slice aH' f.hol.length cH'] 26)).cell? ⟨w1.heap.size, 0, none⟩ = some (Value.slice aC' f.n cC') := boxed BX.out 0
  have f1 : (w1.alloc (.cells #[.slice aC' f.n cC', .slice aR' f.k cR', .int .i64 f.week, .slice aH' f.hol.length cH'] 26)).cell? ⟨w1.heap.size, 1, none⟩ = some (Value.slice aR' f.k cR') := boxed BX.out 1
  have f2 : (w1.alloc (.cells #[.slice aC' f.n cC', .slice aR' f.k cR', .int .i64 f.week, .slice aH' f.hol.length cH'] 26)).cell? ⟨w1.heap.size, 2, none⟩ = some (.int .i64 f.week) := boxed BX.out 2
  have f3 : (w1.alloc (.cells #[.slice aC' f.n cC', .slice aR' f.k cR', .int .i64 f.week, .slice aH' f.hol.length cH'] 26)).cell? ⟨w1.heap.size, 3, none⟩ = some (Value.slice aH' f.hol.length cH') := boxed BX.out 3
  have zg : w1.heap.size < (w1.alloc (.cells #[.slice aC' f.n cC', .slice aR' f.k cR', .int .i64 f.week, .slice aH' f.hol.length cH'] 26)).heap.size := by simp
  have B0 : Hid (Below w.heap.size w (w1.alloc (.cells #[.slice aC' f.n cC', .slice aR' f.k cR', .int .i64 f.week, .slice aH' f.hol.length cH'] 26))) := B1.out.trans (BB.out.mono B1.out.size)
  have FA0 := hid (FA.out.below BB.out)
  have SC0 := hid (HSC.out.below B0.out)
  have T0 := hid (HT.out.below B0.out (Nat.le_refl _))
  clear BX BB FA B1 HT HSC
  go_upto_region 2 with (fail)
  generalize w1.alloc (.cells #[.slice aC' f.n cC', .slice aR' f.k cR', .int .i64 f.week, .slice aH' f.hol.length cH'] 26) = w0 at *
  generalize w1.heap.size = g at *
  obtain ⟨n1, n20, k6, _, _⟩ := FSO.out.ok.sizes
  have OP := hid (c1opened T0.out FSO.out.ok FA0.out)
  have mk := run_make_is (P := Tryd.prog) 43 80 _ 4 32 underlyingE info92 f.k (by omega) (by omega)
  go_wp2_with fail
  refine OP.out.mono ?_
  rintro e w2 ⟨Q, p, rfl, c1, s1⟩
  have C1' := hid c1
  have S1 := hid s1
  have x0 := (s1.cell 0 zg).trans f0
  have x1 := (s1.cell 1 zg).trans f1
  have x2 := (s1.cell 2 zg).trans f2
  have x3 := (s1.cell 3 zg).trans f3
  have zg2 : g < w2.heap.size := by have h : w0.heap.size ≤ w2.heap.size := s1.size; omega
  clear c1 s1 OP f0 f1 f2 f3
  go_wp2_with fail
  go_region_held3 (fun w' => Lo w2 w' ∧ w'.cell? ⟨g, 0, none⟩ = some (.slice aC' f.n cC') ∧ w'.cell? ⟨g, 1, none⟩ = some (.slice aR' f.k cR') ∧ w'.cell? ⟨g, 2, none⟩ = some (.int .i64 f.week) ∧ w'.cell? ⟨g, 3, none⟩ = some (.slice aH' f.hol.length cH'))
    ((refine four x0 x1 x2 x3 zg2 ?_; first | with_reducible exact Lo.drew0 w2 | with_reducible exact Lo.drewM (Lo.alloc (lo_refl w2) _) | with_reducible exact Lo.drewM (Lo.alloc (Lo.alloc (lo_refl w2) _) _) | with_reducible exact Lo.alloc (Lo.drewM (Lo.alloc (lo_refl w2) _)) _ | with_reducible exact Lo.alloc (Lo.alloc (Lo.drew0 w2) _) _ | with_reducible exact Lo.alloc (Lo.drew0 w2) _))
    (fail)
  all_goals (
    obtain ⟨q, hq⟩ : ∃ q : BPl, q = ⟨w2.heap.size + 1, w2.heap.size, f.k, aC', cC', aR', cR', aH', cH'⟩ := ⟨_, rfl⟩
    have CB0 : Hid (CB w0 w2.heap.size 1 f Q p (beginM f) q 0 true (fun _ => noSt) [] ((w2.alloc (.cells (madeCells #[.bool false, .int .i64 0, .int .i64 0, .bool false] (f.k * 4)) 80)).alloc (.cells #[.pointer (some ⟨p.bp, 0, none⟩), .slice aC' f.n cC', .slice aR' f.k cR', .int .i64 f.week, .slice aH' f.hol.length cH', .int .i64 0, .bool true, .slice (some ⟨w2.heap.size, 0, none⟩) f.k f.k, .slice none 0 0] 51)).drew) := by
      have B2 : Below w2.heap.size w2 ((w2.alloc (.cells (madeCells #[.bool false, .int .i64 0, .int .i64 0, .bool false] (f.k * 4)) 80)).alloc (.cells #[.pointer (some ⟨p.bp, 0, none⟩), .slice aC' f.n cC', .slice aR' f.k cR', .int .i64 f.week, .slice aH' f.hol.length cH', .int .i64 0, .bool true, .slice (some ⟨w2.heap.size, 0, none⟩) f.k f.k, .slice none 0 0] 51)).drew := (((Below.refl _ _).alloc (Nat.le_refl _) _).alloc (by simp) _).drew
      have rw1 := (book_row (w2.alloc (.cells (madeCells #[.bool false, .int .i64 0, .int .i64 0, .bool false] (f.k * 4)) 80)) f q p (b := q.bb) (by rw [hq]; simp)).drew
      have rw2 : FRow ((w2.alloc (.cells (madeCells #[.bool false, .int .i64 0, .int .i64 0, .bool false] (f.k * 4)) 80)).alloc (.cells #[.pointer (some ⟨p.bp, 0, none⟩), .slice aC' f.n cC', .slice aR' f.k cR', .int .i64 f.week, .slice aH' f.hol.length cH', .int .i64 0, .bool true, .slice (some ⟨w2.heap.size, 0, none⟩) f.k f.k, .slice none 0 0] 51)).drew w2.heap.size 80 (f.k * 4) (stf (fun _ => noSt)) := by
        have h := (sta_made (W := w2) f.k).alloc (.cells #[.pointer (some ⟨p.bp, 0, none⟩), .slice aC' f.n cC', .slice aR' f.k cR', .int .i64 f.week, .slice aH' f.hol.length cH', .int .i64 0, .bool true, .slice (some ⟨w2.heap.size, 0, none⟩) f.k f.k, .slice none 0 0] 51)
        exact FRow.of h.drew
      subst hq
      exact cb_start C1'.out S1.out (by omega) B2 rw1 rw2 (Nat.le_succ _) (Nat.le_refl _) (by show w2.heap.size ≠ w2.heap.size + 1; omega)
    have FAQ : Hid (FAt w0 f (.agg #[.slice q.aC f.n q.cC, .slice q.aR f.k q.cR, .int .i64 f.week, .slice q.aH f.hol.length q.cH])) := by rw [hq]; exact FA0.out
    have RAQ : Hid (RAt w0 q.aR f.k f.R) := by
      obtain ⟨a1, c1, a2, c2, a3, c3, he, _, h2, _⟩ := FAQ.out
      simp at he
      rw [he.2.1.1]
      exact h2
    have hpb : w2.heap.size + 1 = q.bb := by rw [hq]
    rw [hpb]
    clear hq hpb
    generalize ((w2.alloc (.cells (madeCells #[.bool false, .int .i64 0, .int .i64 0, .bool false] (f.k * 4)) 80)).alloc (.cells #[.pointer (some ⟨p.bp, 0, none⟩), .slice aC' f.n cC', .slice aR' f.k cR', .int .i64 f.week, .slice aH' f.hol.length cH', .int .i64 0, .bool true, .slice (some ⟨w2.heap.size, 0, none⟩) f.k f.k, .slice none 0 0] 51)).drew = X at *
    generalize w2.heap.size = QB at *
    clear x0 x1 x2 x3 mk FA0 T0
    have KS := hid (ksettleM (n := ⟨fun j => (f.C j).k, 0, true, fun _ => noSt, []⟩) CB0.out (fun _ _ => ⟨Int.le_refl _, by show (0 : Int) ≤ _; omega, Int.le_refl _, by show (0 : Int) ≤ _; omega⟩) (by omega) RAQ.out)
    go_wp2_with fail
    refine KS.out.mono ?_
    rintro e y1 ⟨rfl, hc1⟩
    have D1 := hid hc1
    clear hc1 KS CB0
    generalize Cs.settle f ⟨fun j => (f.C j).k, 0, true, fun _ => noSt, []⟩ = mb at *
    have KT := hid (ktoldB_any D1.out (by omega) FAQ.out)
    go_wp2_with fail
    refine KT.out.mono ?_
    rintro e y2 ⟨rfl, hb2⟩
    have D2 : Hid (BM w0 QB (1 + 0) f Q p mb q y2) := CB.keep D1.out hb2
    clear hb2 KT D1
    go_wp2_with fail
    go_loopw [8, 10] (fun tk ti wr => ∃ (i : Nat) (m : Cs), i ≤ mS ∧ tk = .bool true ∧ ti = .int .i64 i ∧ Hid (BM w0 QB (1 + i) f Q p m q wr)) (fun _ ti _ => mS - (intOf ti).toNat)
    case atStart => exact ⟨0, mb, by omega, rfl, rfl, D2⟩
    case round =>
      clear D2
      obtain ⟨i, m, i1, rfl, rfl, hc⟩ := hrel
      have BL := hid (CB.below hc.out)
      by_cases hit : i < mS
      · have lt' : (i : Int) < (mS : Int) := by omega
        obtain ⟨sc1, sc2⟩ := SC0.out.below BL.out
        obtain ⟨bX, oX, hax, zX, hX⟩ : ∃ b off, aS = some ⟨b, off, none⟩ ∧ b < wr.heap.size ∧ ∀ i, i < mS → wr.cell? ⟨b, off + i * 3, none⟩ = some (.int .i64 (S i).kd) ∧ wr.cell? ⟨b, off + i * 3 + 1, none⟩ = some (.int .i64 (S i).a) ∧ wr.cell? ⟨b, off + i * 3 + 2, none⟩ = some (.int .i64 (S i).b) := by
          rcases sc1 with h | h
          · omega
          · exact h
        obtain ⟨y0, y1, y2⟩ := hX i hit
        obtain ⟨s0, s1, s2⟩ := sc2 i hit
        subst hax
        clear hX sc1 sc2
        have KP := hid (kstepB_any hc.out (by omega) RAQ.out FAQ.out (S i).kd (S i).a (S i).b s0 s1 s2)
        clear hc BL s0 s1 s2
        go_wp2_with fail
        refine KP.out.mono ?_
        rintro e z1 ⟨m2, rfl, hc2⟩
        have D1 := hid hc2
        clear hc2 KP y0 y1 y2
        have KT := hid (ktoldB_any D1.out (by omega) FAQ.out)
        go_wp2_with fail
        refine KT.out.mono ?_
        rintro e z2 ⟨rfl, hb2⟩
        have D2 : Hid (BM w0 QB (1 + (i + 1)) f Q p m2 q z2) := CB.keep D1.out hb2
        clear hb2 KT D1
        go_wp2
        go_roundw
        case rel => exact ⟨i + 1, m2, by omega, rfl, by go_num, D2⟩
        case measure => simp [intOf]; omega
      · obtain rfl : i = mS := by omega
        have R : Hid (TPost w (.returned (.bool true)) wr) := ⟨rfl, B0.out.trans (BL.out.mono B0.out.size)⟩
        go_wp2
        go_ret
        exact R.out)

end Go.Proofs.YtmofidaojmiepaaDoor
