/-
  THE LAW: what stands between the steps of a script: cases, and the same by the document; lists that came out.
-/
import Derived.Test.YtcondcffllaaoaaGreatDoorK9
import Derived.Test.YtcondcffllaaoaaGreatDoorD12
set_option linter.unusedVariables false
set_option linter.unusedSimpArgs false
namespace Go.Proofs.YtcondcffllaaoaaGreatDoor
open Go.RowKit
attribute [local go_sem ↓] Go.wp_at_zero Go.wp_at_succ

/-- A case, and the same by the document. -/
structure Pr where
  Qk : Nat → Prop
  pk : KPl
  vk : Value
  ck : Cs
  Qd : Nat → Prop
  pd : Pl
  vd : Value
  cd : Cs

def prf (P : Nat → Pr) (j : Nat) : Value := if j % 2 = 0 then .pointer (some ⟨(P (j / 2)).pk.bp, 0, none⟩) else .pointer (some ⟨(P (j / 2)).pd.bw, 0, none⟩)

def prl (P : Nat → Pr) (np : Nat) : List Value := (List.range (np * 2)).map (prf P)
theorem prl_at {P : Nat → Pr} {np j : Nat} (hj : j < np * 2) : (prl P np)[j]? = some (prf P j) := by simp [prl, hj]
theorem prl_upd {P : Nat → Pr} {i np : Nat} {x : Pr} (h1 : x.pk.bp = (P i).pk.bp) (h2 : x.pd.bw = (P i).pd.bw) : prl (upd P i x) np = prl P np := by
  unfold prl
  congr 1
  funext j
  unfold prf
  by_cases e : j / 2 = i
  · rw [e, upd_same, h1, h2]
  · rw [upd_other _ _ e]
theorem own_blk {g n c j : Nat} (h : (Value.slice (some ⟨g, 0, none⟩) n c).ownBlock = some j) : g = j := by simpa [Value.ownBlock] using h

/-- A play: whose is each block: 0 what stands, 1 the play's own, 2 + 3 i case i's, 3 + 3 i the document's i, 4 + 3 j the list j's. -/
structure PSt (f : Frm) (b : Nat) (np : Nat) (P : Nat → Pr) (nl : Nat) (xs : List Value) (tag : Nat → Nat) (bP bl cP : Nat) (vL : Value) (w : World) : Prop where
  kst : ∀ i, i < np → KAt (P i).Qk f (P i).pk (P i).ck (P i).vk w
  kown : ∀ i, i < np → ∀ j, KOwn (P i).pk (P i).vk j → tag j = 2 + 3 * i
  kq : ∀ i, i < np → ∀ j, (P i).Qk j → tag j = 0
  kok : ∀ i, i < np → (P i).ck.Ok f ∧ Few b (P i).ck
  dst : ∀ i, i < np → DAt (P i).Qd f (P i).pd (P i).cd (P i).vd w
  down : ∀ i, i < np → ∀ j, Own (P i).pd (P i).vd j → tag j = 3 + 3 * i
  dq : ∀ i, i < np → ∀ j, (P i).Qd j → tag j = 0
  dok : ∀ i, i < np → (P i).cd.Ok f ∧ Few b (P i).cd
  row : w.rowIs bP 55 2 (fun j => if j = 0 then .slice (some ⟨bl, 0, none⟩) np cP else vL)
  tP : tag bP = 1
  prs : w.ownsRow 0 57 2 (.slice (some ⟨bl, 0, none⟩) np cP) np (prl P np)
  tl : tag bl = 1
  lst : w.ownsRow 0 63 1 vL nl xs
  tL : ∀ j, vL.ownBlock = some j → tag j = 1
  els : ∀ (k : Nat) (v : Value), xs[k]? = some v → (∃ n, n ≤ 9223372036854775807 ∧ SlAt w v n 3 (fun _ => .int .i64 (-1 - (k : Int)))) ∧ ∀ j, v.ownBlock = some j → j < w.heap.size ∧ tag j = 4 + 3 * k

theorem SlAt.move {w w' : World} {v : Value} {n st : Nat} {g : Nat → Value} (h : SlAt w v n st g) (hs : w.heap.size ≤ w'.heap.size) (hb : ∀ j, v.ownBlock = some j → w'.heap[j]? = w.heap[j]?) : SlAt w' v n st g := by
  obtain ⟨a, cap, rfl, hc⟩ := h
  refine ⟨a, cap, rfl, fun j hj => ?_⟩
  obtain ⟨b, off, rfl, h1, h2⟩ := hc j hj
  refine ⟨b, off, rfl, by omega, ?_⟩
  have := hb b rfl
  unfold World.cell? at h2 ⊢
  rw [this]
  exact h2

section
variable {f : Frm} {b np : Nat} {P : Nat → Pr} {nl : Nat} {xs : List Value} {tag : Nat → Nat} {bP bl cP : Nat} {vL : Value} {w : World}

theorem PSt.prow (h : PSt f b np P nl xs tag bP bl cP vL w) : ∃ g N, w.rowIs bl 57 N g ∧ np * 2 ≤ N ∧ ∀ j, j < np * 2 → g j = prf P j := by
  obtain ⟨g, N, h1, h2, h3⟩ := own_row h.prs
  exact ⟨g, N, h1, h2, fun j hj => by have := h3 j hj; rw [prl_at hj] at this; simpa using this⟩

/-- Nothing that was there has turned. -/
theorem PSt.drop (h : PSt f b np P nl xs tag bP bl cP vL w) {w' : World} (hb : Below w.heap.size w w') : PSt f b np P nl xs tag bP bl cP vL w' := by
  obtain ⟨g, N, f1, f2, f3⟩ := h.prow
  exact ⟨fun i hi => KSt.drop (h.kst i hi) hb, h.kown, h.kq, h.kok, fun i hi => DSt.drop (h.dst i hi) hb, h.down, h.dq, h.dok, h.row.of_block (hb.block _ h.row.lt), h.tP, own_of_block h.prs (fun j _ hlt => hb.block j hlt), h.tl, own_of_block h.lst (fun j _ hlt => hb.block j hlt), h.tL,
    fun k v hv => ⟨by obtain ⟨n, hn0, hn⟩ := (h.els k v hv).1; exact ⟨n, hn0, hn.move hb.size (fun j hj => hb.block j ((h.els k v hv).2 j hj).1)⟩, fun j hj => ⟨by have := ((h.els k v hv).2 j hj).1; have := hb.size; omega, ((h.els k v hv).2 j hj).2⟩⟩⟩

/-- The tags, once new blocks were made by one that is called t. -/
def ntag (tag : Nat → Nat) (B t : Nat) : Nat → Nat := fun j => if j < B then tag j else t
theorem ntag_old {tag : Nat → Nat} {B t j : Nat} (h : j < B) : ntag tag B t j = tag j := if_pos h
theorem ntag_new {tag : Nat → Nat} {B t j : Nat} (h : B ≤ j) : ntag tag B t j = t := if_neg (by omega)

/-- What the caller sees of a step: blocks that are nobody's stand. -/
structure Kept (tag tag' : Nat → Nat) (w w' : World) : Prop where
  os : w'.os = w.os
  tape : w'.tape = w.tape
  output : w'.output = w.output
  size : w.heap.size ≤ w'.heap.size
  block : ∀ j, j < w.heap.size → tag j = 0 → w'.heap[j]? = w.heap[j]?
  tags : ∀ j, j < w.heap.size → tag' j = tag j

theorem Kept.of {tag : Nat → Nat} {w w' : World} (h : Below w.heap.size w w') : Kept tag tag w w' := ⟨h.os, h.tape, h.output, h.size, fun j hj _ => h.block j hj, fun _ _ => rfl⟩
theorem Kept.trans {t1 t2 t3 : Nat → Nat} {a b c : World} (h : Kept t1 t2 a b) (g : Kept t2 t3 b c) : Kept t1 t3 a c :=
  ⟨g.os.trans h.os, g.tape.trans h.tape, g.output.trans h.output, Nat.le_trans h.size g.size, fun j hj h0 => (g.block j (by have := h.size; omega) (by rw [h.tags j hj]; exact h0)).trans (h.block j hj h0), fun j hj => (g.tags j (by have := h.size; omega)).trans (h.tags j hj)⟩

/-- The case of pair i has been called. -/
theorem PSt.kgo (h : PSt f b np P nl xs tag bP bl cP vL w) {i : Nat} (hi : i < np) {w' : World} {vk' : Value} {m' : Cs} {b' : Nat} (hs : KAt (P i).Qk f (P i).pk m' vk' w') (hg : KGone (P i).pk (P i).vk vk' w w') (hok : m'.Ok f) (hfew : Few b' m') (hb : b ≤ b') :
    PSt f b' np (upd P i ⟨(P i).Qk, (P i).pk, vk', m', (P i).Qd, (P i).pd, (P i).vd, (P i).cd⟩) nl xs (ntag tag w.heap.size (2 + 3 * i)) bP bl cP vL w' ∧ Kept tag (ntag tag w.heap.size (2 + 3 * i)) w w' := by
  have hsz := hg.1.size
  have st : ∀ j, j < w.heap.size → tag j ≠ 2 + 3 * i → w'.heap[j]? = w.heap[j]? := fun j hj ht => hg.1.block j hj (fun e => ht (h.kown i hi j e))
  have few : ∀ m, Few b m → Few b' m := fun m hm => by unfold Few at hm ⊢; omega
  obtain ⟨g, N, f1, f2, f3⟩ := h.prow
  refine ⟨⟨fun x hx => ?_, fun x hx j hj => ?_, fun x hx j hj => ?_, fun x hx => ?_, fun x hx => ?_, fun x hx j hj => ?_, fun x hx j hj => ?_, fun x hx => ?_, h.row.of_block (st _ h.row.lt (by rw [h.tP]; omega)), ?_, by have e : prl (upd P i ⟨(P i).Qk, (P i).pk, vk', m', (P i).Qd, (P i).pd, (P i).vd, (P i).cd⟩) np = prl P np := prl_upd rfl rfl; rw [e]; exact own_of_block h.prs (fun j hj hlt => st j hlt (by rw [← own_blk hj, h.tl]; omega)), ?_, own_of_block h.lst (fun j hj hlt => st j hlt (by rw [h.tL j hj]; omega)), fun j hj => ?_, fun k v hv => ?_⟩, hg.1.os, hg.1.tape, hg.1.output, hsz, fun j hj h0 => st j hj (by omega), fun j hj => ntag_old hj⟩
  · by_cases e : x = i
    · subst e; rw [upd_same]; exact hs
    · rw [upd_other _ _ e]
      refine KSt.move (h.kst x hx) hsz (fun j hj => ?_)
      rcases hj with hj | hj
      · exact st j (KSt.qlt (h.kst x hx) j hj) (by rw [h.kq x hx j hj]; omega)
      · exact st j (KSt.own_lt (h.kst x hx) j hj) (by rw [h.kown x hx j hj]; omega)
  · by_cases e : x = i
    · subst e
      rw [upd_same] at hj
      by_cases hl : j < w.heap.size
      · rw [ntag_old hl]; exact h.kown x hx j (KOwn.grew hg.2 j hl hj)
      · rw [ntag_new (by omega)]
    · rw [upd_other _ _ e] at hj
      rw [ntag_old (KSt.own_lt (h.kst x hx) j hj)]; exact h.kown x hx j hj
  · have hj' : (P x).Qk j := by
      by_cases e : x = i
      · subst e; rw [upd_same] at hj; exact hj
      · rw [upd_other _ _ e] at hj; exact hj
    rw [ntag_old (KSt.qlt (h.kst x hx) j hj')]; exact h.kq x hx j hj'
  · by_cases e : x = i
    · subst e; rw [upd_same]; exact ⟨hok, hfew⟩
    · rw [upd_other _ _ e]; exact ⟨(h.kok x hx).1, few _ (h.kok x hx).2⟩
  · have key : DAt (P x).Qd f (P x).pd (P x).cd (P x).vd w' := by
      refine DSt.move (h.dst x hx) hsz (fun j hj => ?_)
      rcases hj with hj | hj
      · exact st j (DSt.qlt (h.dst x hx) j hj) (by rw [h.dq x hx j hj]; omega)
      · exact st j (DSt.own_lt (h.dst x hx) j hj) (by rw [h.down x hx j hj]; omega)
    by_cases e : x = i
    · subst e; rw [upd_same]; exact key
    · rw [upd_other _ _ e]; exact key
  · have hj' : Own (P x).pd (P x).vd j := by
      by_cases e : x = i
      · subst e; rw [upd_same] at hj; exact hj
      · rw [upd_other _ _ e] at hj; exact hj
    rw [ntag_old (DSt.own_lt (h.dst x hx) j hj')]; exact h.down x hx j hj'
  · have hj' : (P x).Qd j := by
      by_cases e : x = i
      · subst e; rw [upd_same] at hj; exact hj
      · rw [upd_other _ _ e] at hj; exact hj
    rw [ntag_old (DSt.qlt (h.dst x hx) j hj')]; exact h.dq x hx j hj'
  · by_cases e : x = i
    · subst e; rw [upd_same]; exact ⟨(h.dok x hx).1, few _ (h.dok x hx).2⟩
    · rw [upd_other _ _ e]; exact ⟨(h.dok x hx).1, few _ (h.dok x hx).2⟩
  · rw [ntag_old h.row.lt]; exact h.tP
  · rw [ntag_old f1.lt]; exact h.tl
  · rw [ntag_old (own_lt h.lst hj)]; exact h.tL j hj
  · obtain ⟨⟨n, hn0, hn⟩, h2⟩ := h.els k v hv
    refine ⟨⟨n, hn0, hn.move hsz (fun j hj => st j (h2 j hj).1 (by rw [(h2 j hj).2]; omega))⟩, fun j hj => ⟨by have := (h2 j hj).1; omega, by rw [ntag_old (h2 j hj).1]; exact (h2 j hj).2⟩⟩

/-- The document's world of pair i has been called. -/
theorem PSt.dgo (h : PSt f b np P nl xs tag bP bl cP vL w) {i : Nat} (hi : i < np) {w' : World} {vd' : Value} {m' : Cs} {b' : Nat} (hs : DAt (P i).Qd f (P i).pd m' vd' w') (hg : Gone (P i).pd (P i).vd vd' w w') (hok : m'.Ok f) (hfew : Few b' m') (hb : b ≤ b') :
    PSt f b' np (upd P i ⟨(P i).Qk, (P i).pk, (P i).vk, (P i).ck, (P i).Qd, (P i).pd, vd', m'⟩) nl xs (ntag tag w.heap.size (3 + 3 * i)) bP bl cP vL w' ∧ Kept tag (ntag tag w.heap.size (3 + 3 * i)) w w' := by
  have hsz := hg.1.size
  have st : ∀ j, j < w.heap.size → tag j ≠ 3 + 3 * i → w'.heap[j]? = w.heap[j]? := fun j hj ht => hg.1.block j hj (fun e => ht (h.down i hi j e))
  have few : ∀ m, Few b m → Few b' m := fun m hm => by unfold Few at hm ⊢; omega
  obtain ⟨g, N, f1, f2, f3⟩ := h.prow
  refine ⟨⟨fun x hx => ?_, fun x hx j hj => ?_, fun x hx j hj => ?_, fun x hx => ?_, fun x hx => ?_, fun x hx j hj => ?_, fun x hx j hj => ?_, fun x hx => ?_, h.row.of_block (st _ h.row.lt (by rw [h.tP]; omega)), ?_, by have e : prl (upd P i ⟨(P i).Qk, (P i).pk, (P i).vk, (P i).ck, (P i).Qd, (P i).pd, vd', m'⟩) np = prl P np := prl_upd rfl rfl; rw [e]; exact own_of_block h.prs (fun j hj hlt => st j hlt (by rw [← own_blk hj, h.tl]; omega)), ?_, own_of_block h.lst (fun j hj hlt => st j hlt (by rw [h.tL j hj]; omega)), fun j hj => ?_, fun k v hv => ?_⟩, hg.1.os, hg.1.tape, hg.1.output, hsz, fun j hj h0 => st j hj (by omega), fun j hj => ntag_old hj⟩
  · have key : KAt (P x).Qk f (P x).pk (P x).ck (P x).vk w' := by
      refine KSt.move (h.kst x hx) hsz (fun j hj => ?_)
      rcases hj with hj | hj
      · exact st j (KSt.qlt (h.kst x hx) j hj) (by rw [h.kq x hx j hj]; omega)
      · exact st j (KSt.own_lt (h.kst x hx) j hj) (by rw [h.kown x hx j hj]; omega)
    by_cases e : x = i
    · subst e; rw [upd_same]; exact key
    · rw [upd_other _ _ e]; exact key
  · have hj' : KOwn (P x).pk (P x).vk j := by
      by_cases e : x = i
      · subst e; rw [upd_same] at hj; exact hj
      · rw [upd_other _ _ e] at hj; exact hj
    rw [ntag_old (KSt.own_lt (h.kst x hx) j hj')]; exact h.kown x hx j hj'
  · have hj' : (P x).Qk j := by
      by_cases e : x = i
      · subst e; rw [upd_same] at hj; exact hj
      · rw [upd_other _ _ e] at hj; exact hj
    rw [ntag_old (KSt.qlt (h.kst x hx) j hj')]; exact h.kq x hx j hj'
  · by_cases e : x = i
    · subst e; rw [upd_same]; exact ⟨(h.kok x hx).1, few _ (h.kok x hx).2⟩
    · rw [upd_other _ _ e]; exact ⟨(h.kok x hx).1, few _ (h.kok x hx).2⟩
  · by_cases e : x = i
    · subst e; rw [upd_same]; exact hs
    · rw [upd_other _ _ e]
      refine DSt.move (h.dst x hx) hsz (fun j hj => ?_)
      rcases hj with hj | hj
      · exact st j (DSt.qlt (h.dst x hx) j hj) (by rw [h.dq x hx j hj]; omega)
      · exact st j (DSt.own_lt (h.dst x hx) j hj) (by rw [h.down x hx j hj]; omega)
  · by_cases e : x = i
    · subst e
      rw [upd_same] at hj
      by_cases hl : j < w.heap.size
      · rw [ntag_old hl]; exact h.down x hx j (Own.grew hg.2 j hl hj)
      · rw [ntag_new (by omega)]
    · rw [upd_other _ _ e] at hj
      rw [ntag_old (DSt.own_lt (h.dst x hx) j hj)]; exact h.down x hx j hj
  · have hj' : (P x).Qd j := by
      by_cases e : x = i
      · subst e; rw [upd_same] at hj; exact hj
      · rw [upd_other _ _ e] at hj; exact hj
    rw [ntag_old (DSt.qlt (h.dst x hx) j hj')]; exact h.dq x hx j hj'
  · by_cases e : x = i
    · subst e; rw [upd_same]; exact ⟨hok, hfew⟩
    · rw [upd_other _ _ e]; exact ⟨(h.dok x hx).1, few _ (h.dok x hx).2⟩
  · rw [ntag_old h.row.lt]; exact h.tP
  · rw [ntag_old f1.lt]; exact h.tl
  · rw [ntag_old (own_lt h.lst hj)]; exact h.tL j hj
  · obtain ⟨⟨n, hn0, hn⟩, h2⟩ := h.els k v hv
    refine ⟨⟨n, hn0, hn.move hsz (fun j hj => st j (h2 j hj).1 (by rw [(h2 j hj).2]; omega))⟩, fun j hj => ⟨by have := (h2 j hj).1; omega, by rw [ntag_old (h2 j hj).1]; exact (h2 j hj).2⟩⟩

end

end Go.Proofs.YtcondcffllaaoaaGreatDoor
