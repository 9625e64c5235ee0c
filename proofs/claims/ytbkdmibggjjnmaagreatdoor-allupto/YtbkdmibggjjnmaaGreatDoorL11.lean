/-
  THE LAW: a case more.
-/
import Derived.Test.YtbkdmibggjjnmaaGreatDoorL9
import Derived.Test.YtbkdmibggjjnmaaGreatDoorK11
import Derived.Test.YtbkdmibggjjnmaaGreatDoorL10
set_option linter.unusedVariables false
set_option linter.unusedSimpArgs false
namespace Go.Proofs.YtbkdmibggjjnmaaGreatDoor
open Go.RowKit
attribute [local go_sem ↓] Go.wp_at_zero Go.wp_at_succ

/-- The tags, once a case and a world of the document were made. -/
def ftag (tag : Nat → Nat) (B np : Nat) (pk : KPl) (vk : Value) (pd : Pl) (vd : Value) (g : Nat) (j : Nat) : Nat :=
  if j < B then tag j else @ite Nat (KOwn pk vk j) (KOwn.dec pk vk j) (2 + 3 * np) (@ite Nat (Own pd vd j) (Own.dec pd vd j) (3 + 3 * np) (if j = g then 1 else 0))

section
variable {tag : Nat → Nat} {B np : Nat} {pk : KPl} {vk : Value} {pd : Pl} {vd : Value} {g j : Nat}
theorem ftag_old (h : j < B) : ftag tag B np pk vk pd vd g j = tag j := by unfold ftag; rw [if_pos h]
theorem ftag_k (h : B ≤ j) (h1 : KOwn pk vk j) : ftag tag B np pk vk pd vd g j = 2 + 3 * np := by unfold ftag; rw [if_neg (by omega), if_pos h1]
theorem ftag_d (h : B ≤ j) (h1 : ¬ KOwn pk vk j) (h2 : Own pd vd j) : ftag tag B np pk vk pd vd g j = 3 + 3 * np := by unfold ftag; rw [if_neg (by omega), if_neg h1, if_pos h2]
theorem ftag_g (h : B ≤ j) (h1 : ¬ KOwn pk vk j) (h2 : ¬ Own pd vd j) (h3 : j = g) : ftag tag B np pk vk pd vd g j = 1 := by unfold ftag; rw [if_neg (by omega), if_neg h1, if_neg h2, if_pos h3]
theorem ftag_no (h : B ≤ j) (h1 : ¬ KOwn pk vk j) (h2 : ¬ Own pd vd j) (h3 : j ≠ g) : ftag tag B np pk vk pd vd g j = 0 := by unfold ftag; rw [if_neg (by omega), if_neg h1, if_neg h2, if_neg h3]
end

theorem prl_more (P : Nat → Pr) (np : Nat) (x : Pr) : prl (upd P np x) (np + 1) = prl P np ++ [.pointer (some ⟨x.pk.bp, 0, none⟩), .pointer (some ⟨x.pd.bw, 0, none⟩)] := by
  unfold prl
  rw [show (np + 1) * 2 = np * 2 + 1 + 1 by omega, List.range_succ, List.range_succ, List.append_assoc, List.map_append]
  congr 1
  · refine List.map_congr_left (fun j hj => ?_)
    have hj' : j < np * 2 := List.mem_range.1 hj
    unfold prf
    rw [upd_other _ _ (by omega)]
  · show [prf (upd P np x) (np * 2), prf (upd P np x) (np * 2 + 1)] = _
    unfold prf
    rw [if_pos (by omega), if_neg (by omega), show np * 2 / 2 = np by omega, show (np * 2 + 1) / 2 = np by omega, upd_same]

theorem PSt.fork {f : Frm} {b np : Nat} {P : Nat → Pr} {nl : Nat} {xs : List Value} {tag : Nat → Nat} {bP bl cP : Nat} {vL : Value} {w w1 w2 w4 : World} (h : PSt f b np P nl xs tag bP bl cP vL w) {r : Nat} (hr : r < np) {Qk : Nat → Prop} {pk : KPl} {vk : Value} {pd : Pl} {vd : Value} {g cap : Nat} {o : Obj}
    (k1 : KAt Qk f pk (P r).ck vk w1) (kb : Below w.heap.size w w1) (ko : ∀ j, KOwn pk vk j → w.heap.size ≤ j) (kq : ∀ j, Qk j → (P r).Qk j ∨ w.heap.size ≤ j)
    (d1 : DAt (P r).Qd f pd (P r).cd vd w2) (db : Below w1.heap.size w1 w2) (dO : ∀ j, Own pd vd j → w1.heap.size ≤ j)
    (hown : w4.ownsRow 0 57 2 (.slice (some ⟨g, 0, none⟩) (np + 1) cap) (np + 1) (prl P np ++ [.pointer (some ⟨pk.bp, 0, none⟩), .pointer (some ⟨pd.bw, 0, none⟩)])) (hgrow : (w2.alloc o).grownBy w4 (some bl)) (hat : bl = g ∨ g = w2.heap.size + 1) :
    PSt f b (np + 1) (upd P np ⟨Qk, pk, vk, (P r).ck, (P r).Qd, pd, vd, (P r).cd⟩) nl xs (ftag tag w.heap.size np pk vk pd vd g) bP g cap vL (w4.setCell ⟨bP, 0, none⟩ (.slice (some ⟨g, 0, none⟩) (np + 1) cap)) ∧ Kept tag (ftag tag w.heap.size np pk vk pd vd g) w (w4.setCell ⟨bP, 0, none⟩ (.slice (some ⟨g, 0, none⟩) (np + 1) cap)) := by
  obtain ⟨gg, N, f1, f2, f3⟩ := h.prow
  have zP := h.row.lt
  have zl := f1.lt
  have s1 := kb.size
  have s2 := db.size
  have s4 := hgrow.size
  simp at s4
  have nPl : bl ≠ bP := row_ne f1 h.row (by decide)
  have far : ∀ j, j < w2.heap.size → j ≠ bl → w4.heap[j]? = w2.heap[j]? := fun j hj hn => (hgrow.block j (by simp; omega) (fun e => hn (by simpa using e))).trans (Below.heap_alloc w2 o j hj)
  have fa2 : ∀ j, j < w2.heap.size → j ≠ bl → j ≠ bP → (w4.setCell ⟨bP, 0, none⟩ (.slice (some ⟨g, 0, none⟩) (np + 1) cap)).heap[j]? = w2.heap[j]? := fun j hj hn hp => by rw [Below.heap_setCell _ _ _ _ hp]; exact far j hj hn
  have fa0 : ∀ j, j < w.heap.size → j ≠ bl → j ≠ bP → (w4.setCell ⟨bP, 0, none⟩ (.slice (some ⟨g, 0, none⟩) (np + 1) cap)).heap[j]? = w.heap[j]? := fun j hj hn hp => by rw [fa2 j (by omega) hn hp, db.block j (by omega), kb.block j hj]
  have st : ∀ j, j < w.heap.size → tag j ≠ 1 → (w4.setCell ⟨bP, 0, none⟩ (.slice (some ⟨g, 0, none⟩) (np + 1) cap)).heap[j]? = w.heap[j]? := fun j hj ht => fa0 j hj (fun e => ht (by rw [e]; exact h.tl)) (fun e => ht (by rw [e]; exact h.tP))
  have hsz : w.heap.size ≤ (w4.setCell ⟨bP, 0, none⟩ (.slice (some ⟨g, 0, none⟩) (np + 1) cap)).heap.size := by simp; omega
  have gP : g ≠ bP := by
    rcases hat with e | e
    · rw [← e]; exact nPl
    · omega
  have kl : ∀ j, KOwn pk vk j → j < w1.heap.size := fun j hj => KSt.own_lt k1 j hj
  have dl : ∀ j, Own pd vd j → j < w2.heap.size := fun j hj => DSt.own_lt d1 j hj
  have nkd : ∀ j, Own pd vd j → ¬ KOwn pk vk j := fun j hj hk => by have := dO j hj; have := kl j hk; omega
  refine ⟨⟨fun i hi => ?_, fun i hi j hj => ?_, fun i hi j hj => ?_, fun i hi => ?_, fun i hi => ?_, fun i hi j hj => ?_, fun i hi j hj => ?_, fun i hi => ?_, ?_, ?_, ?_, ?_, ?_, fun j hj => ?_, fun k v hv => ?_⟩, hgrow.os.trans (db.os.trans kb.os), hgrow.tape.trans (db.tape.trans kb.tape), hgrow.output.trans (db.output.trans kb.output), hsz, fun j hj h0 => st j hj (by omega), fun j hj => ftag_old hj⟩
  · by_cases e : i = np
    · subst e
      rw [upd_same]
      refine KSt.move k1 (by simp; omega) (fun j hj => ?_)
      have hj1 : j < w1.heap.size := by
        rcases hj with hj | hj
        · exact KSt.qlt k1 j hj
        · exact kl j hj
      have hne : j ≠ bl ∧ j ≠ bP := by
        rcases hj with hj | hj
        · rcases kq j hj with hq | hq
          · have := h.kq r hr j hq
            exact ⟨fun e => by rw [e, h.tl] at this; omega, fun e => by rw [e, h.tP] at this; omega⟩
          · exact ⟨by omega, by omega⟩
        · have := ko j hj
          exact ⟨by omega, by omega⟩
      rw [fa2 j (by omega) hne.1 hne.2, db.block j hj1]
    · rw [upd_other _ _ e]
      refine KSt.move (h.kst i (by omega)) hsz (fun j hj => ?_)
      rcases hj with hj | hj
      · exact st j (KSt.qlt (h.kst i (by omega)) j hj) (by rw [h.kq i (by omega) j hj]; omega)
      · exact st j (KSt.own_lt (h.kst i (by omega)) j hj) (by rw [h.kown i (by omega) j hj]; omega)
  · by_cases e : i = np
    · subst e
      rw [upd_same] at hj
      exact ftag_k (ko j hj) hj
    · rw [upd_other _ _ e] at hj
      rw [ftag_old (KSt.own_lt (h.kst i (by omega)) j hj)]
      exact h.kown i (by omega) j hj
  · by_cases e : i = np
    · subst e
      rw [upd_same] at hj
      have hj' : Qk j := hj
      by_cases hl : j < w.heap.size
      · rw [ftag_old hl]
        rcases kq j hj' with hq | hq
        · exact h.kq r hr j hq
        · omega
      · have hj1 : j < w1.heap.size := KSt.qlt k1 j hj'
        refine ftag_no (by omega) (fun hk => ?_) (fun hd => by have := dO j hd; omega) (fun e => ?_)
        · obtain ⟨a1, a2, a3, a4⟩ := KSt.dis k1 j hj'
          rcases hk with h | h | h | h
          · exact a1 h
          · exact a2 h
          · exact a3 h
          · exact a4 h
        · rcases hat with e2 | e2 <;> omega
    · rw [upd_other _ _ e] at hj
      rw [ftag_old (KSt.qlt (h.kst i (by omega)) j hj)]
      exact h.kq i (by omega) j hj
  · by_cases e : i = np
    · subst e
      rw [upd_same]
      exact h.kok r hr
    · rw [upd_other _ _ e]
      exact h.kok i (by omega)
  · by_cases e : i = np
    · subst e
      rw [upd_same]
      refine DSt.move d1 (by simp; omega) (fun j hj => ?_)
      have hj1 : j < w2.heap.size := by
        rcases hj with hj | hj
        · exact DSt.qlt d1 j hj
        · exact dl j hj
      have hne : j ≠ bl ∧ j ≠ bP := by
        rcases hj with hj | hj
        · have := h.dq r hr j hj
          exact ⟨fun e => by rw [e, h.tl] at this; omega, fun e => by rw [e, h.tP] at this; omega⟩
        · have := dO j hj
          exact ⟨by omega, by omega⟩
      exact fa2 j hj1 hne.1 hne.2
    · rw [upd_other _ _ e]
      refine DSt.move (h.dst i (by omega)) hsz (fun j hj => ?_)
      rcases hj with hj | hj
      · exact st j (DSt.qlt (h.dst i (by omega)) j hj) (by rw [h.dq i (by omega) j hj]; omega)
      · exact st j (DSt.own_lt (h.dst i (by omega)) j hj) (by rw [h.down i (by omega) j hj]; omega)
  · by_cases e : i = np
    · subst e
      rw [upd_same] at hj
      exact ftag_d (by have := dO j hj; omega) (nkd j hj) hj
    · rw [upd_other _ _ e] at hj
      rw [ftag_old (DSt.own_lt (h.dst i (by omega)) j hj)]
      exact h.down i (by omega) j hj
  · have hj' : ∃ i, i < np ∧ (P i).Qd j := by
      by_cases e : i = np
      · subst e
        rw [upd_same] at hj
        exact ⟨r, hr, hj⟩
      · rw [upd_other _ _ e] at hj
        exact ⟨i, by omega, hj⟩
    obtain ⟨i', hi', hj2⟩ := hj'
    rw [ftag_old (DSt.qlt (h.dst i' hi') j hj2)]
    exact h.dq i' hi' j hj2
  · by_cases e : i = np
    · subst e
      rw [upd_same]
      exact h.dok r hr
    · rw [upd_other _ _ e]
      exact h.dok i (by omega)
  · have rowP : w4.rowIs bP 55 2 (fun j => if j = 0 then .slice (some ⟨bl, 0, none⟩) np cP else vL) := h.row.of_block (by rw [far bP (by omega) (Ne.symm nPl), db.block bP (by omega), kb.block bP zP])
    refine (rowP.set 0 _).congr (fun j hj => ?_)
    have hj' : j = 0 ∨ j = 1 := by omega
    rcases hj' with rfl | rfl <;> rfl
  · rw [ftag_old zP]
    exact h.tP
  · rw [prl_more]
    exact ownsRow_setCell_other hown (fun e => gP (own_blk e)) _
  · rcases hat with e | e
    · rw [← e, ftag_old zl]
      exact h.tl
    · exact ftag_g (by omega) (fun hk => by have := kl g hk; omega) (fun hd => by have := dl g hd; omega) rfl
  · refine own_of_block h.lst (fun j hj hlt => fa0 j hlt (fun e => ?_) (fun e => ?_))
    · rw [e] at hj
      exact own_ne_row h.lst f1 (by decide) hj
    · rw [e] at hj
      exact own_ne_row h.lst h.row (by decide) hj
  · rw [ftag_old (own_lt h.lst hj)]
    exact h.tL j hj
  · obtain ⟨⟨n, hn0, hn⟩, h2⟩ := h.els k v hv
    exact ⟨⟨n, hn0, hn.move hsz (fun j hj => st j (h2 j hj).1 (by rw [(h2 j hj).2]; omega))⟩, fun j hj => ⟨by have := (h2 j hj).1; omega, by rw [ftag_old (h2 j hj).1]; exact (h2 j hj).2⟩⟩

end Go.Proofs.YtbkdmibggjjnmaaGreatDoor

/-
  THE LAW: one step of a script: Fork.
-/
set_option linter.unusedVariables false
set_option linter.unusedSimpArgs false
namespace Go.Proofs.YtbkdmibggjjnmaaGreatDoor
open Go.RowKit
attribute [local go_sem ↓] Go.wp_at_zero Go.wp_at_succ

/-- What forks leaves. -/
def FrP (f : Frm) (b np : Nat) (P : Nat → Pr) (r nl : Nat) (xs : List Value) (tag : Nat → Nat) (bP : Nat) (vL : Value) (w : World) (e : Ending) (w' : World) : Prop :=
  e = .returned (.bool true) ∧ ∃ P' tag' bl' cP', PSt f b (np + 1) P' nl xs tag' bP bl' cP' vL w' ∧ (∀ i, i < np → P' i = P i) ∧ ((P' np).ck = (P r).ck ∧ (P' np).cd = (P r).cd) ∧ Kept tag tag' w w'

set_option maxRecDepth 100000 in
set_option maxHeartbeats 3000000 in
theorem pforks_any {f : Frm} {b np : Nat} {P : Nat → Pr} {nl : Nat} {xs : List Value} {tag : Nat → Nat} {bP bl cP : Nat} {vL : Value} {w : World} (h : PSt f b np P nl xs tag bP bl cP vL w) {r : Nat} (hr : r < np) (hf : f.Ok) (np2 : np ≤ 1000000000000) (hb : b ≤ 10000000000) :
    Calls Tryz.prog 35 #[.pointer (some ⟨bP, 0, none⟩), .agg #[.pointer (some ⟨(P r).pk.bp, 0, none⟩), .pointer (some ⟨(P r).pd.bw, 0, none⟩)]] w fun e w' => FrP f b np P r nl xs tag bP vL w e w' := by
  obtain ⟨iP, y1, y2⟩ := Option.map_eq_some_iff.1 info56
  simp only [Prod.mk.injEq] at y2
  have IP := hid y1
  have ZP := hid y2
  clear y1 y2
  have KF := hid (fun W (hW : Below w.heap.size w W) => kFork_any (show KAt (P r).Qk f (P r).pk (P r).ck (P r).vk W from KSt.drop (h.kst r hr) hW) hf (by have := few_len (h.kok r hr).1 (h.kok r hr).2 hb; omega))
  have DF := hid (fun W (hW : Below w.heap.size w W) => dFork_any (show DAt (P r).Qd f (P r).pd (P r).cd (P r).vd W from DSt.drop (h.dst r hr) hW) hf (by have := few_len (h.dok r hr).1 (h.dok r hr).2 hb; omega))
  have H := hid h
  have HBX := hid (Below.refl (w.heap.size + 1) (w.alloc (.cells #[.pointer (some ⟨(P r).pk.bp, 0, none⟩), .pointer (some ⟨(P r).pd.bw, 0, none⟩)] 57)))
  have f0 := boxed HBX.out 0
  simp at f0
  clear h hf
  go_enter Tryz.func35, Tryz.ntmps35
  go_wp2_with fail
  refine (KF.out _ (boxed_below HBX.out)).mono ?_
  rintro e1 w1 ⟨Qk, pk, vk, rfl, k1, k2, k3, k4⟩
  have B1 : Hid (Below (w.heap.size + 1) (w.alloc (.cells #[.pointer (some ⟨(P r).pk.bp, 0, none⟩), .pointer (some ⟨(P r).pd.bw, 0, none⟩)] 57)) w1) := by have h := k2; rw [World.size_alloc] at h; exact h
  have K1 := hid k1
  have K3 : Hid (∀ j, KOwn pk vk j → w.heap.size ≤ j) := fun j hj => by have := k3 j hj; simp at this; omega
  have K4 : Hid (∀ j, Qk j → (P r).Qk j ∨ w.heap.size ≤ j) := fun j hj => by
    rcases k4 j hj with h | h
    · exact Or.inl h
    · simp at h
      exact Or.inr (by omega)
  clear k1 k2 k3 k4 f0 KF HBX
  have f1 := boxed B1.out 1
  simp at f1
  go_wp2_with fail
  refine (DF.out _ (boxed_below B1.out)).mono ?_
  rintro e2 w2 ⟨pd, vd, rfl, d1, d2, d3⟩
  have D1 := hid d1
  have D2 := hid d2
  have D3 := hid d3
  have BW : Hid (Below w.heap.size w w2) := (boxed_below B1.out).trans (d2.mono (boxed_below B1.out).size)
  clear d1 d2 d3 f1 DF
  have hp := H.out.drop BW.out
  have r0 := hp.row.cell (i := 0) (by omega)
  have rz := hp.row.frozen 0
  simp at r0
  have zP := hp.row.lt
  have OWN := hid hp.prs
  have NPl : Hid (bl ≠ bP) := by
    obtain ⟨gg, N, g1, _, _⟩ := hp.prow
    exact row_ne g1 hp.row (by decide)
  clear hp
  go_wp2_with (at_builtin; refine wpList_append_lies _ rfl (.tmp 19) (.tmp 23) 52 rfl 0 57 iP _ 2 16 Tryz.underlying52 IP.out ZP.out.1 ZP.out.2.1 ZP.out.2.2 rfl (by omega) (.slice (some ⟨bl, 0, none⟩) np cP) np (prl P np) (by rfl) (own_alloc0 OWN.out _) ⟨w2.heap.size, 0, none⟩ 1 1 [.pointer (some ⟨pk.bp, 0, none⟩), .pointer (some ⟨pd.bw, 0, none⟩)] (by rfl) (by rfl) (news2' _ _ _ _) (by simp [Value.oneCell']) (by omega) (by unfold maxLen; omega) (by omega) (by omega) (w2.heap.size + 1) (by simp) ?_; intro g cap w4 hown hgrow hat hlt; refine stopH ?_)
  have hat' : bl = g ∨ g = w2.heap.size + 1 := by
    rcases hat with h | h
    · exact Or.inl (own_blk h)
    · exact Or.inr h
  have hgrow' : (w2.alloc (.cells #[.pointer (some ⟨pk.bp, 0, none⟩), .pointer (some ⟨pd.bw, 0, none⟩)] 57)).grownBy w4 (some bl) := hgrow
  have hbk : w4.heap[bP]? = w2.heap[bP]? := (hgrow'.block bP (by simp; omega) (fun e => NPl.out (by simpa using e.symm))).trans (Below.heap_alloc w2 _ bP zP)
  have e8 : w4.cell? ⟨bP, 0, none⟩ = some (.slice (some ⟨bl, 0, none⟩) np cP) := by rw [World.cell?_of_block (w := w2) hbk]; exact r0
  have e9 : w4.frozen? ⟨bP, 0, none⟩ = false := by rw [World.frozen?_of_block (w := w2) hbk]; exact rz
  have R : Hid (FrP f b np P r nl xs tag bP vL w (.returned (.bool true)) (w4.setCell ⟨bP, 0, none⟩ (.slice (some ⟨g, 0, none⟩) (np + 1) cap))) := by
    obtain ⟨s1, s2⟩ := H.out.fork hr K1.out (boxed_below B1.out) K3.out K4.out D1.out D2.out D3.out hown hgrow' hat'
    exact ⟨rfl, _, _, g, cap, s1, fun i hi => upd_other _ _ (by omega), ⟨by rw [upd_same], by rw [upd_same]⟩, s2⟩
  clear hown hgrow hgrow' hat hat' hlt hbk r0 rz
  refine hid ?_
  go_wp2
  go_ret
  exact R.out

set_option maxRecDepth 100000 in
set_option maxHeartbeats 3000000 in
theorem step_fork {f : Frm} {b np : Nat} {P : Nat → Pr} {nl : Nat} {xs : List Value} {tag : Nat → Nat} {bP bl cP : Nat} {vL : Value} {w : World} (h : PSt f b np P nl xs tag bP bl cP vL w) (hsame : ∀ i, i < np → (P i).ck = (P i).cd) (hf : f.Ok) (np1 : 1 ≤ np) (np2 : np ≤ 1000000000000) (hb : b ≤ 10000000000) (cs a v : Int) (c1 : -9223372036854775808 ≤ cs) (c2 : cs < 9223372036854775808) :
    Calls Tryz.prog 14 #[.pointer (some ⟨bP, 0, none⟩), .agg #[.int .i64 6, .int .i64 cs, .int .i64 a, .int .i64 v]] w fun e w' => StpQ f b np nl xs tag bP vL w e w' := by
  have hr : pickN cs np < np := pickN_lt np1
  have PK := hid (fun W => pick_law cs np W c1 c2 np1 np2)
  have hb0 : Below w.heap.size w (w.alloc (.cells #[.int .i64 6, .int .i64 cs, .int .i64 a, .int .i64 v] 37)) := (Below.refl _ _).alloc (Nat.le_refl _) _
  have hp := h.drop hb0
  have r0 := hp.row.cell (i := 0) (by omega)
  simp at r0
  obtain ⟨g, N, g1, g2, g3⟩ := hp.prow
  have y0 := g1.cell (i := pickN cs np * 2) (by omega)
  have y1 := g1.cell (i := pickN cs np * 2 + 1) (by omega)
  rw [g3 _ (by omega)] at y0 y1
  unfold prf at y0 y1
  rw [if_pos (by omega), show pickN cs np * 2 / 2 = pickN cs np by omega] at y0
  rw [if_neg (by omega), show (pickN cs np * 2 + 1) / 2 = pickN cs np by omega] at y1
  have gl := g1.lt
  have zP := hp.row.lt
  have HBX := hid (Below.refl (w.heap.size + 1) (w.alloc (.cells #[.int .i64 6, .int .i64 cs, .int .i64 a, .int .i64 v] 37)))
  have b0 := boxed HBX.out 0
  have b1 := boxed HBX.out 1
  have b2 := boxed HBX.out 2
  have b3 := boxed HBX.out 3
  simp at b0 b1 b2 b3
  have H := hid h
  have HF := hid hf
  have HSAME := hid hsame
  clear h hf hsame g1 g2 g3 hp hb0
  generalize hrr : pickN cs np = r at *
  clear hrr
  go_enter Tryz.func14, Tryz.ntmps14
  go_wp2_with fail
  go_region_held3 (fun w' => w'.cell? ⟨bP, 0, none⟩ = some (.slice (some ⟨bl, 0, none⟩) np cP) ∧ w'.cell? ⟨bl, r * 2, none⟩ = some (.pointer (some ⟨(P r).pk.bp, 0, none⟩)) ∧ w'.cell? ⟨bl, r * 2 + 1, none⟩ = some (.pointer (some ⟨(P r).pd.bw, 0, none⟩)) ∧ w'.cell? ⟨w.heap.size, 1, none⟩ = some (.int .i64 cs))
    (go_keep)
    ((go_at_call 26; refine (PK.out _).mono ?_; rintro e w2 ⟨rfl, rfl⟩))
  all_goals (
    obtain ⟨W1, hW1, v1, v2, v3⟩ := of_rows w 6 cs a v (P r).pk.bp (P r).pd.bw
    rw [← hW1]
    clear hW1 y0 y1 r0 b0 b1 b2 b3 HBX gl zP
    have V1 := hid v1
    have V2 := hid v2
    have V3 := hid v3
    have H1 := hid (H.out.drop v1)
    have KOK := hid (H.out.kok r hr)
    have DOK := hid (H.out.dok r hr)
    clear v1 v2 v3
    have x0 := V2.out.cell (i := 0) (by omega)
    have x2 := V2.out.cell (i := 2) (by omega)
    have x3 := V2.out.cell (i := 3) (by omega)
    have p0 := V3.out.cell (i := 0) (by omega)
    have p1 := V3.out.cell (i := 1) (by omega)
    have zz := V3.out.lt
    simp [of4] at x0 x2 x3
    simp [of2] at p0 p1
    go_wp2_with fail
    refine (pforks_any H1.out hr HF.out np2 hb).mono ?_
    rintro e1 w2 ⟨rfl, P', tag', bl', cP', q1, q2, q3, q4⟩
    have RR : Hid (StpQ f b np nl xs tag bP vL w (.returned (.bool true)) w2) := ⟨rfl, np + 1, P', tag', bl', cP', by omega, by omega, q1, fun i hi => (by
      by_cases e : i = np
      · rw [e, q3.1, q3.2]; exact HSAME.out r hr
      · rw [q2 i (by omega)]; exact HSAME.out i (by omega)), (Kept.of V1.out).trans q4⟩
    clear q1 q2 q3 q4 x0 x2 x3 p0 p1
    go_wp2
    go_ret
    exact RR.out)

theorem forky : Forky := fun f b np P nl xs tag bP bl cP vL w h hsame hf np1 np2 hb cs a v c1 c2 => step_fork h hsame hf np1 np2 hb cs a v c1 c2

end Go.Proofs.YtbkdmibggjjnmaaGreatDoor
