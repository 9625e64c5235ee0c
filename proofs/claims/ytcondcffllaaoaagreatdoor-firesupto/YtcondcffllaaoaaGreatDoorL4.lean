/-
  THE LAW: what a pair shows: values; events that are the same.
-/
import Derived.Test.YtcondcffllaaoaaGreatDoorL1
set_option linter.unusedVariables false
set_option linter.unusedSimpArgs false
namespace Go.Proofs.YtcondcffllaaoaaGreatDoor
open Go.RowKit
attribute [local go_sem ↓] Go.wp_at_zero Go.wp_at_succ

/-- It is so, and nothing that was there has turned. -/
def TPost (w : World) (e : Ending) (w' : World) : Prop := e = .returned (.bool true) ∧ Below w.heap.size w w'

set_option maxRecDepth 100000 in
set_option maxHeartbeats 2000000 in
theorem pvals_any {Qk Qd : Nat → Prop} {f : Frm} {pk : KPl} {pd : Pl} {m : Cs} {vk vd : Value} {w : World} (hK : KAt Qk f pk m vk w) (hS : DAt Qd f pd m vd w) (hf : f.Ok) (hm : m.Ok f) :
    Calls Tryz.prog 22 #[.agg #[.pointer (some ⟨pk.bp, 0, none⟩), .pointer (some ⟨pd.bw, 0, none⟩)]] w fun e w' => TPost w e w' := by
  obtain ⟨n1, hn, hk, wk1, wk2⟩ := hf.sizes
  have KV := hid (fun W (hW : Below w.heap.size w W) (c : Int) => kValue_any c (show KAt Qk f pk m vk W from KSt.drop hK hW) hf hm)
  have WV := hid (fun W (hW : Below w.heap.size w W) (c : Int) => dValue_any c (DSt.drop hS hW) hf hm.fv hm.t0 hm.t1)
  have NW := hid (fun W (hW : Below w.heap.size w W) => now_any (show KAt Qk f pk m vk W from KSt.drop hK hW))
  have W5 := hid (fun W (hW : Below w.heap.size w W) => (DSt.drop hS hW).row.cell (i := 5) (by omega))
  have W0 := hid (fun W (hW : Below w.heap.size w W) => (DSt.drop hS hW).row.cell (i := 0) (by omega))
  have HBX := hid (Below.refl (w.heap.size + 1) (w.alloc (.cells #[.pointer (some ⟨pk.bp, 0, none⟩), .pointer (some ⟨pd.bw, 0, none⟩)] 57)))
  have HB0 := hid (boxed_below HBX.out)
  have y5 := W5.out _ HB0.out
  simp [wf] at y5
  clear hK hS hf hm
  go_enter Tryz.func22, Tryz.ntmps22
  go_wp2_with (go_at_call 51; refine (NW.out _ HB0.out).mono ?_; rintro e w' ⟨rfl, rfl⟩)
  clear NW W5 y5 HB0
  go_loopw [4] (fun t wr => ∃ (m : Nat), m ≤ f.n + 2 ∧ t = .int .i64 ((m : Int) - 1) ∧ Hid (Below (w.heap.size + 1) (w.alloc (.cells #[.pointer (some ⟨pk.bp, 0, none⟩), .pointer (some ⟨pd.bw, 0, none⟩)] 57)) wr)) (fun t _ => f.n + 2 - (intOf t + 1).toNat)
  case atStart => exact ⟨0, by omega, rfl, HBX⟩
  case round =>
    obtain ⟨c, m1, rfl, hb⟩ := hrel
    have f0 := boxed hb.out 0
    have f1 := boxed hb.out 1
    simp at f0 f1
    have hbw := hid (boxed_below hb.out)
    have y0 := W0.out _ hbw.out
    simp [wf] at y0
    by_cases hm : c ≤ f.n + 1
    · have lt' : (c : Int) - 1 ≤ (f.n : Int) := by omega
      go_wp2_with fail
      refine (KV.out _ hbw.out _).mono ?_
      rintro e1 w1 ⟨rfl, q1⟩
      have hb1 : Hid (Below (w.heap.size + 1) (w.alloc (.cells #[.pointer (some ⟨pk.bp, 0, none⟩), .pointer (some ⟨pd.bw, 0, none⟩)] 57)) w1) := hb.out.trans (q1.mono (by have := hb.out.size; simp at this; omega))
      have g0 := boxed hb1.out 0
      have g1 := boxed hb1.out 1
      simp at g0 g1
      have hbw1 := hid (boxed_below hb1.out)
      clear q1 f0 f1 y0 hb hbw
      go_wp2_with fail
      refine (WV.out _ hbw1.out _).mono ?_
      rintro e2 w2 ⟨rfl, q2⟩
      have hb2 : Hid (Below (w.heap.size + 1) (w.alloc (.cells #[.pointer (some ⟨pk.bp, 0, none⟩), .pointer (some ⟨pd.bw, 0, none⟩)] 57)) w2) := hb1.out.trans (q2.mono (by have := hb1.out.size; simp at this; omega))
      clear q2 g0 g1 hb1 hbw1
      go_wp2_with (go_at_call 19; refine (num_any _ _).mono ?_; rintro e w' ⟨rfl, rfl⟩)
      go_roundw
      case rel => exact ⟨c + 1, by omega, by go_num, hb2⟩
      case measure => simp [intOf]; omega
    · have R : Hid (TPost w (.returned (.bool true)) wr) := ⟨rfl, hbw.out⟩
      go_wp2
      go_ret
      exact R.out

theorem hE : Tryz.prog.stoodInHeld 103 = false := by kernel_rfl
theorem uE : Tryz.prog.underlying 103 = some (.struct (Tryz.prog.fieldsOf 103)) := by simp only [Program.fieldsOf, Tryz.underlying103]
theorem gE : Tryz.prog.eqGuardType Tryz.prog.depth 103 = false := by kernel_rfl
theorem hSt' : Tryz.prog.stoodInHeld 94 = false := by kernel_rfl
theorem uSt : Tryz.prog.underlying 94 = some (.struct (Tryz.prog.fieldsOf 94)) := by simp only [Program.fieldsOf, Tryz.underlying94]
theorem gSt : Tryz.prog.eqGuardType Tryz.prog.depth 94 = false := by kernel_rfl

theorem eqE (a b c : Int) (W : World) : (Op.equalIn 10000 103 (.agg #[.int .i64 a, .int .i64 b, .int .i64 c]) (.agg #[.int .i64 a, .int .i64 b, .int .i64 c])).run Tryz.prog W = .ok true W := by
  rw [run_equalIn_agg W _ 103 _ _ uE hE]
  simp [Program.fieldsOf, Tryz.underlying103, Op.eqFields, go_sem, Tryz.underlying3]
theorem eqSt (a : Bool) (b c : Int) (d : Bool) (W : World) : (Op.equalIn 10000 94 (.agg #[.bool a, .int .i64 b, .int .i64 c, .bool d]) (.agg #[.bool a, .int .i64 b, .int .i64 c, .bool d])).run Tryz.prog W = .ok true W := by
  rw [run_equalIn_agg W _ 94 _ _ uSt hSt']
  simp [Program.fieldsOf, Tryz.underlying94, Op.eqFields, go_sem, Tryz.underlying3, Tryz.underlying4]
attribute [local go_sem] eqE eqSt

set_option maxRecDepth 100000 in
set_option maxHeartbeats 2000000 in
theorem sameEv_any {L : List Ev} {ba bb : Nat} {va vb : Value} {w : World} (ha : w.ownsRow ba 103 3 va L.length (evs L)) (hb : w.ownsRow bb 103 3 vb L.length (evs L)) (hL : L.length ≤ 1000000000000) :
    Calls Tryz.prog 83 #[va, vb] w fun e w' => TPost w e w' := by
  obtain ⟨aa, ca, rfl⟩ := own_len ha
  obtain ⟨ab, cb, rfl⟩ := own_len hb
  have HA := hid ha
  have HB := hid hb
  clear ha hb
  go_enter Tryz.func83, Tryz.ntmps83
  go_wp2
  have hm := gE
  go_loopw [5] (fun t wr => ∃ i : Nat, i ≤ L.length ∧ t = .int .i64 i ∧ Hid (Below w.heap.size w wr)) (fun t _ => L.length - (intOf t).toNat)
  case atStart => exact ⟨0, by omega, rfl, Below.refl _ _⟩
  case round =>
    obtain ⟨i, i1, rfl, hb⟩ := hrel
    by_cases hit : i < L.length
    · have lt' : (i : Int) < (L.length : Int) := by omega
      have ha2 := own_of_block HA.out (w' := wr) (fun g _ hlt => hb.out.block g hlt)
      have hb2 := own_of_block HB.out (w' := wr) (fun g _ hlt => hb.out.block g hlt)
      obtain ⟨ga, ca', e1, za, _, x0, x1, x2⟩ := own_evs ha2 (List.getElem?_eq_getElem hit)
      obtain ⟨gb, cb', e2, zb, _, y0, y1, y2⟩ := own_evs hb2 (List.getElem?_eq_getElem hit)
      simp at e1 e2
      obtain ⟨rfl, rfl⟩ := e1
      obtain ⟨rfl, rfl⟩ := e2
      clear ha2 hb2
      generalize L[i] = ee at *
      go_wp2
      go_region
      go_wp2
      go_roundw
      case rel => exact ⟨i + 1, by omega, by go_num, hb.out.drew⟩
      case measure => simp [intOf]; omega
    · have R : Hid (TPost w (.returned (.bool true)) wr) := ⟨rfl, hb.out⟩
      go_wp2
      go_ret
      exact R.out

end Go.Proofs.YtcondcffllaaoaaGreatDoor

/-
  THE LAW: a list that came out is its owner's.
-/
set_option linter.unusedVariables false
set_option linter.unusedSimpArgs false
namespace Go.Proofs.YtcondcffllaaoaaGreatDoor
open Go.RowKit
attribute [local go_sem ↓] Go.wp_at_zero Go.wp_at_succ

theorem infoL : (Tryz.prog.info? 63).map (fun i => (i.zero, i.size, i.bytes)) = some (some (.slice none 0 0), 1, 24) := by kernel_rfl

theorem PSt.list {f : Frm} {b np : Nat} {P : Nat → Pr} {nl : Nat} {xs : List Value} {tag tag' : Nat → Nat} {bP bl cP : Nat} {vL vL' x : Value} {w W : World} (h : PSt f b np P nl xs tag bP bl cP vL w) (hsz : w.heap.size ≤ W.heap.size) (hst : ∀ j, j < w.heap.size → tag j ≠ 1 → W.heap[j]? = w.heap[j]?) (ht : ∀ j, j < w.heap.size → tag' j = tag j)
    (hrow : W.rowIs bP 55 2 (fun j => if j = 0 then .slice (some ⟨bl, 0, none⟩) np cP else vL')) (hbl : W.heap[bl]? = w.heap[bl]?) (hl : W.ownsRow 0 63 1 vL' (nl + 1) (xs ++ [x])) (hL : ∀ j, vL'.ownBlock = some j → tag' j = 1)
    (hx : (∃ n, n ≤ 9223372036854775807 ∧ SlAt W x n 3 (fun _ => .int .i64 (-1 - (nl : Int)))) ∧ ∀ j, x.ownBlock = some j → j < W.heap.size ∧ tag' j = 4 + 3 * nl) : PSt f b np P (nl + 1) (xs ++ [x]) tag' bP bl cP vL' W := by
  obtain ⟨g, N, f1, f2, f3⟩ := h.prow
  refine ⟨fun i hi => ?_, fun i hi j hj => ?_, fun i hi j hj => ?_, h.kok, fun i hi => ?_, fun i hi j hj => ?_, fun i hi j hj => ?_, h.dok, hrow, by rw [ht _ h.row.lt]; exact h.tP, own_of_block h.prs (fun j hj _ => by rw [← own_blk hj]; exact hbl), by rw [ht _ f1.lt]; exact h.tl, hl, hL, fun k v hv => ?_⟩
  · refine KSt.move (h.kst i hi) hsz (fun j hj => ?_)
    rcases hj with hj | hj
    · exact hst j (KSt.qlt (h.kst i hi) j hj) (by rw [h.kq i hi j hj]; omega)
    · exact hst j (KSt.own_lt (h.kst i hi) j hj) (by rw [h.kown i hi j hj]; omega)
  · rw [ht _ (KSt.own_lt (h.kst i hi) j hj)]; exact h.kown i hi j hj
  · rw [ht _ (KSt.qlt (h.kst i hi) j hj)]; exact h.kq i hi j hj
  · refine DSt.move (h.dst i hi) hsz (fun j hj => ?_)
    rcases hj with hj | hj
    · exact hst j (DSt.qlt (h.dst i hi) j hj) (by rw [h.dq i hi j hj]; omega)
    · exact hst j (DSt.own_lt (h.dst i hi) j hj) (by rw [h.down i hi j hj]; omega)
  · rw [ht _ (DSt.own_lt (h.dst i hi) j hj)]; exact h.down i hi j hj
  · rw [ht _ (DSt.qlt (h.dst i hi) j hj)]; exact h.dq i hi j hj
  · have hlen : xs.length = nl := by have := h.lst.1; omega
    by_cases hk : k < nl
    · rw [List.getElem?_append_left (by omega)] at hv
      obtain ⟨⟨n, hn0, hn⟩, h2⟩ := h.els k v hv
      exact ⟨⟨n, hn0, hn.move hsz (fun j hj => hst j (h2 j hj).1 (by rw [(h2 j hj).2]; omega))⟩, fun j hj => ⟨by have := (h2 j hj).1; omega, by rw [ht _ (h2 j hj).1]; exact (h2 j hj).2⟩⟩
    · rw [List.getElem?_append_right (by omega)] at hv
      have hk0 : k - xs.length = 0 := by
        rcases Nat.eq_zero_or_pos (k - xs.length) with e | e
        · exact e
        · rw [List.getElem?_eq_none (by simp; omega)] at hv; cases hv
      rw [hk0] at hv
      have ev : x = v := by simpa using hv
      obtain rfl : k = nl := by omega
      rw [← ev]
      exact hx

theorem news1' (w : World) (a : Value) (t : TypeId) : ∀ j u, [a][j]? = some u → (w.alloc (.cells #[a] t)).cell? ((⟨w.heap.size, 0, none⟩ : Addr).add j) = some u :=
  World.news_of_block (cs := #[a]) (t := t) (fr := (0, 0)) (by show (w.heap.push _)[w.heap.size]? = _; simp)

/-- What keep leaves. -/
def KpP (f : Frm) (b np : Nat) (P : Nat → Pr) (nl : Nat) (tag : Nat → Nat) (bP bl cP : Nat) (w0 : World) (e : Ending) (w' : World) : Prop :=
  e = .returned (.tuple #[]) ∧ ∃ xs' tag' vL', PSt f b np P (nl + 1) xs' tag' bP bl cP vL' w' ∧ Kept tag tag' w0 w'

def ltag (tag : Nat → Nat) (B : Nat) (v : Value) (t : Nat) (j : Nat) : Nat := if j < B then tag j else if v.ownBlock = some j then t else 1

/-- The list goes behind the others. -/
theorem keep_close {f : Frm} {b np : Nat} {P : Nat → Pr} {nl : Nat} {xs : List Value} {tag : Nat → Nat} {bP bl cP : Nat} {vL : Value} {w0 wr w4 : World} {o : Obj} {x : Value} {n g2 cap2 : Nat} (h : PSt f b np P nl xs tag bP bl cP vL w0) (hb : Below w0.heap.size w0 wr)
    (hn : n ≤ 9223372036854775807) (hx : SlAt wr x n 3 (fun _ => .int .i64 (-1 - (nl : Int)))) (hx2 : ∀ j, x.ownBlock = some j → w0.heap.size ≤ j ∧ j < wr.heap.size)
    (hown : w4.ownsRow 0 63 1 (.slice (some ⟨g2, 0, none⟩) (nl + 1) cap2) (nl + 1) (xs ++ [x])) (hgrow : (wr.alloc o).grownBy w4 vL.ownBlock) (hat : vL.ownBlock = some g2 ∨ g2 = wr.heap.size + 1) :
    KpP f b np P nl tag bP bl cP w0 (.returned (.tuple #[])) (w4.setCell ⟨bP, 1, none⟩ (.slice (some ⟨g2, 0, none⟩) (nl + 1) cap2)) := by
  obtain ⟨g, N, f1, f2, f3⟩ := h.prow
  have zP := h.row.lt
  have sb := hb.size
  have hsz := hgrow.size
  simp at hsz
  have far : ∀ j, j < wr.heap.size → vL.ownBlock ≠ some j → w4.heap[j]? = wr.heap[j]? := fun j hj hn => (hgrow.block j (by simp; omega) (fun e => hn e.symm)).trans (Below.heap_alloc wr o j hj)
  have nP : vL.ownBlock ≠ some bP := own_ne_row h.lst h.row (by decide)
  have nl' : vL.ownBlock ≠ some bl := own_ne_row h.lst f1 (by decide)
  have nPl : bl ≠ bP := row_ne f1 h.row (by decide)
  have rowP : w4.rowIs bP 55 2 (fun j => if j = 0 then .slice (some ⟨bl, 0, none⟩) np cP else vL) := (h.row.of_block (hb.block _ zP)).of_block (far _ (by omega) nP)
  have g2ne : (Value.slice (some ⟨g2, 0, none⟩) (nl + 1) cap2).ownBlock ≠ some bP := by
    intro e
    have e' : g2 = bP := by simpa [Value.ownBlock] using e
    rcases hat with hh | hh
    · rw [e'] at hh; exact nP hh
    · omega
  refine ⟨rfl, xs ++ [x], ltag tag w0.heap.size x (4 + 3 * nl), _, h.list (by simp; omega) (fun j hj ht => ?_) (fun j hj => if_pos hj) ((rowP.set 1 _).congr (fun j hj => ?_)) ?_ (ownsRow_setCell_other hown g2ne _) (fun j hj => ?_) ⟨⟨n, hn, hx.move (by simp; omega) (fun j hj => ?_)⟩, fun j hj => ?_⟩, ⟨hgrow.os.trans hb.os, hgrow.tape.trans hb.tape, hgrow.output.trans hb.output, by simp; omega, fun j hj h0 => ?_, fun j hj => if_pos hj⟩⟩
  · rw [Below.heap_setCell _ _ _ _ (fun e => ht (by rw [show j = bP from e]; exact h.tP)), far j (by omega) (fun e => ht (h.tL j e))]
    exact hb.block j hj
  · have hj' : j = 0 ∨ j = 1 := by omega
    rcases hj' with rfl | rfl <;> rfl
  · rw [Below.heap_setCell _ _ _ _ nPl, far bl (by have := f1.lt; omega) nl']
    exact hb.block bl f1.lt
  · have e' : g2 = j := by simpa [Value.ownBlock] using hj
    subst e'
    unfold ltag
    rcases hat with hh | hh
    · rw [if_pos (own_lt h.lst hh)]; exact h.tL _ hh
    · rw [if_neg (by omega), if_neg (fun e => by have := (hx2 _ e).2; omega)]
  · have hj2 := hx2 j hj
    rw [Below.heap_setCell _ _ _ _ (show j ≠ bP by omega), far j hj2.2 (fun e => by have := own_lt h.lst e; omega)]
  · have hj2 := hx2 j hj
    refine ⟨by simp; omega, ?_⟩
    unfold ltag
    rw [if_neg (by omega), if_pos hj]
  · rw [Below.heap_setCell _ _ _ _ (fun e => by have h1 := h.tP; rw [show j = bP from e, h1] at h0; omega), far j (by omega) (fun e => by have := h.tL j e; omega)]
    exact hb.block j hj

set_option maxRecDepth 100000 in
set_option maxHeartbeats 2000000 in
theorem keep_any {f : Frm} {b np : Nat} {P : Nat → Pr} {nl : Nat} {xs : List Value} {tag : Nat → Nat} {bP bl cP : Nat} {vL : Value} {w0 w : World} {L : List Ev} {v : Value} (h : PSt f b np P nl xs tag bP bl cP vL w0) (hb : Below w0.heap.size w0 w) (hv : w.ownsRow w0.heap.size 103 3 v L.length (evs L)) (hnl : nl ≤ 5500000000000) :
    Calls Tryz.prog 84 #[.pointer (some ⟨bP, 0, none⟩), v] w fun e w' => KpP f b np P nl tag bP bl cP w0 e w' := by
  obtain ⟨il, hi, hz⟩ := Option.map_eq_some_iff.1 infoL
  simp only [Prod.mk.injEq] at hz
  obtain ⟨hz0, hz1, hz2⟩ := hz
  have HI := hid hi
  have HZ0 := hid hz0
  have HZ1 := hid hz1
  have HZ2 := hid hz2
  clear hi hz0 hz1 hz2
  have H := hid h
  have HB := hid hb
  have hp := h.drop hb
  obtain ⟨al, cl, rfl⟩ := own_len hp.lst
  have r1 := hp.row.cell (i := 1) (by omega)
  simp at r1
  have zP := hp.row.lt
  have NP : Hid ((Value.slice al nl cl).ownBlock ≠ some bP) := own_ne_row hp.lst hp.row (by decide)
  have NV : Hid (-1 - (nl : Int) ≥ -9223372036854775808) := by show _ ≥ _; omega
  rcases hv.2 with ⟨rfl, h0⟩ | ⟨g, cap, cur, rfl, hgb, hh, h5, h6, h7, h8⟩
  · clear h hb hv
    have PW0 := hid hp
    clear hp
    go_enter Tryz.func84, Tryz.ntmps84
    go_wp2
    go_loopw [6] (fun t wr => t = .int .i64 0 ∧ wr = w) (fun _ _ => 0)
    case atStart => exact ⟨rfl, rfl⟩
    case round =>
      obtain ⟨rfl, rfl⟩ := hrel
      have PW := PW0
      have hbw := HB
      go_wp2_with (at_builtin; refine wpList_append_lies _ rfl (.tmp 34) (.tmp 36) 53 rfl 0 63 il _ 1 24 Tryz.underlying53 HI.out HZ0.out HZ1.out HZ2.out rfl (by omega) (.slice al nl cl) nl xs (by rfl) (own_alloc0 PW.out.lst _) ⟨wr.heap.size, 0, none⟩ 1 1 [.slice none 0 0] (by rfl) (by rfl) (news1' _ _ _) (by simp [Value.oneCell']) (by omega) (by unfold maxLen; omega) (by omega) (by omega) (wr.heap.size + 1) (by simp) ?_; intro g2 cap2 w4 hown2 hgrow hat hlt; refine stopH ?_)
      have zr := PW.out.row.lt
      have hbk : w4.heap[bP]? = wr.heap[bP]? := (hgrow.block bP (by simp; omega) (fun e => NP.out e.symm)).trans (Below.heap_alloc wr _ bP zr)
      have e8 : w4.cell? ⟨bP, 1, none⟩ = some (.slice al nl cl) := by rw [World.cell?_of_block (w := wr) hbk]; exact r1
      have e9 : w4.frozen? ⟨bP, 1, none⟩ = false := by rw [World.frozen?_of_block (w := wr) hbk]; exact PW.out.row.frozen 1
      have R := hid (keep_close H.out hbw.out (n := 0) (x := .slice none 0 0) (by omega) ⟨none, 0, rfl, fun j hj => by omega⟩ (fun j hj => by cases hj) hown2 hgrow hat)
      clear hown2 hgrow hat hlt hbk
      refine hid ?_
      go_wp2
      go_end0
      exact R.out
  · have ROW : Hid (w.rowIs g 103 (cap * 3) (fun j => if j < 0 * 3 then .int .i64 (-1 - (nl : Int)) else cur.getD j undef)) := ⟨cur, hh, h7, fun i hi => by
      show _ = some (if i < 0 * 3 then _ else _)
      have hi' : i < cur.size := by omega
      rw [if_neg (by omega)]
      simp [Array.getD, hi']⟩
    have hm : cap ≤ 9223372036854775807 := h6
    have zg := ROW.out.lt
    clear h hb hp hv hh h8 r1
    go_enter Tryz.func84, Tryz.ntmps84
    have r1 := (H.out.drop HB.out).row.cell (i := 1) (by omega)
    simp at r1
    go_wp2
    go_loopw [6] (fun t wr => ∃ i : Nat, i ≤ cap ∧ t = .int .i64 i ∧ Hid (wr.rowIs g 103 (cap * 3) (fun j => if j < i * 3 then .int .i64 (-1 - (nl : Int)) else cur.getD j undef)) ∧ Hid (Below w0.heap.size w0 wr)) (fun t _ => cap - (intOf t).toNat)
    case atStart => exact ⟨0, by omega, rfl, ROW, HB⟩
    case round =>
      clear r1 ROW zg
      obtain ⟨i, i1, rfl, hrow, hbw⟩ := hrel
      have PW := hid (H.out.drop hbw.out)
      have r1 := PW.out.row.cell (i := 1) (by omega)
      simp at r1
      have zg := hrow.out.lt
      by_cases hit : i < cap
      · have lt' : (i : Int) < (cap : Int) := by omega
        have c0 := hrow.out.cell (i := i * 3) (by omega)
        have c1 := hrow.out.cell (i := i * 3 + 1) (by omega)
        have c2 := hrow.out.cell (i := i * 3 + 2) (by omega)
        have cz : ∀ j, wr.frozen? ⟨g, j, none⟩ = false := fun j => hrow.out.frozen j
        have A1 : Hid ((((wr.setCell ⟨g, i * 3, none⟩ (.int .i64 (-1 - (nl : Int)))).setCell ⟨g, i * 3 + 1, none⟩ (.int .i64 (-1 - (nl : Int)))).setCell ⟨g, i * 3 + 2, none⟩ (.int .i64 (-1 - (nl : Int)))).rowIs g 103 (cap * 3) (fun j => if j < (i + 1) * 3 then .int .i64 (-1 - (nl : Int)) else cur.getD j undef)) := (((hrow.out.set _ _).set _ _).set _ _).congr (fun j _ => by
          show (if j = i * 3 + 2 then _ else if j = i * 3 + 1 then _ else if j = i * 3 then _ else if j < i * 3 then _ else _) = if j < (i + 1) * 3 then _ else _
          by_cases e2 : j = i * 3 + 2
          · rw [if_pos e2, if_pos (by omega)]
          by_cases e1 : j = i * 3 + 1
          · rw [if_neg e2, if_pos e1, if_pos (by omega)]
          by_cases e0 : j = i * 3
          · rw [if_neg e2, if_neg e1, if_pos e0, if_pos (by omega)]
          rw [if_neg e2, if_neg e1, if_neg e0]
          by_cases e3 : j < i * 3
          · rw [if_pos e3, if_pos (by omega)]
          · rw [if_neg e3, if_neg (by omega)])
        have A2 : Hid (Below w0.heap.size w0 (((wr.setCell ⟨g, i * 3, none⟩ (.int .i64 (-1 - (nl : Int)))).setCell ⟨g, i * 3 + 1, none⟩ (.int .i64 (-1 - (nl : Int)))).setCell ⟨g, i * 3 + 2, none⟩ (.int .i64 (-1 - (nl : Int))))) := ((hbw.out.setCell hgb _).setCell hgb _).setCell hgb _
        clear hrow hbw PW
        go_wp2
        go_roundw
        case rel => exact ⟨i + 1, by omega, by go_num, A1, A2⟩
        case measure => simp [intOf]; omega
      · obtain rfl : i = cap := by omega
        go_wp2_with (at_builtin; refine wpList_append_lies _ rfl (.tmp 34) (.tmp 36) 53 rfl 0 63 il _ 1 24 Tryz.underlying53 HI.out HZ0.out HZ1.out HZ2.out rfl (by omega) (.slice al nl cl) nl xs (by rfl) (own_alloc0 PW.out.lst _) ⟨wr.heap.size, 0, none⟩ 1 1 [.slice (some ⟨g, 0, none⟩) i i] (by rfl) (by rfl) (news1' _ _ _) (by simp [Value.oneCell']) (by omega) (by unfold maxLen; omega) (by omega) (by omega) (wr.heap.size + 1) (by simp) ?_; intro g2 cap2 w4 hown2 hgrow hat hlt; refine stopH ?_)
        have zr := PW.out.row.lt
        have hbk : w4.heap[bP]? = wr.heap[bP]? := (hgrow.block bP (by simp; omega) (fun e => NP.out e.symm)).trans (Below.heap_alloc wr _ bP zr)
        have e8 : w4.cell? ⟨bP, 1, none⟩ = some (.slice al nl cl) := by rw [World.cell?_of_block (w := wr) hbk]; exact r1
        have e9 : w4.frozen? ⟨bP, 1, none⟩ = false := by rw [World.frozen?_of_block (w := wr) hbk]; exact PW.out.row.frozen 1
        have R := hid (keep_close H.out hbw.out (n := i) (x := .slice (some ⟨g, 0, none⟩) i i) hm ⟨some ⟨g, 0, none⟩, i, rfl, fun j hj => ⟨g, 0, rfl, zg, by rw [Nat.zero_add, hrow.out.cell (by omega)]; show some (if j < i * 3 then _ else _) = _; rw [if_pos hj]⟩⟩ (fun j hj => by have e : g = j := (by simpa [Value.ownBlock] using hj); omega) hown2 hgrow hat)
        clear hown2 hgrow hat hlt hbk
        refine hid ?_
        go_wp2
        go_end0
        exact R.out

end Go.Proofs.YtcondcffllaaoaaGreatDoor
