/-
  THE LAW: Log, and the lists that came out.
-/
import Derived.Test.YtcondcffllaaoaaGreatDoorL4
import Derived.Test.YtcondcffllaaoaaGreatDoorL3
set_option linter.unusedVariables false
set_option linter.unusedSimpArgs false
namespace Go.Proofs.YtcondcffllaaoaaGreatDoor
open Go.RowKit
attribute [local go_sem ↓] Go.wp_at_zero Go.wp_at_succ
attribute [local go_sem] eqE eqSt

theorem own_mono {w : World} {b1 b2 : Nat} {e : TypeId} {size : Nat} {v : Value} {n : Nat} {xs : List Value} (h : w.ownsRow b1 e size v n xs) (hb : b2 ≤ b1) : w.ownsRow b2 e size v n xs := by
  refine ⟨h.1, ?_⟩
  rcases h.2 with h2 | ⟨g, cap, cur, a1, a2, a3⟩
  · exact Or.inl h2
  · exact Or.inr ⟨g, cap, cur, a1, by omega, a3⟩

/-- What a look leaves. -/
def LkP (f : Frm) (b np : Nat) (P : Nat → Pr) (nl' : Nat) (tag : Nat → Nat) (bP bl cP : Nat) (w : World) (e : Ending) (w' : World) : Prop :=
  e = .returned (.bool true) ∧ ∃ xs' tag' vL', PSt f b np P nl' xs' tag' bP bl cP vL' w' ∧ Kept tag tag' w w'

set_option maxRecDepth 100000 in
set_option maxHeartbeats 2000000 in
theorem log_any {f : Frm} {b np : Nat} {P : Nat → Pr} {nl : Nat} {xs : List Value} {tag : Nat → Nat} {bP bl cP : Nat} {vL : Value} {w : World} (h : PSt f b np P nl xs tag bP bl cP vL w) (hb : b ≤ 10000000000) {i : Nat} (hi : i < np) (hsame : (P i).ck = (P i).cd) (hnl : nl ≤ 5500000000000) (x : Int) :
    Calls Tryz.prog 56 #[.pointer (some ⟨bP, 0, none⟩), .agg #[.pointer (some ⟨(P i).pk.bp, 0, none⟩), .pointer (some ⟨(P i).pd.bw, 0, none⟩)], .int .i64 x] w fun e w' => LkP f b np P (nl + 1) tag bP bl cP w e w' := by
  have hlen : (P i).ck.E.length ≤ 999999999000 := few_len (h.kok i hi).1 (h.kok i hi).2 hb
  have KL := hid (fun W (hW : Below w.heap.size w W) => kLog_any x (show KAt (P i).Qk f (P i).pk (P i).ck (P i).vk W from KSt.drop (h.kst i hi) hW) (by omega))
  have DL := hid (fun W (hW : Below w.heap.size w W) => dLog_any x (show DAt (P i).Qd f (P i).pd (P i).cd (P i).vd W from DSt.drop (h.dst i hi) hW) (by rw [← hsame]; omega))
  rw [← hsame] at DL
  have H := hid h
  have HBX := hid (Below.refl (w.heap.size + 1) (w.alloc (.cells #[.pointer (some ⟨(P i).pk.bp, 0, none⟩), .pointer (some ⟨(P i).pd.bw, 0, none⟩)] 57)))
  have f0 := boxed HBX.out 0
  simp at f0
  clear h hsame
  go_enter Tryz.func56, Tryz.ntmps56
  go_wp2_with fail
  refine (KL.out _ (boxed_below HBX.out)).mono ?_
  rintro e1 w1 ⟨va, rfl, q1, q2⟩
  have B1 : Hid (Below (w.heap.size + 1) (w.alloc (.cells #[.pointer (some ⟨(P i).pk.bp, 0, none⟩), .pointer (some ⟨(P i).pd.bw, 0, none⟩)] 57)) w1) := by have h := q2; rw [World.size_alloc] at h; exact h
  have O1 : Hid (w1.ownsRow w.heap.size 103 3 va ((P i).ck.E.drop x.toNat).length (evs ((P i).ck.E.drop x.toNat))) := own_mono q1 (by simp)
  have f1 := boxed B1.out 1
  simp at f1
  clear q1 q2 f0 KL HBX
  go_wp2_with fail
  refine (DL.out _ (boxed_below B1.out)).mono ?_
  rintro e2 w2 ⟨vb, rfl, q1, q2⟩
  have B2 : Hid (Below w.heap.size w w2) := (boxed_below B1.out).trans (q2.mono (by have := B1.out.size; simp at this; omega))
  have O2 : Hid (w2.ownsRow w.heap.size 103 3 va ((P i).ck.E.drop x.toNat).length (evs ((P i).ck.E.drop x.toNat))) := own_of_block O1.out (fun g _ hlt => q2.block g hlt)
  have O3 := hid q1
  clear q1 q2 f1 DL O1 B1
  have LE : ((P i).ck.E.drop x.toNat).length ≤ 1000000000000 := by rw [List.length_drop]; omega
  go_wp2_with fail
  refine (sameEv_any O2.out O3.out LE).mono ?_
  rintro e3 w3 ⟨rfl, q2⟩
  have B3 : Hid (Below w.heap.size w w3) := B2.out.trans (q2.mono B2.out.size)
  have O4 : Hid (w3.ownsRow w.heap.size 103 3 va ((P i).ck.E.drop x.toNat).length (evs ((P i).ck.E.drop x.toNat))) := own_of_block O2.out (fun g _ hlt => q2.block g hlt)
  clear q2 O2 O3 B2
  go_wp2_with fail
  refine (keep_any H.out B3.out O4.out hnl).mono ?_
  rintro e4 w4 ⟨rfl, xs', tag', vL', k1, k2⟩
  have R : Hid (LkP f b np P (nl + 1) tag bP bl cP w (.returned (.bool true)) w4) := ⟨rfl, xs', tag', vL', k1, k2⟩
  clear k1 k2
  go_wp2
  go_ret
  exact R.out

set_option maxRecDepth 100000 in
set_option maxHeartbeats 2000000 in
theorem kept_any {f : Frm} {b np : Nat} {P : Nat → Pr} {nl : Nat} {xs : List Value} {tag : Nat → Nat} {bP bl cP : Nat} {vL : Value} {w : World} (h : PSt f b np P nl xs tag bP bl cP vL w) (hnl : nl ≤ 5500000000000) :
    Calls Tryz.prog 25 #[.pointer (some ⟨bP, 0, none⟩)] w fun e w' => TPost w e w' := by
  obtain ⟨al, cl, rfl⟩ := own_len h.lst
  have H := hid h
  clear h
  go_enter Tryz.func25, Tryz.ntmps25
  go_wp2
  go_loopw [3] (fun t wr => ∃ k : Nat, k ≤ nl ∧ t = .int .i64 k ∧ Hid (Below w.heap.size w wr)) (fun t _ => nl - (intOf t).toNat)
  case atStart => exact ⟨0, by omega, rfl, Below.refl _ _⟩
  case round =>
    obtain ⟨k, k1, rfl, hb⟩ := hrel
    have hp := H.out.drop hb.out
    have r1 := hp.row.cell (i := 1) (by omega)
    simp at r1
    by_cases hk : k < nl
    · have lt' : (k : Int) < (nl : Int) := by omega
      have hlen : xs.length = nl := by have := hp.lst.1; omega
      obtain ⟨v, hv⟩ : ∃ v, xs[k]? = some v := ⟨xs[k]'(by omega), List.getElem?_eq_getElem (by omega)⟩
      obtain ⟨⟨n, hn0, a, cap, rfl, hsl⟩, _⟩ := hp.els k v hv
      obtain ⟨gL, rfl, zL, cL⟩ : ∃ g, al = some ⟨g, 0, none⟩ ∧ g < wr.heap.size ∧ wr.cell? ⟨g, k, none⟩ = some (.slice a n cap) := by
        rcases hp.lst.2 with ⟨_, h0⟩ | ⟨g, cap', cur, hv', _, hh, _, _, _, h8⟩
        · omega
        · simp at hv'
          refine ⟨g, hv'.1, ?_, ?_⟩
          · rcases Nat.lt_or_ge g wr.heap.size with h | h
            · exact h
            · rw [Array.getElem?_eq_none h] at hh; cases hh
          · have e1 : cur[k]? = xs[k]? := by rw [← h8, List.getElem?_take, if_pos (by omega)]; simp
            simp [World.cell?, hh, e1, hv]
      have HV := hid hv
      clear hp hv hsl
      go_wp2
      go_loopw [5] (fun t wr => ∃ i : Nat, i ≤ n ∧ t = .int .i64 i ∧ Hid (Below w.heap.size w wr)) (fun t _ => n - (intOf t).toNat)
      case atStart => exact ⟨0, by omega, rfl, hb⟩
      case round =>
        clear hb zL cL r1
        obtain ⟨i, i1, rfl, hb⟩ := hrel
        have hp := H.out.drop hb.out
        have r1 := hp.row.cell (i := 1) (by omega)
        simp at r1
        obtain ⟨⟨n', _, a', cap', e', hsl⟩, _⟩ := hp.els k _ HV.out
        obtain ⟨zL, cL⟩ : gL < wr.heap.size ∧ wr.cell? ⟨gL, k, none⟩ = some (.slice a n cap) := by
          rcases hp.lst.2 with ⟨h0, _⟩ | ⟨g, cap', cur, hv', _, hh, _, _, _, h8⟩
          · cases h0
          · simp at hv'
            obtain ⟨rfl, rfl⟩ := hv'
            refine ⟨?_, ?_⟩
            · rcases Nat.lt_or_ge gL wr.heap.size with h | h
              · exact h
              · rw [Array.getElem?_eq_none h] at hh; cases hh
            · have e1 : cur[k]? = xs[k]? := by rw [← h8, List.getElem?_take, if_pos (by omega)]; simp
              simp [World.cell?, hh, e1, HV.out]
        injection e' with e1 e2 e3
        subst e1 e2 e3
        clear hp
        by_cases hit : i < n
        · have li : (i : Int) < (n : Int) := by omega
          obtain ⟨bb, oo, rfl, zb, x0⟩ := hsl (i * 3) (by omega)
          obtain ⟨_, _, e1, _, x1⟩ := hsl (i * 3 + 1) (by omega)
          simp at e1
          obtain ⟨rfl, rfl⟩ := e1
          obtain ⟨_, _, e1, _, x2⟩ := hsl (i * 3 + 2) (by omega)
          simp at e1
          obtain ⟨rfl, rfl⟩ := e1
          rw [← Nat.add_assoc] at x1 x2
          clear hsl
          have hb2 : Hid (∀ o, Below w.heap.size w (wr.alloc o)) := fun o => hb.out.alloc hb.out.size _
          go_wp2
          go_roundw
          case rel => exact ⟨i + 1, by omega, by go_num, hb2.out _⟩
          case measure => simp [intOf]; omega
        · clear hsl
          go_wp2
          go_roundw
          case rel => exact ⟨k + 1, by omega, by go_num, hb⟩
          case measure => simp [intOf]; omega
    · have R : Hid (TPost w (.returned (.bool true)) wr) := ⟨rfl, hb.out⟩
      clear hp
      go_wp2
      go_ret
      exact R.out

end Go.Proofs.YtcondcffllaaoaaGreatDoor
