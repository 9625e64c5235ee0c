/-
  THE LAW: what a pair shows.
-/
import Derived.Test.YtkhpkpaglkinbaaGreatDoorH16
set_option linter.unusedVariables false
set_option linter.unusedSimpArgs false
namespace Go.Proofs.YtkhpkpaglkinbaaGreatDoor
open Go.RowKit
attribute [local go_sem ↓] Go.wp_at_zero Go.wp_at_succ

/-- It is so, and nothing that was there has turned. -/
def TPost (w : World) (e : Ending) (w' : World) : Prop := e = .returned (.bool true) ∧ Below w.heap.size w w'

theorem vpost_same {Ce : Nat → Cel} {n : Nat} {week : Int} {hol : List Int} {T c : Int} {w1 w2 w1' w2' : World} {e1 e2 : Ending} (hok : CellsOk Ce n) (hno : NoRing Ce n)
    (h1 : VPost Ce n week hol T c w1 e1 w1') (h2 : VPost Ce n week hol T c w2 e2 w2') : ∃ v e, e1 = .returned (.tuple #[.int .i64 v, .int .i64 e]) ∧ e2 = .returned (.tuple #[.int .i64 v, .int .i64 e]) := by
  rcases h1.2 with ⟨a1, a2⟩ | ⟨V, i, rfl, a1, a2, a3⟩
  · rcases h2.2 with ⟨b1, b2⟩ | ⟨V', i', rfl, b1, b2, b3⟩
    · exact ⟨0, 6, a2, b2⟩
    · exact absurd ⟨by omega, by omega⟩ a1
  · rcases h2.2 with ⟨b1, b2⟩ | ⟨V', i', e, b1, b2, b3⟩
    · exact absurd ⟨by omega, by omega⟩ b1
    · obtain rfl : i = i' := by omega
      refine ⟨V i, 0, a3, ?_⟩
      rw [b3, local_unique hok hno b2 a2 i a1]

theorem vpost_form {Ce : Nat → Cel} {n : Nat} {week : Int} {hol : List Int} {T c : Int} {w1 w1' : World} {e1 : Ending} (h1 : VPost Ce n week hol T c w1 e1 w1') : ∃ v e, e1 = .returned (.tuple #[.int .i64 v, .int .i64 e]) := by
  rcases h1.2 with ⟨_, a2⟩ | ⟨V, i, _, _, _, a3⟩
  · exact ⟨0, 6, a2⟩
  · exact ⟨V i, 0, a3⟩

set_option maxRecDepth 100000 in
set_option maxHeartbeats 2000000 in
theorem pvals_any {L B : Nat} {w w0 : World} {bp bk : Nat} {Ck C : Nat → Cel} {n cC : Nat} {aR : Option Addr} {k cR : Nat} {week : Int} {aH : Option Addr} {hol : List Int} {cH : Nat} {cl : Bool} {R : Nat → Rul} {bw bc : Nat} {aO : Option Addr} {cO bh : Nat} {F : Nat → Int} {T : Int} {op : Bool} {bF cF bS : Nat} {S : Nat → St} {vE : Value} {nE : Nat}
    (hK : KSt L B w bp bk Ck n cC aR k cR week aH hol cH T cl) (hBw : B ≤ w.heap.size) (ht : Tab w) (hB : WBase w0 C n R k hol bw bc aO bh) (hS : WSt w0 w n k hol.length week bw bc aO cO bh F T op bF cF bS S vE nE)
    (hn : n ≤ 20) (n1 : 1 ≤ n) (h1 : 1 ≤ week) (h2 : week ≤ 127) (hh : HolOk hol) (heff : Eff C Ck F n) (hok : CellsOk Ck n) (hno : NoRing Ck n) (t0 : 0 ≤ T) (t1 : T ≤ 1000000000) :
    Calls Tryz.prog 15 #[.agg #[.pointer (some ⟨bp, 0, none⟩), .pointer (some ⟨bw, 0, none⟩)]] w fun e w' => TPost w e w' := by
  have KV := hid (fun W (hW : Below w.heap.size w W) (c : Int) => kValue_any c (hK.below (hW.mono hBw)) (ht.below hW (Nat.le_refl _)) hn n1 h1 h2 hh hok hno t0 t1)
  have WV := hid (fun W (hW : Below w.heap.size w W) (c : Int) => wValue_any c hB (hS.drop hW) hn n1 h1 h2 hh heff hok hno t0 t1)
  have NW := hid (fun W (hW : Below w.heap.size w W) => now_any (hK.below (hW.mono hBw)))
  have HOK := hid hok
  have HNO := hid hno
  have W5 := hid (fun W (hW : Below w.heap.size w W) => (hS.drop hW).row.cell (i := 5) (by omega))
  have W0 := hid (fun W (hW : Below w.heap.size w W) => (hS.drop hW).row.cell (i := 0) (by omega))
  have HBX := hid (Below.refl (w.heap.size + 1) (w.alloc (.cells #[.pointer (some ⟨bp, 0, none⟩), .pointer (some ⟨bw, 0, none⟩)] 56)))
  have HB0 := hid (boxed_below HBX.out)
  have y5 := W5.out _ HB0.out
  simp [wf] at y5
  clear hK ht hB hS hh heff hok hno
  go_enter Tryz.func15, Tryz.ntmps15
  go_wp2_with (go_at_call 42; refine (NW.out _ HB0.out).mono ?_; rintro e w' ⟨rfl, rfl⟩)
  clear NW W5 y5 HB0
  go_loopw [4] (fun t wr => ∃ (m : Nat), m ≤ n + 2 ∧ t = .int .i64 ((m : Int) - 1) ∧ Hid (Below (w.heap.size + 1) (w.alloc (.cells #[.pointer (some ⟨bp, 0, none⟩), .pointer (some ⟨bw, 0, none⟩)] 56)) wr)) (fun t _ => n + 2 - (intOf t + 1).toNat)
  case atStart => exact ⟨0, by omega, rfl, HBX⟩
  case round =>
    obtain ⟨m, m1, rfl, hb⟩ := hrel
    have f0 := boxed hb.out 0
    have f1 := boxed hb.out 1
    simp at f0 f1
    have hbw := hid (boxed_below hb.out)
    have y0 := W0.out _ hbw.out
    simp [wf] at y0
    by_cases hm : m ≤ n + 1
    · have lt' : (m : Int) - 1 ≤ (n : Int) := by omega
      go_wp2_with fail
      refine (KV.out _ hbw.out _).mono ?_
      rintro e1 w1 q1
      obtain ⟨v, er, rfl⟩ := vpost_form q1
      have Q1 := hid q1
      have hb1 : Hid (Below (w.heap.size + 1) (w.alloc (.cells #[.pointer (some ⟨bp, 0, none⟩), .pointer (some ⟨bw, 0, none⟩)] 56)) w1) := hb.out.trans (q1.1.mono (by have := hb.out.size; simp at this; omega))
      have g0 := boxed hb1.out 0
      have g1 := boxed hb1.out 1
      simp at g0 g1
      have hbw1 := hid (boxed_below hb1.out)
      clear q1 f0 f1 y0 hb hbw
      go_wp2_with fail
      refine (WV.out _ hbw1.out _).mono ?_
      rintro e2 w2 q2
      obtain ⟨v', er', h1', rfl⟩ := vpost_same HOK.out HNO.out Q1.out q2
      simp at h1'
      obtain ⟨rfl, rfl⟩ := h1'
      have hb2 : Hid (Below (w.heap.size + 1) (w.alloc (.cells #[.pointer (some ⟨bp, 0, none⟩), .pointer (some ⟨bw, 0, none⟩)] 56)) w2) := hb1.out.trans (q2.1.mono (by have := hb1.out.size; simp at this; omega))
      clear q2 Q1 g0 g1 hb1 hbw1
      go_wp2_with (go_at_call 12; refine (num_any _ _).mono ?_; rintro e w' ⟨rfl, rfl⟩)
      go_roundw
      case rel => exact ⟨m + 1, by omega, by go_num, hb2⟩
      case measure => simp [intOf]; omega
    · have R : Hid (TPost w (.returned (.bool true)) wr) := ⟨rfl, hbw.out⟩
      go_wp2
      go_ret
      exact R.out

end Go.Proofs.YtkhpkpaglkinbaaGreatDoor
