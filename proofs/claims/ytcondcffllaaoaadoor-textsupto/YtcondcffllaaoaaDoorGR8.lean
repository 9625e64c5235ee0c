/-
  THE WALKS: the document's look over a text: the place of an error.
-/
import Derived.Test.YtcondcffllaaoaaDoorGR7
import Derived.Test.YtcondcffllaaoaaDoorGX8
set_option linter.unusedVariables false
set_option linter.unusedSimpArgs false
namespace Go.Proofs.YtcondcffllaaoaaDoor
open Go.RowKit
open Go.Lib (itoa decDigits nDigits)
attribute [local go_sem ↓] Go.wp_at_zero Go.wp_at_succ

/-- A look's numbers stay small. -/
structure Sc.Bd (N : Nat) (x : Sc) : Prop where
  v0 : 0 ≤ x.value
  v1 : x.value < 10 ^ x.digits.toNat
  d0 : 0 ≤ x.digits
  d1 : x.digits ≤ 10
  c0 : 0 ≤ x.count
  c1 : x.count ≤ N
  t0 : -10 ≤ x.want
  t1 : x.want ≤ 10
  o0 : 0 ≤ x.mode
  o1 : x.mode ≤ 4

theorem Sc.Bd.val {N : Nat} {x : Sc} (h : x.Bd N) : x.value ≤ 100000000000 := by
  have h1 := h.v1
  have h2 : (10 : Int) ^ x.digits.toNat ≤ 10 ^ 10 := by
    have : (10 : Nat) ^ x.digits.toNat ≤ 10 ^ 10 := Nat.pow_le_pow_right (by omega) (by have := h.d1; have := h.d0; omega)
    exact_mod_cast this
  omega

theorem letter_bd {N : Nat} {x : Sc} (h : x.Bd N) (b : Int) : (x.doLetter b).2.Bd (N + 1) := by
  unfold Sc.doLetter
  split
  · exact ⟨h.v0, h.v1, h.d0, h.d1, by show (0 : Int) ≤ 0; omega, by show (0 : Int) ≤ _; omega, by show (-10 : Int) ≤ 0; omega, by show (0 : Int) ≤ 10; omega, by show (0 : Int) ≤ 1; omega, by show (1 : Int) ≤ 4; omega⟩
  · split
    · exact ⟨h.v0, h.v1, h.d0, h.d1, by show (0 : Int) ≤ 0; omega, by show (0 : Int) ≤ _; omega, by show (-10 : Int) ≤ 0; omega, by show (0 : Int) ≤ 10; omega, by show (0 : Int) ≤ 1; omega, by show (1 : Int) ≤ 4; omega⟩
    · split
      · exact ⟨h.v0, h.v1, h.d0, h.d1, by show (0 : Int) ≤ 0; omega, by show (0 : Int) ≤ _; omega, by show (-10 : Int) ≤ 0; omega, by show (0 : Int) ≤ 10; omega, by show (0 : Int) ≤ 1; omega, by show (1 : Int) ≤ 4; omega⟩
      · exact ⟨h.v0, h.v1, h.d0, h.d1, by show (0 : Int) ≤ 0; omega, by show (0 : Int) ≤ _; omega, by show (-10 : Int) ≤ 0; omega, by show (0 : Int) ≤ 10; omega, by show (0 : Int) ≤ 1; omega, by show (1 : Int) ≤ 4; omega⟩
theorem Sc.Bd.up {N : Nat} {x : Sc} (h : x.Bd N) : x.Bd (N + 1) := ⟨h.v0, h.v1, h.d0, h.d1, h.c0, by have := h.c1; omega, h.t0, h.t1, h.o0, h.o1⟩
theorem Sc.Bd.mode {N : Nat} {x : Sc} (h : x.Bd N) (k : Int) (h0 : 0 ≤ k) (h1 : k ≤ 4) (p : Int) : Sc.Bd N { x with mode := k, part := p } := ⟨h.v0, h.v1, h.d0, h.d1, h.c0, h.c1, h.t0, h.t1, h0, h1⟩
theorem digit_bd {N : Nat} {x : Sc} (h : x.Bd N) {b : Int} (b0 : 48 ≤ b) (b1 : b ≤ 57) : (x.doDigit b).2.Bd (N + 1) := by
  unfold Sc.doDigit
  split
  · exact h.up
  · rename_i hA
    split
    · exact h.up
    · by_cases h4 : x.mode = 4
      · have hd : x.digits ≤ 9 := by
          rcases Int.lt_or_le 9 x.digits with g | g
          · exact absurd ⟨h4, Or.inr g⟩ hA
          · exact g
        have h1 := h.v1
        have h0 := h.v0
        have d0 := h.d0
        simp only [h4, if_true]
        refine ⟨by show 0 ≤ 10 * x.value + (b - 48); omega, ?_, by show 0 ≤ x.digits + 1; omega, by show x.digits + 1 ≤ 10; omega, h.c0, by show x.count ≤ _; have := h.c1; omega, h.t0, h.t1, by show (0 : Int) ≤ 4; omega, by show (4 : Int) ≤ 4; omega⟩
        show 10 * x.value + (b - 48) < 10 ^ (x.digits + 1).toNat
        rw [show (x.digits + 1).toNat = x.digits.toNat + 1 by omega, Int.pow_succ]
        omega
      · simp only [h4, if_false]
        refine ⟨by show 0 ≤ 0 + (b - 48); omega, ?_, by show (0 : Int) ≤ 0 + 1; omega, by show (0 : Int) + 1 ≤ 10; omega, h.c0, by show x.count ≤ _; have := h.c1; omega, h.t0, h.t1, by show (0 : Int) ≤ 4; omega, by show (4 : Int) ≤ 4; omega⟩
        show 0 + (b - 48) < (10 : Int) ^ ((0 : Int) + 1).toNat
        rw [show ((0 : Int) + 1).toNat = 1 from rfl]
        omega
theorem done_bd {N : Nat} {x : Sc} (h : x.Bd N) : x.doDone.Bd (N + 1) := by
  unfold Sc.doDone
  have := wantK_any x.value
  refine ⟨h.v0, h.v1, h.d0, h.d1, by show 0 ≤ x.count + 1; have := h.c0; omega, by show x.count + 1 ≤ _; have := h.c1; omega, ?_, ?_, h.o0, h.o1⟩
  · show -10 ≤ (if _ then _ else _)
    split
    · omega
    · exact h.t0
  · show (if _ then _ else _) ≤ (10 : Int)
    split
    · omega
    · exact h.t1
theorem goes_bd {N : Nat} {x : Sc} (h : x.Bd N) (b : Int) : (x.goes b).2.Bd (N + 1) := by
  unfold Sc.goes
  split
  · exact letter_bd h b
  · split
    · exact h.up.mode 2 (by omega) (by omega) x.part
    · split
      · split
        · rename_i hb
          exact digit_bd h hb.1 hb.2
        · exact h.up.mode 3 (by omega) (by omega) x.part
      · split
        · split
          · rename_i hb
            exact digit_bd h hb.1 hb.2
          · exact h.up
        · split
          · rename_i hb
            exact digit_bd h hb.1 hb.2
          · split
            · exact (done_bd h).mode 2 (by omega) (by omega) _
            · exact h.up.mode 0 (by omega) (by omega) _

def plI (o : Option Nat) : Int := match o with
  | none => -1
  | some p => p

set_option maxRecDepth 100000 in
set_option maxHeartbeats 2000000 in
theorem place_any (s : ByteArray) (w : World) (hs : s.size ≤ 1000000000) :
    Calls Tryd.prog 24 #[.string s] w fun e w' => e = .returned (.int .i64 (plI (pl sc0 s.data.toList))) ∧ Below w.heap.size w w' := by
  have B0 : Hid (Below w.heap.size w (w.alloc (.cells #[.int .i64 0, .int .u8 0, .int .i64 0, .int .i64 0, .int .i64 0, .bool false, .int .i64 0, .int .i64 0] 82))) := (Below.refl _ _).alloc (Nat.le_refl _) _
  have S0 : Hid (SBx w.heap.size sc0 (w.alloc (.cells #[.int .i64 0, .int .u8 0, .int .i64 0, .int .i64 0, .int .i64 0, .bool false, .int .i64 0, .int .i64 0] 82))) :=
    World.rowIs_alloc w #[.int .i64 0, .int .u8 0, .int .i64 0, .int .i64 0, .int .i64 0, .bool false, .int .i64 0, .int .i64 0] 82 _ (fun i hi => by
      rcases eight (by simpa using hi) with rfl | rfl | rfl | rfl | rfl | rfl | rfl | rfl <;> rfl)
  have BD : Hid (sc0.Bd 0) := ⟨by decide, by decide, by decide, by decide, by decide, by decide, by decide, by decide, by decide, by decide⟩
  have P0 : Hid (pl sc0 s.data.toList = (pl sc0 (rest s 0)).map (· + 0)) := by
    show _ = _
    rw [rest_zero]
    simp
  go_enter Tryd.func24, Tryd.ntmps24
  go_wp2_with fail
  go_loopw [4] (fun ti wr => ∃ (x : Sc) (i : Nat), ti = .int .i64 i ∧ i ≤ s.size ∧ Hid (SBx w.heap.size x wr) ∧ Hid (x.Bd i) ∧ Hid (pl sc0 s.data.toList = (pl x (rest s i)).map (· + i)) ∧ Hid (Below w.heap.size w wr)) (fun ti _ => s.size - (intOf ti).toNat)
  case atStart => exact ⟨sc0, 0, by go_num, by omega, S0, BD, P0, B0⟩
  case round =>
    clear S0 BD P0 B0
    obtain ⟨x, i, rfl, hi, hS, hB, hP, hw⟩ := hrel
    by_cases hil : i < s.size
    · obtain ⟨c, hc⟩ : ∃ c, s[i] = c := ⟨_, rfl⟩
      have GO : Hid (Calls Tryd.prog 44 #[.pointer (some ⟨w.heap.size, 0, none⟩), .int .u8 (s[i].toNat : Int)] wr fun e w' => ScP w.heap.size (x.goes (c.toNat : Int)) wr e w') := by
        rw [hc]
        exact goes_any hS.out c.toNat c.toNat_lt hB.out.v0 hB.out.val hB.out.d0 (by have := hB.out.d1; omega) hB.out.c0 (by have := hB.out.c1; omega) hB.out.t0 hB.out.t1 hB.out.o0 hB.out.o1
      have RC : Hid (rest s i = c :: rest s (i + 1)) := by show _ = _; rw [rest_cons hil, hc]
      clear hc
      go_wp2_with fail
      refine GO.out.mono ?_
      rintro e w1 ⟨rfl, hs1, ch1⟩
      have B1 : Hid (Below w.heap.size w w1) := hw.out.trans (ch1.below (fun j hj => by omega) hw.out.size)
      by_cases hb : (x.goes (c.toNat : Int)).1 = true
      · rw [hb]
        have S1 := hid (hs1 hb)
        have D1 := hid (goes_bd hB.out (c.toNat : Int))
        have P1 : Hid (pl sc0 s.data.toList = (pl (x.goes (c.toNat : Int)).2 (rest s (i + 1))).map (· + (i + 1))) := by
          show _ = _
          rw [hP.out, RC.out, pl_cons, if_pos hb, Option.map_map]
          congr 1
          funext k
          show k + 1 + i = k + (i + 1)
          omega
        clear hs1 ch1 GO hS hB hP hw RC hb
        go_wp2
        go_roundw
        case rel => exact ⟨_, i + 1, by go_num, by omega, S1, D1, P1, B1⟩
        case measure => simp [intOf]; omega
      · have hb' : (x.goes (c.toNat : Int)).1 = false := by simpa using hb
        rw [hb']
        have R : Hid (plI (pl sc0 s.data.toList) = (i : Int)) := by
          show _ = _
          rw [hP.out, RC.out, pl_cons, if_neg hb]
          show ((0 + i : Nat) : Int) = i
          omega
        clear hs1 ch1 GO hS hB hP hw RC hb hb'
        go_wp2
        go_ret
        exact ⟨by rw [R.out]; rfl, B1.out⟩
    · obtain rfl : i = s.size := by omega
      obtain ⟨q0, q1, q2, q3, q4, q5, q6, q7, fq, zq⟩ := SB.cells hS.out
      obtain ⟨o, ho⟩ : ∃ y, x.mode = y := ⟨_, rfl⟩
      obtain ⟨p, hp⟩ : ∃ y, x.part = y := ⟨_, rfl⟩
      have FI : Hid (pl sc0 s.data.toList = (if decide (o = 0 ∧ p ≠ 0) = true then none else some 0 : Option Nat).map (· + s.size)) := by
        show _ = _
        rw [hP.out, rest_nil (Nat.le_refl _), pl_nil]
        unfold Sc.fin
        rw [ho, hp]
      rw [ho] at q7
      rw [hp] at q0
      have BW := hid hw.out
      clear hS hB hP hw ho hp q1 q2 q3 q4 q5 q6
      by_cases h0 : o = 0
      · subst h0
        by_cases hp0 : p = 0
        · subst hp0
          have R : Hid (plI (pl sc0 s.data.toList) = (s.size : Int)) := by
            show _ = _
            rw [FI.out, if_neg (by decide)]
            show ((0 + s.size : Nat) : Int) = _
            omega
          go_wp2
          go_ret
          exact ⟨by rw [R.out]; rfl, BW.out⟩
        · have e0 : (p == 0) = false := beq_eq_false_iff_ne.2 hp0
          have R : Hid (plI (pl sc0 s.data.toList) = -1) := by
            show _ = _
            rw [FI.out, if_pos (decide_eq_true ⟨rfl, hp0⟩)]
            rfl
          clear FI hp0
          go_wp2
          go_ret
          exact ⟨by rw [R.out]; rfl, BW.out⟩
      · have e0 : (o != 0) = true := bne_iff_ne.2 h0
        have R : Hid (plI (pl sc0 s.data.toList) = (s.size : Int)) := by
          show _ = _
          rw [FI.out, if_neg (by intro e; exact h0 (of_decide_eq_true e).1)]
          show ((0 + s.size : Nat) : Int) = _
          omega
        clear FI h0
        go_wp2
        go_ret
        exact ⟨by rw [R.out]; rfl, BW.out⟩

end Go.Proofs.YtcondcffllaaoaaDoor

/-
  THE WALKS: the document's reader of texts: the numbers of a line.
-/
set_option linter.unusedVariables false
set_option linter.unusedSimpArgs false
namespace Go.Proofs.YtcondcffllaaoaaDoor
open Go.RowKit
open Go.Lib (itoa decDigits nDigits)
attribute [local go_sem ↓] Go.wp_at_zero Go.wp_at_succ

/-- What numbers answers. -/
def NuP (L : List Int) (k' : Nat) (w : World) (e : Ending) (w' : World) : Prop := ∃ a cap, e = .returned (.tuple #[.slice a L.length cap, .int .i64 k']) ∧ w'.ownsRow w.heap.size 3 1 (.slice a L.length cap) L.length (ints L) ∧ Below w.heap.size w w'

set_option maxRecDepth 100000 in
set_option maxHeartbeats 4000000 in
theorem rnumbers_any {s : ByteArray} {i k' : Nat} {L : List Int} {c : UInt8} {w : World} (hs : s.size ≤ 1000000000) (hi : rest s i = c :: (numsT L ++ 10 :: rest s k')) (hk : k' ≤ s.size) (hL : ∀ x ∈ L, N10 x) :
    Calls Tryd.prog 25 #[.string s, .int .i64 i] w fun e w' => NuP L k' w e w' := by
  obtain ⟨i3, y3, y4⟩ := Option.map_eq_some_iff.1 info3
  simp only [Prod.mk.injEq] at y4
  have I3 := hid y3
  have Z3 := hid y4
  clear y3 y4
  have LL : L.length ≤ 1000000000 := by
    have e := congrArg List.length hi
    have := numsT_len L
    simp [rest_len] at e
    omega
  have il : i < s.size := by
    have e := congrArg List.length hi
    simp [rest_len] at e
    omega
  have HK := hid hk
  have HL := hid hL
  have E0 : Hid (NSt L [] false (numsT L) ∧ rest s (i + 1) = numsT L ++ 10 :: rest s k') := by
    refine ⟨nst_start L, ?_⟩
    rw [rest_cons il] at hi
    exact (List.cons.inj hi).2
  have O0 : Hid (w.ownsRow w.heap.size 3 1 (.slice none 0 0) ([] : List Int).length (ints [])) := own_nil _ _ _ _
  have B0 := hid (Below.refl w.heap.size w)
  clear hi hL hk
  go_enter Tryd.func25, Tryd.ntmps25
  go_wp2_with fail
  go_loopw [1, 6, 7] (fun ti tv tm wr => ∃ (j : Nat) (v : Value) (m : Bool) (l : List Int) (rem : List UInt8), ti = .int .i64 j ∧ v = tv ∧ tm = .bool m ∧ j ≤ s.size ∧ Hid (NSt L l m rem ∧ rest s j = rem ++ 10 :: rest s k') ∧ Hid (wr.ownsRow w.heap.size 3 1 v l.length (ints l)) ∧ Hid (Below w.heap.size w wr)) (fun ti _ _ _ => s.size - (intOf ti).toNat)
  case atStart => exact ⟨i + 1, .slice none 0 0, false, [], numsT L, by go_num, rfl, rfl, by omega, E0, O0, B0⟩
  case round =>
    clear E0 O0 B0
    obtain ⟨j, v, m, l, rem, rfl, rfl, rfl, hj, hE, hO, hB⟩ := hrel
    have hjs : j < s.size := by
      have e := congrArg List.length hE.out.2
      simp [rest_len] at e
      omega
    have RC := hid (rest_cons hjs)
    obtain ⟨bt, hbt⟩ : ∃ b, s[j].toNat = b := ⟨_, rfl⟩
    cases rem with
    | nil =>
      have e1 := hE.out.2
      rw [RC.out] at e1
      obtain ⟨q1, q2⟩ := List.cons.inj e1
      obtain rfl : bt = 10 := by rw [← hbt, q1]; rfl
      have ek : j + 1 = k' := by
        have := congrArg List.length q2
        rw [rest_len, rest_len] at this
        have := HK.out
        omega
      have el := hE.out.1.done
      subst el
      obtain ⟨a, cap, rfl⟩ := own_len hO.out
      have R : Hid (NuP l k' w (.returned (.tuple #[.slice a l.length cap, .int .i64 ((j : Int) + 1)])) wr) := ⟨a, cap, by rw [← ek]; rfl, hO.out, hB.out⟩
      clear e1 q1 q2 ek hE hO hB RC
      go_wp2
      go_ret2
      exact R.out
    | cons c' rem' =>
      have e1 := hE.out.2
      rw [RC.out] at e1
      obtain ⟨q1, q2⟩ := List.cons.inj e1
      have hc' : c'.toNat = bt := by rw [← hbt, q1]
      have ll := hE.out.1.len
      rcases hE.out.1.step HL.out with ⟨g1, g2⟩ | ⟨g1, g2⟩ | ⟨g1, dn, cur, g2, g3, g4⟩
      · obtain rfl : bt = 32 := by rw [← hc', g1]; rfl
        have E1 : Hid (NSt L (l ++ [0]) false rem' ∧ rest s (j + 1) = rem' ++ 10 :: rest s k') := ⟨g2, q2⟩
        have zw : w.heap.size ≤ wr.heap.size := hB.out.size
        clear e1 q1 q2 g1 g2 hc' hE RC
        go_wp2_with (at_builtin; refine wpList_append_lies _ rfl (.tmp 44) (.tmp 45) 24 rfl w.heap.size 3 i3 _ 1 8 Tryd.underlying24 I3.out Z3.out.1 Z3.out.2.1 Z3.out.2.2 rfl (by omega) v l.length (ints l) (by rfl) (own_alloc0 hO.out _) ⟨wr.heap.size, 0, none⟩ 1 1 [.int .i64 0] (by rfl) (by rfl) (news1k _ _ _) (by simp [Value.oneCell']) (by omega) (by unfold maxLen; omega) (by omega) (by simp; omega) (wr.heap.size + 1) (by simp) ?_; intro g cap w6 hown2 hgrow hat hlt; refine stopH ?_)
        have B6 : Hid (Below w.heap.size w w6) := hB.out.trans (grow_below0 hgrow zw (fun g hg => own_base hO.out hg))
        have O6 : Hid (w6.ownsRow w.heap.size 3 1 (.slice (some ⟨g, 0, none⟩) (l.length + 1) cap) (l ++ [0]).length (ints (l ++ [0]))) := by
          rw [List.length_append, show ints (l ++ [0]) = ints l ++ [.int .i64 0] by simp [ints]]
          exact hown2
        clear hown2 hgrow hat hlt hO hB
        refine hid ?_
        go_wp2
        go_roundw
        case rel => exact ⟨j + 1, _, false, l ++ [0], rem', by go_num, rfl, rfl, by omega, E1, O6, B6⟩
        case measure => simp [intOf]; omega
      · obtain rfl : bt = 45 := by rw [← hc', g1]; rfl
        have E1 : Hid (NSt L l true rem' ∧ rest s (j + 1) = rem' ++ 10 :: rest s k') := ⟨g2, q2⟩
        clear e1 q1 q2 g1 g2 hc' hE RC
        go_wp2
        go_roundw
        case rel => exact ⟨j + 1, v, true, l, rem', by go_num, rfl, rfl, by omega, E1, hO, hB⟩
        case measure => simp [intOf]; omega
      · have gd := g1
        unfold Dg at gd
        rw [hc'] at gd g4
        obtain ⟨b0, b1⟩ := gd
        subst g2
        have e10 : ((bt : Int) != 10) = true := bne_iff_ne.2 (by omega)
        have e32 : ((bt : Int) == 32) = false := beq_eq_false_iff_ne.2 (by omega)
        have e45 : ((bt : Int) == 45) = false := beq_eq_false_iff_ne.2 (by omega)
        have E1 : Hid (NSt L (dn ++ [10 * cur + (if m = true then -((bt : Int) - 48) else (bt : Int) - 48)]) m rem' ∧ rest s (j + 1) = rem' ++ 10 :: rest s k') := ⟨g4, q2⟩
        have dl : dn.length + 1 ≤ 1000000000 := by simp at ll; omega
        unfold N10 at g3
        have o1 := hO.out
        rw [show (dn ++ [cur]).length = dn.length + 1 by simp] at o1
        obtain ⟨g, cap, rfl⟩ : ∃ g cap, v = .slice (some ⟨g, 0, none⟩) (dn.length + 1) cap := own_succ o1
        have cc : wr.cell? ⟨g, dn.length, none⟩ = some (.int .i64 cur) := by rw [own_cellG o1 (by omega), ints_last]
        have fz := own_frozenG o1 dn.length
        have zg : g < wr.heap.size := own_ltT o1 rfl
        have zb : w.heap.size ≤ g := own_base o1 rfl
        have O6 : Hid (∀ x : Int, (wr.setCell ⟨g, dn.length, none⟩ (.int .i64 x)).ownsRow w.heap.size 3 1 (.slice (some ⟨g, 0, none⟩) (dn.length + 1) cap) (dn ++ [x]).length (ints (dn ++ [x]))) := fun x => by
          have := own_setG o1 dn.length (.int .i64 x)
          rw [ints_set] at this
          rw [show (dn ++ [x]).length = dn.length + 1 by simp]
          exact this
        have B6 : Hid (∀ x, Below w.heap.size w (wr.setCell ⟨g, dn.length, none⟩ x)) := fun x => hB.out.setCell zb _
        clear e1 q1 q2 g1 hc' hE RC g4 o1 hO hB ll
        cases m
        · go_wp2
          go_roundw
          case rel => exact ⟨j + 1, _, false, _, rem', by go_num, rfl, rfl, by omega, E1, O6.out _, B6.out _⟩
          case measure => simp [intOf]; omega
        · go_wp2
          go_roundw
          case rel => exact ⟨j + 1, _, true, _, rem', by go_num, rfl, rfl, by omega, E1, O6.out _, B6.out _⟩
          case measure => simp [intOf]; omega

end Go.Proofs.YtcondcffllaaoaaDoor
