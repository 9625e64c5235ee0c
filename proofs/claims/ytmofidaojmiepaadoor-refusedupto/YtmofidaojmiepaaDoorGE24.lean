/-
  THE WALKS: docketkeep's outside, names, fields, clocks: what is refused.
-/
import Derived.Test.YtmofidaojmiepaaDoorGE18
import Derived.Test.YtmofidaojmiepaaDoorGE15
set_option linter.unusedVariables false
set_option linter.unusedSimpArgs false
namespace Go.Proofs.YtmofidaojmiepaaDoor
open Go.RowKit
attribute [local go_sem ↓] Go.wp_at_zero Go.wp_at_succ

def outI (c n : Int) : Int := if 0 ≤ c ∧ c < n then n + c else c
theorem outI_out (c : Int) {n : Int} (hn : 0 ≤ n) : ¬ (0 ≤ outI c n ∧ outI c n < n) := by
  unfold outI
  split
  · omega
  · assumption

set_option maxRecDepth 100000 in
theorem koutside_any (c n : Int) (w : World) (hc : I64k c) (n0 : 0 ≤ n) (n1 : n ≤ 1000) : Calls Tryd.prog 69 #[.int .i64 c, .int .i64 n] w fun e w' => e = .returned (.int .i64 (outI c n)) ∧ w' = w := by
  unfold I64k at hc
  by_cases h0 : 0 ≤ c
  · by_cases h1 : c < n
    · have e : outI c n = n + c := by unfold outI; rw [if_pos ⟨h0, h1⟩]
      rw [e]
      clear e
      go_enter Tryd.func69, Tryd.ntmps69
      go_wp2
      go_ret
      simp
    · have e : outI c n = c := by unfold outI; rw [if_neg (by omega)]
      rw [e]
      clear e
      go_enter Tryd.func69, Tryd.ntmps69
      go_wp2
      go_ret
      simp
  · have e : outI c n = c := by unfold outI; rw [if_neg (by omega)]
    rw [e]
    clear e
    go_enter Tryd.func69, Tryd.ntmps69
    go_wp2
    go_ret
    simp

theorem set_name {f : Frm} {m : Cs} (hop : m.op = true) {c : Int} (h : ¬ (0 ≤ c ∧ c < f.n)) (v : Int) : setNo f m c v = 6 ∧ setM f m c v = m := by
  have e : setNo f m c v = 6 := by
    unfold setNo setAns
    rw [if_neg (by rw [hop]; simp), if_pos (by omega)]
  refine ⟨e, ?_⟩
  unfold setM
  rw [e, if_neg (by omega)]
theorem ack_name {f : Frm} {m : Cs} (hop : m.op = true) {c : Int} (h : ¬ (0 ≤ c ∧ c < f.k)) : ackNo f m c = 6 ∧ ackM f m c = m := by
  have e : ackNo f m c = 6 := by
    unfold ackNo
    rw [if_neg (by rw [hop]; simp), if_pos (by omega)]
  refine ⟨e, ?_⟩
  unfold ackM
  rw [e, if_neg (by omega)]
theorem set_field {f : Frm} {m : Cs} (hop : m.op = true) {k : Nat} (h : k < f.n) (hk : (f.C k).kind ≠ 0) (v : Int) : setNo f m k v = 7 ∧ setM f m k v = m := by
  have e : setNo f m k v = 7 := by
    unfold setNo setAns
    rw [if_neg (by rw [hop]; simp), if_neg (by omega), if_pos (by simpa using hk)]
  refine ⟨e, ?_⟩
  unfold setM
  rw [e, if_neg (by omega)]
theorem set_value {f : Frm} {m : Cs} (hop : m.op = true) {k : Nat} (h : k < f.n) (hk : (f.C k).kind = 0) {v : Int} (hv : ¬ IsV v) : setNo f m k v = 8 ∧ setM f m k v = m := by
  have e : setNo f m k v = 8 := by
    unfold setNo setAns
    have i4 : M.isv v = false := by unfold M.isv; exact decide_eq_false hv
    rw [if_neg (by rw [hop]; simp), if_neg (by omega), if_neg (by simpa using hk), if_pos i4]
  refine ⟨e, ?_⟩
  unfold setM
  rw [e, if_neg (by omega)]
theorem adv_time {f : Frm} {m : Cs} {t : Int} (h : t < m.T ∨ 1000000000 < t) : advAns m.T t = 9 ∧ advM f m t = m := by
  unfold advAns advM
  rw [if_pos h, if_pos h]
  exact ⟨rfl, rfl⟩

section
variable {Z : Nat → Prop} {b : Nat} {f : Frm} {Q : Nat → Prop} {p : KPl} {m : Cs} {w : World}

set_option maxRecDepth 100000 in
set_option maxHeartbeats 2000000 in
theorem kclocks_any (h : C1 Z b f Q p m w) (hb : b ≤ 10000000000) (n : Int) (hn : I64k n) :
    Calls Tryd.prog 45 #[.pointer (some ⟨p.bp, 0, none⟩), .int .i64 n] w fun e w' => C1P (.bool true) Z b f Q p m w e w' := by
  have HM := h.mok
  have t0 := HM.t0
  have t1 := HM.t1
  have NW := hid (c1now h)
  have PK := hid (fun W => kpick_any n 1152921504606846976 W hn (by omega) (by omega))
  obtain ⟨d0, d1⟩ := pickI_bd n (n := 1152921504606846976) (by omega)
  generalize pickI n 1152921504606846976 = d at *
  have A1 := hid ((c1adv h hb (m.T - (1 + d))).mono (fun _ _ g => C1P.as g (r' := .int .i64 9) (m' := m) (congrArg (Value.int .i64) (adv_time (f := f) (by omega)).1) (adv_time (by omega)).2))
  have A2 : Hid (∀ w1, C1 Z b f Q p m w1 → Calls Tryd.prog 20 #[.pointer (some ⟨p.bp, 0, none⟩), .int .i64 (1000000000 + (1 + d))] w1 fun e w' => C1P (.int .i64 9) Z b f Q p m w1 e w') := fun w1 h1 => (c1adv h1 hb (1000000000 + (1 + d))).mono (fun _ _ g => C1P.as g (r' := .int .i64 9) (m' := m) (congrArg (Value.int .i64) (adv_time (f := f) (by omega)).1) (adv_time (by omega)).2)
  clear h HM
  go_enter Tryd.func45, Tryd.ntmps45
  go_wp2_with fail
  refine NW.out.mono ?_
  rintro e w' ⟨rfl, hw⟩
  rw [hw]
  clear hw w' NW
  go_wp2_with fail
  refine (PK.out _).mono ?_
  rintro e w' ⟨rfl, hw⟩
  rw [hw]
  clear hw w' PK
  go_wp2_with fail
  refine A1.out.mono ?_
  rintro e w1 ⟨rfl, c1, s1⟩
  have C1' := hid c1
  have S1 := hid s1
  clear c1 s1 A1
  go_wp2_with fail
  refine (A2.out _ C1'.out).mono ?_
  rintro e w2 ⟨rfl, c2, s2⟩
  have R : Hid (C1P (.bool true) Z b f Q p m w (.returned (.bool true)) w2) := ⟨rfl, c2, S1.out.trans s2⟩
  clear c2 s2 A2 C1' S1
  go_wp2
  go_ret
  exact R.out

set_option maxRecDepth 100000 in
set_option maxHeartbeats 2000000 in
theorem kfields_any (h : C1 Z b f Q p m w) (hb : b ≤ 9000000000) (hop : m.op = true) {fv : Value} (hfv : FAt w f fv) (n v : Int) (hn : I64k n) (hv : I64k v) :
    Calls Tryd.prog 44 #[.pointer (some ⟨p.bp, 0, none⟩), fv, .int .i64 n, .int .i64 v] w fun e w' => C1P (.bool true) Z (b + 1) f Q p m w e w' := by
  unfold I64k at hv
  obtain ⟨n1, n20, k6, _, _⟩ := h.fok.sizes
  obtain ⟨aC', cC', aR', cR', aH', cH', rfl, hc, _, _⟩ := hfv
  have PK := hid (fun W => kpick_any n f.n W hn (by omega) (by omega))
  obtain ⟨kk, hkk⟩ := Int.eq_ofNat_of_zero_le (pickI_bd n (n := f.n) (by omega)).1
  have hk' : kk < f.n := by have := (pickI_bd n (n := f.n) (by omega)).2; omega
  rw [hkk] at PK
  clear hkk
  obtain ⟨bC, oC, rfl, zC, hC⟩ : ∃ b off, aC' = some ⟨b, off, none⟩ ∧ b < w.heap.size ∧ ∀ m, m < f.n → CelIs w b (off + m * 5) (f.C m) := by
    rcases hc with h | h
    · omega
    · exact h
  have x0 := (hC kk hk').1
  have BX := hid (Below.refl (w.heap.size + 1) (w.alloc (.cells #[.slice (some ⟨bC, oC, none⟩) f.n cC', .slice aR' f.k cR', .int .i64 f.week, .slice aH' f.hol.length cH'] 26)))
  have BW := hid (boxed_below BX.out)
  have g0 : (w.alloc (.cells #[.slice (some ⟨bC, oC, none⟩) f.n cC', .slice aR' f.k cR', .int .i64 f.week, .slice aH' f.hol.length cH'] 26)).cell? ⟨w.heap.size, 0, none⟩ = some (.slice (some ⟨bC, oC, none⟩) f.n cC') := boxed BX.out 0
  have x0 : (w.alloc (.cells #[.slice (some ⟨bC, oC, none⟩) f.n cC', .slice aR' f.k cR', .int .i64 f.week, .slice aH' f.hol.length cH'] 26)).cell? ⟨bC, oC + kk * 5, none⟩ = some (.int .i64 (f.C kk).kind) := (BW.out.cell (p := ⟨bC, oC + kk * 5, none⟩) zC).trans x0
  have C0 := hid (h.keep BW.out)
  have S0 := hid (StZ.of BW.out h.lt)
  have kl : (kk : Int) < (f.n : Int) := by omega
  clear h hC BX BW
  by_cases hkd : (f.C kk).kind = 0
  · have SET : Hid (∀ v', ¬ IsV v' → Calls Tryd.prog 18 #[.pointer (some ⟨p.bp, 0, none⟩), .int .i64 kk, .int .i64 v'] _ fun e w' => C1P (.int .i64 8) Z (b + 1) f Q p m _ e w') := fun v' hv' => (c1set C0.out (by omega) kk v').mono (fun _ _ g => C1P.as g (r' := .int .i64 8) (m' := m) (congrArg (Value.int .i64) (set_value hop hk' hkd hv').1) (set_value hop hk' hkd hv').2)
    rw [hkd] at x0
    clear hkd
    go_enter Tryd.func44, Tryd.ntmps44
    go_upto_region 1 with (fail)
    generalize w.alloc (.cells #[.slice (some ⟨bC, oC, none⟩) f.n cC', .slice aR' f.k cR', .int .i64 f.week, .slice aH' f.hol.length cH'] 26) = wB at *
    go_wp2_with fail
    refine (PK.out _).mono ?_
    rintro e w' ⟨rfl, hw⟩
    rw [hw]
    clear hw w' PK
    by_cases v0 : -2000000000 ≤ v
    · by_cases v1 : v ≤ 2000000000
      · have SS := hid (SET.out (v + 4000000000 + 1) (fun h => by unfold IsV at h; omega))
        clear SET
        go_wp2_with fail
        refine SS.out.mono ?_
        rintro e w2 ⟨rfl, c2, s2⟩
        have R : Hid (C1P (.bool true) Z (b + 1) f Q p m w (.returned (.bool true)) w2) := ⟨rfl, c2, S0.out.trans s2⟩
        clear c2 s2
        go_wp2
        go_ret
        exact R.out
      · have SS := hid (SET.out v (fun h => by unfold IsV at h; omega))
        clear SET
        go_wp2_with fail
        refine SS.out.mono ?_
        rintro e w2 ⟨rfl, c2, s2⟩
        have R : Hid (C1P (.bool true) Z (b + 1) f Q p m w (.returned (.bool true)) w2) := ⟨rfl, c2, S0.out.trans s2⟩
        clear c2 s2
        go_wp2
        go_ret
        exact R.out
    · have SS := hid (SET.out v (fun h => by unfold IsV at h; omega))
      clear SET
      go_wp2_with fail
      refine SS.out.mono ?_
      rintro e w2 ⟨rfl, c2, s2⟩
      have R : Hid (C1P (.bool true) Z (b + 1) f Q p m w (.returned (.bool true)) w2) := ⟨rfl, c2, S0.out.trans s2⟩
      clear c2 s2
      go_wp2
      go_ret
      exact R.out
  · have SET := hid ((c1set C0.out (by omega) kk v).mono (fun _ _ g => C1P.as g (r' := .int .i64 7) (m' := m) (congrArg (Value.int .i64) (set_field hop hk' hkd v).1) (set_field hop hk' hkd v).2))
    have d : ((f.C kk).kind != 0) = true := by simp [hkd]
    clear hkd
    generalize (f.C kk).kind = kd at *
    go_enter Tryd.func44, Tryd.ntmps44
    go_upto_region 1 with (fail)
    generalize w.alloc (.cells #[.slice (some ⟨bC, oC, none⟩) f.n cC', .slice aR' f.k cR', .int .i64 f.week, .slice aH' f.hol.length cH'] 26) = wB at *
    go_wp2_with fail
    refine (PK.out _).mono ?_
    rintro e w' ⟨rfl, hw⟩
    rw [hw]
    clear hw w' PK
    go_wp2_with fail
    refine SET.out.mono ?_
    rintro e w2 ⟨rfl, c2, s2⟩
    have R : Hid (C1P (.bool true) Z (b + 1) f Q p m w (.returned (.bool true)) w2) := ⟨rfl, c2, S0.out.trans s2⟩
    clear c2 s2
    go_wp2
    go_ret
    exact R.out

set_option maxRecDepth 100000 in
set_option maxHeartbeats 2000000 in
theorem knames_any (h : C1 Z b f Q p m w) (hb : b ≤ 9000000000) (hop : m.op = true) {fv : Value} (hfv : FAt w f fv) (n : Int) (hn : I64k n) :
    Calls Tryd.prog 43 #[.pointer (some ⟨p.bp, 0, none⟩), fv, .int .i64 n] w fun e w' => C1P (.bool true) Z (b + 1) f Q p m w e w' := by
  obtain ⟨n1, n20, k6, _, _⟩ := h.fok.sizes
  obtain ⟨aC', cC', aR', cR', aH', cH', rfl, _, _, _⟩ := hfv
  have BX := hid (Below.refl (w.heap.size + 1) (w.alloc (.cells #[.slice aC' f.n cC', .slice aR' f.k cR', .int .i64 f.week, .slice aH' f.hol.length cH'] 26)))
  have BW := hid (boxed_below BX.out)
  have g0 : (w.alloc (.cells #[.slice aC' f.n cC', .slice aR' f.k cR', .int .i64 f.week, .slice aH' f.hol.length cH'] 26)).cell? ⟨w.heap.size, 0, none⟩ = some (.slice aC' f.n cC') := boxed BX.out 0
  have g1 : (w.alloc (.cells #[.slice aC' f.n cC', .slice aR' f.k cR', .int .i64 f.week, .slice aH' f.hol.length cH'] 26)).cell? ⟨w.heap.size, 1, none⟩ = some (.slice aR' f.k cR') := boxed BX.out 1
  have C0 := hid (h.keep BW.out)
  have S0 := hid (StZ.of BW.out h.lt)
  have OC := hid (fun W => koutside_any n f.n W hn (by omega) (by omega))
  have OR := hid (fun W => koutside_any n f.k W hn (by omega) (by omega))
  have hc0 := hid (outI_out n (n := f.n) (by omega))
  have hr0 := hid (outI_out n (n := f.k) (by omega))
  generalize outI n f.n = cc at *
  generalize outI n f.k = rr at *
  have ZL := hid h.lt
  clear h BX BW
  have hm := gSt
  go_enter Tryd.func43, Tryd.ntmps43
  go_upto_region 1 with (fail)
  generalize w.alloc (.cells #[.slice aC' f.n cC', .slice aR' f.k cR', .int .i64 f.week, .slice aH' f.hol.length cH'] 26) = wB at *
  generalize w.heap.size = g at *
  go_wp2_with fail
  refine (OC.out _).mono ?_
  rintro e w' ⟨rfl, hw⟩
  rw [hw]
  clear hw w' OC
  go_wp2_with fail
  refine (OR.out _).mono ?_
  rintro e w' ⟨rfl, hw⟩
  rw [hw]
  clear hw w' OR
  have VA : Hid (Calls Tryd.prog 31 #[.pointer (some ⟨p.bp, 0, none⟩), .int .i64 cc] wB fun e w' => e = .returned (.tuple #[.int .i64 0, .int .i64 6]) ∧ Below wB.heap.size wB w') := (c1value C0.out cc).mono (fun e w' g => by
    obtain ⟨g1, g2⟩ := g
    refine ⟨?_, g2⟩
    rw [g1]
    unfold valV valE
    rw [if_neg hc0.out, if_neg hc0.out])
  go_wp2_with fail
  refine VA.out.mono ?_
  rintro e w1 ⟨rfl, hb1⟩
  have C1' := hid (C0.out.keep hb1)
  have S1 := hid (S0.out.trans (StZ.of hb1 C0.out.lt))
  clear hb1 VA C0 S0 g0 g1
  have WN : Hid (Calls Tryd.prog 32 #[.pointer (some ⟨p.bp, 0, none⟩), .int .i64 cc] w1 fun e w' => e = .returned (.tuple #[.int .i64 0, .bool false, .int .i64 6]) ∧ Below w1.heap.size w1 w') := (c1when C1'.out cc).mono (fun e w' g => by
    obtain ⟨t, ok, er, g1, g2, g3⟩ := g
    refine ⟨?_, g3⟩
    rcases g2 with ⟨_, rfl, rfl, rfl⟩ | ⟨i, hi, hi2, _⟩
    · exact g1
    · exact (hc0.out (by omega)).elim)
  go_wp2_with fail
  refine WN.out.mono ?_
  rintro e w2 ⟨rfl, hb2⟩
  have C2 := hid (C1'.out.keep hb2)
  have S2 := hid (S1.out.trans (StZ.of hb2 C1'.out.lt))
  clear hb2 WN C1' S1
  have RU : Hid (Calls Tryd.prog 59 #[.pointer (some ⟨p.bp, 0, none⟩), .int .i64 rr] w2 fun e w' => e = .returned (.tuple #[.agg #[.bool false, .int .i64 0, .int .i64 0, .bool false], .int .i64 6]) ∧ Below w2.heap.size w2 w') := (c1rule C2.out rr).mono (fun e w' g => by
    obtain ⟨g1, g2⟩ := g
    refine ⟨?_, g2⟩
    rw [g1]
    unfold rulS rulE
    rw [if_neg hr0.out, if_neg hr0.out]
    rfl)
  go_wp2_with fail
  refine RU.out.mono ?_
  rintro e w3 ⟨rfl, hb3⟩
  have BY := hid (Below.refl (w3.heap.size + 1) (w3.alloc (.cells #[.bool false, .int .i64 0, .int .i64 0, .bool false] 80)))
  have BZ := hid (boxed_below BY.out)
  have s0 : (w3.alloc (.cells #[.bool false, .int .i64 0, .int .i64 0, .bool false] 80)).cell? ⟨w3.heap.size, 0, none⟩ = some (.bool false) := boxed BY.out 0
  have s1 : (w3.alloc (.cells #[.bool false, .int .i64 0, .int .i64 0, .bool false] 80)).cell? ⟨w3.heap.size, 1, none⟩ = some (.int .i64 0) := boxed BY.out 1
  have s2 : (w3.alloc (.cells #[.bool false, .int .i64 0, .int .i64 0, .bool false] 80)).cell? ⟨w3.heap.size, 2, none⟩ = some (.int .i64 0) := boxed BY.out 2
  have s3 : (w3.alloc (.cells #[.bool false, .int .i64 0, .int .i64 0, .bool false] 80)).cell? ⟨w3.heap.size, 3, none⟩ = some (.bool false) := boxed BY.out 3
  have C3 := hid ((C2.out.keep hb3).drop BZ.out)
  have S3 := hid (S2.out.trans ((StZ.of hb3 C2.out.lt).trans (StZ.of BZ.out (C2.out.keep hb3).lt)))
  have zs : Hid (zup Z w3 (w3.alloc (.cells #[.bool false, .int .i64 0, .int .i64 0, .bool false] 80)) w3.heap.size) := Or.inr ⟨Nat.le_refl _, by simp⟩
  have ZS : Hid (∀ j, Z j → zup Z w3 (w3.alloc (.cells #[.bool false, .int .i64 0, .int .i64 0, .bool false] 80)) j) := fun j hj => Or.inl hj
  clear hb3 RU C2 S2 BY BZ
  go_upto_region 6 with (fail)
  generalize zup Z w3 (w3.alloc (.cells #[.bool false, .int .i64 0, .int .i64 0, .bool false] 80)) = Z3 at *
  generalize w3.alloc (.cells #[.bool false, .int .i64 0, .int .i64 0, .bool false] 80) = u3 at *
  generalize w3.heap.size = gs at *
  have SET := hid ((c1set C3.out (by omega) cc 1).mono (fun _ _ g => C1P.as g (r' := .int .i64 6) (m' := m) (congrArg (Value.int .i64) (set_name hop hc0.out 1).1) (set_name hop hc0.out 1).2))
  go_wp2_with fail
  refine SET.out.mono ?_
  rintro e w4 ⟨rfl, c4, q4⟩
  have C4 := hid c4
  have S4 := hid (S3.out.trans (q4.less ZS.out))
  have s0 := (q4.cell 0 zs.out).trans s0
  have s1 := (q4.cell 1 zs.out).trans s1
  have s2 := (q4.cell 2 zs.out).trans s2
  have s3 := (q4.cell 3 zs.out).trans s3
  clear c4 q4 SET C3 S3
  have ACK := hid ((c1ack C4.out rr).mono (fun _ _ g => C1P.as g (r' := .int .i64 6) (m' := m) (congrArg (Value.int .i64) (ack_name hop hr0.out).1) (ack_name hop hr0.out).2))
  go_wp2_with fail
  refine ACK.out.mono ?_
  rintro e w5 ⟨rfl, c5, q5⟩
  have R : Hid (C1P (.bool true) Z (b + 1) f Q p m w (.returned (.bool true)) w5) := ⟨rfl, c5.less ZS.out, S4.out.trans (q5.less ZS.out)⟩
  have s0 := (q5.cell 0 zs.out).trans s0
  have s1 := (q5.cell 1 zs.out).trans s1
  have s2 := (q5.cell 2 zs.out).trans s2
  have s3 := (q5.cell 3 zs.out).trans s3
  clear c5 q5 ACK C4 S4
  go_wp2
  go_ret
  exact R.out
end

end Go.Proofs.YtmofidaojmiepaaDoor

/-
  THE WALKS: docketkeep.Refused.
-/
set_option linter.unusedVariables false
set_option linter.unusedSimpArgs false
namespace Go.Proofs.YtmofidaojmiepaaDoor
open Go.RowKit
attribute [local go_sem ↓] Go.wp_at_zero Go.wp_at_succ

theorem ack_free {f : Frm} {m : Cs} (hop : m.op = true) {i : Nat} (hi : i < f.k) (h1 : (m.S i).lit = true) (h2 : (m.S i).acked = false) :
    ackNo f m i = 0 ∧ (ackM f m i).op = true ∧ (∀ j, j ≠ i → (ackM f m i).S j = m.S j) ∧ ackNo f (ackM f m i) i = 11 ∧ ackM f (ackM f m i) i = ackM f m i := by
  have e0 : ackNo f m i = 0 := by
    unfold ackNo
    rw [if_neg (by rw [hop]; simp), if_neg (by omega), if_neg (by simp [h1, h2])]
  have e1 : ackM f m i = ⟨m.F, m.T, m.op, upd m.S i ⟨(m.S i).lit, (m.S i).since, (m.S i).level, true⟩, m.E⟩ := by
    unfold ackM
    rw [if_pos e0]
    rfl
  have e2 : ackNo f (ackM f m i) i = 11 := by
    rw [e1]
    unfold ackNo
    rw [if_neg (by show ¬ m.op = false; rw [hop]; simp), if_neg (by omega), if_pos (Or.inr (by show (upd m.S i _ (i : Int).toNat).acked = true; rw [show ((i : Int)).toNat = i by omega, upd_same]))]
  refine ⟨e0, by rw [e1]; exact hop, fun j hj => by rw [e1]; exact upd_other _ _ hj, e2, ?_⟩
  rw [show ackM f (ackM f m i) i = if ackNo f (ackM f m i) i = 0 then _ else ackM f m i from rfl, e2, if_neg (by omega)]
theorem ack_not {f : Frm} {m : Cs} (hop : m.op = true) {i : Nat} (hi : i < f.k) (h : (m.S i).lit = false ∨ (m.S i).acked = true) : ackNo f m i = 11 ∧ ackM f m i = m := by
  have e0 : ackNo f m i = 11 := by
    unfold ackNo
    rw [if_neg (by rw [hop]; simp), if_neg (by omega), if_pos (by simpa using h)]
  refine ⟨e0, ?_⟩
  unfold ackM
  rw [e0, if_neg (by omega)]

/-- A case that was acked up to i. -/
def Upto (m : Cs) (i : Nat) (m' : Cs) : Prop := m'.op = true ∧ ∀ j, i ≤ j → m'.S j = m.S j

set_option maxRecDepth 100000 in
set_option maxHeartbeats 4000000 in
theorem krefused_any (C : Nat → Cel) (R : Nat → Rul) (hol : List Int) (aC aR aH : Option Addr) (n cC k cR cH : Nat) (week : Int) (w : World) (ht : Tab w) (hn : n ≤ 1000000000) (hk : k ≤ 1000000000) (hhl : hol.length ≤ 1000000000) (h64 : Raw64 C n R k week hol)
    (hcs : CAt w aC n C) (hrs : RAt w aR k R) (hhs : IntsAt w (.slice aH hol.length cH) hol) {aS : Option Addr} {mS cS : Nat} {S : Nat → StK} (hsc : ScK w aS mS S) (hm : mS ≤ 1048576) (n' v' : Int) (h1 : I64k n') (h2 : I64k v') :
    Calls Tryd.prog 11 #[.agg #[.slice aC n cC, .slice aR k cR, .int .i64 week, .slice aH hol.length cH], .slice aS mS cS, .int .i64 n', .int .i64 v'] w fun e w' => TPost w e w' := by
  have BX := hid (Below.refl (w.heap.size + 1) (w.alloc (.cells #[.slice aC n cC, .slice aR k cR, .int .i64 week, .slice aH hol.length cH] 26)))
  have BW := hid (boxed_below BX.out)
  have SH := hid (kshaped_any C R hol aC aR aH n cC k cR cH week _ hn hk hhl h64 (hcs.below BW.out) (hrs.below BW.out) (SlAt.below hhs BW.out (Nat.le_refl _)))
  have FSO := hid (shF_ok C n R k week hol)
  have HT := hid ht
  have HSC := hid hsc
  clear hcs hrs hhs h64 ht hsc
  generalize shF C n R k week hol = f at *
  go_enter Tryd.func11, Tryd.ntmps11
  go_wp2_with fail
  refine SH.out.mono ?_
  rintro e w1 ⟨fv, rfl, fa, hb1⟩
  have FA := hid fa
  obtain ⟨aC', cC', aR', cR', aH', cH', rfl, fa1, fa2, fa3⟩ := fa
  clear fa1 fa2 fa3
  have B1 : Hid (Below w.heap.size w w1) := BW.out.trans (hb1.mono (by simp))
  clear hb1 BX BW SH
  have BX := hid (Below.refl (w1.heap.size + 1) (w1.alloc (.cells #[.slice aC' f.n cC', .slice aR' f.k cR', .int .i64 f.week, .slice aH' f.hol.length cH'] 26)))
  have BB := hid (boxed_below BX.out)
  have f0 : (w1.alloc (.cells #[.slice aC' f.n cC', .slice aR' f.k cR', .int .i64 f.week, .slice aH' f.hol.length cH'] 26)).cell? ⟨w1.heap.size, 0, none⟩ = some (Value.slice aC' f.n cC') := boxed BX.out 0
  have f1 : (w1.alloc (.cells #[.slice aC' f.n cC', .slice aR' f.k cR', .int .i64 f.week, .slice aH' f.hol.length cH'] 26)).cell? ⟨w1.heap.size, 1, none⟩ = some (Value.slice aR' f.k cR') := boxed BX.out 1
  have f2 : (w1.alloc (.cells #[.slice aC' f.n cC', .slice aR' f.k cR', .int .i64 f.week, .slice aH' f.hol.length cH'] 26)).cell? ⟨w1.heap.size, 2, none⟩ = some (.int .i64 f.week) := boxed BX.out 2
  have f3 : (w1.alloc (.cells #[.slice aC' f.n cC', .slice aR' f.k cR', .int .i64 f.week, .slice aH' f.hol.length cH'] 26)).cell? ⟨w1.heap.size, 3, none⟩ = some (Value.slice aH' f.hol.length cH') := boxed BX.out 3
  have zg : w1.heap.size < (w1.alloc (.cells #[.slice aC' f.n cC', .slice aR' f.k cR', .int .i64 f.week, .slice aH' f.hol.length cH'] 26)).heap.size := by simp
  have B0 : Hid (Below w.heap.size w (w1.alloc (.cells #[.slice aC' f.n cC', .slice aR' f.k cR', .int .i64 f.week, .slice aH' f.hol.length cH'] 26))) := B1.out.trans (BB.out.mono B1.out.size)
  have FA0 := hid (FA.out.below BB.out)
  have SC0 := hid (HSC.out.below B0.out)
  have T0 := hid (HT.out.below B0.out (Nat.le_refl _))
  clear BX BB FA B1 HT HSC
  go_upto_region 2 with (fail)
  generalize w1.alloc (.cells #[.slice aC' f.n cC', .slice aR' f.k cR', .int .i64 f.week, .slice aH' f.hol.length cH'] 26) = w0 at *
  generalize w1.heap.size = g at *
  obtain ⟨n1, n20, k6, _, _⟩ := FSO.out.ok.sizes
  have OPN := hid (c1opened T0.out FSO.out.ok FA0.out)
  go_wp2_with fail
  refine OPN.out.mono ?_
  rintro e w2 ⟨Q, p, rfl, c2, s2⟩
  have C2 := hid c2
  have SW := hid s2
  have f0' := (s2.cell 0 zg).trans f0
  have f1' := (s2.cell 1 zg).trans f1
  have f2' := (s2.cell 2 zg).trans f2
  have f3' := (s2.cell 3 zg).trans f3
  have PLY := hid (c1play (cS := cS) C2.out (SW.out.below (Below.refl _ _) (fun j hj => hj)) (fun j hj => hj) FA0.out SC0.out (beginM_op f) hm (by omega))
  have OP : Hid ((playM f (beginM f) S mS).op = true) := (playM_op f (beginM f) S mS).trans (beginM_op f)
  generalize playM f (beginM f) S mS = m at *
  clear c2 s2 OPN
  go_wp2_with fail
  refine PLY.out.mono ?_
  rintro e w3 ⟨rfl, c3, s3⟩
  have C3 : Hid (C1 (fun j => j < w0.heap.size) (1 + mS) f Q p m w3) := c3
  have SW := hid (SW.out.trans s3)
  have g0 := (SW.out.cell 0 zg).trans f0
  have g1 := (SW.out.cell 1 zg).trans f1
  have g2 := (SW.out.cell 2 zg).trans f2
  have g3 := (SW.out.cell 3 zg).trans f3
  clear c3 s3 PLY C2 f0' f1' f2' f3' f0 f1 f2 f3
  have HZ : Hid (∀ j, j < w0.heap.size → (fun j => j < w0.heap.size) j) := (fun j hj => hj)
  have ZG : Hid ((fun j => j < w0.heap.size) g) := zg
  have HM : Hid (m.Ok f) := C3.out.mok
  have LEN : Hid (m.E.length ≤ 1000000000000) := by show _ ≤ _; have := C3.out.len (by omega); omega
  have AN : Hid (advAns m.T m.T = 0 ∧ advM f m m.T = m) := by
    refine ⟨?_, ?_⟩
    · show advAns _ _ = _; unfold advAns; rw [if_neg (by have := HM.out.t1; omega)]
    · show advM _ _ _ = _; unfold advM; rw [if_neg (by have := HM.out.t1; omega), show m.T - m.T = 0 by omega]; rfl
  generalize hZ0 : (fun j => j < w0.heap.size) = Z0 at C3 HZ ZG
  clear hZ0
  have LK : Hid (Calls Tryd.prog 23 #[.pointer (some ⟨p.bp, 0, none⟩), (.agg #[.slice aC' f.n cC', .slice aR' f.k cR', .int .i64 f.week, .slice aH' f.hol.length cH'])] w3 fun e w' => LoP f m w3 e w') := c1look C3.out (by omega) (FA0.out.below (SW.out.below (Below.refl _ _) (fun j hj => hj)))
  go_wp2_with fail
  refine LK.out.mono ?_
  rintro e ax ⟨vx, rfl, l, b⟩
  have Lx := hid l
  obtain ⟨xV, xS, xL, rfl, r1, r2, r3⟩ := l.ex
  obtain ⟨xa1, xc1, rfl⟩ := own_len r1
  obtain ⟨xa2, xc2, rfl⟩ := own_len r2
  obtain ⟨xa3, xc3, rfl⟩ := own_len r3
  have BB : Hid (Below ax.heap.size ax (ax.alloc (.cells #[.int .i64 m.T, .slice xa1 f.n xc1, .slice xa2 f.k xc2, .slice xa3 m.E.length xc3, .bool true] 46))) := boxed_below (Below.refl (ax.heap.size + 1) (ax.alloc (.cells #[.int .i64 m.T, .slice xa1 f.n xc1, .slice xa2 f.k xc2, .slice xa3 m.E.length xc3, .bool true] 46)))
  have NW : Hid (Below w3.heap.size w3 (ax.alloc (.cells #[.int .i64 m.T, .slice xa1 f.n xc1, .slice xa2 f.k xc2, .slice xa3 m.E.length xc3, .bool true] 46))) := b.trans (BB.out.mono b.size)
  have NS : Hid (StZ Z0 w3 (ax.alloc (.cells #[.int .i64 m.T, .slice xa1 f.n xc1, .slice xa2 f.k xc2, .slice xa3 m.E.length xc3, .bool true] 46))) := StZ.of NW.out C3.out.lt
  have Lx : Hid (LookZ (zup Z0 w3 (ax.alloc (.cells #[.int .i64 m.T, .slice xa1 f.n xc1, .slice xa2 f.k xc2, .slice xa3 m.E.length xc3, .bool true] 46))) f m _ (ax.alloc (.cells #[.int .i64 m.T, .slice xa1 f.n xc1, .slice xa2 f.k xc2, .slice xa3 m.E.length xc3, .bool true] 46))) := LookZ.of (Lx.out.below (B2 := 0) BB.out) (fun j h1 h2 => Or.inr ⟨h1, h2⟩)
  have g0 := (NS.out.cell 0 ZG.out).trans g0
  have g1 := (NS.out.cell 1 ZG.out).trans g1
  have g2 := (NS.out.cell 2 ZG.out).trans g2
  have g3 := (NS.out.cell 3 ZG.out).trans g3
  have zx : Hid (zup Z0 w3 (ax.alloc (.cells #[.int .i64 m.T, .slice xa1 f.n xc1, .slice xa2 f.k xc2, .slice xa3 m.E.length xc3, .bool true] 46)) ax.heap.size) := Or.inr ⟨b.size, by simp⟩
  have cx0 : (ax.alloc (.cells #[.int .i64 m.T, .slice xa1 f.n xc1, .slice xa2 f.k xc2, .slice xa3 m.E.length xc3, .bool true] 46)).cell? ⟨ax.heap.size, 0, none⟩ = some (.int .i64 m.T) := boxed (Below.refl (ax.heap.size + 1) (ax.alloc (.cells #[.int .i64 m.T, .slice xa1 f.n xc1, .slice xa2 f.k xc2, .slice xa3 m.E.length xc3, .bool true] 46))) 0
  have cx1 : (ax.alloc (.cells #[.int .i64 m.T, .slice xa1 f.n xc1, .slice xa2 f.k xc2, .slice xa3 m.E.length xc3, .bool true] 46)).cell? ⟨ax.heap.size, 1, none⟩ = some (.slice xa1 f.n xc1) := boxed (Below.refl (ax.heap.size + 1) (ax.alloc (.cells #[.int .i64 m.T, .slice xa1 f.n xc1, .slice xa2 f.k xc2, .slice xa3 m.E.length xc3, .bool true] 46))) 1
  have cx2 : (ax.alloc (.cells #[.int .i64 m.T, .slice xa1 f.n xc1, .slice xa2 f.k xc2, .slice xa3 m.E.length xc3, .bool true] 46)).cell? ⟨ax.heap.size, 2, none⟩ = some (.slice xa2 f.k xc2) := boxed (Below.refl (ax.heap.size + 1) (ax.alloc (.cells #[.int .i64 m.T, .slice xa1 f.n xc1, .slice xa2 f.k xc2, .slice xa3 m.E.length xc3, .bool true] 46))) 2
  have cx3 : (ax.alloc (.cells #[.int .i64 m.T, .slice xa1 f.n xc1, .slice xa2 f.k xc2, .slice xa3 m.E.length xc3, .bool true] 46)).cell? ⟨ax.heap.size, 3, none⟩ = some (.slice xa3 m.E.length xc3) := boxed (Below.refl (ax.heap.size + 1) (ax.alloc (.cells #[.int .i64 m.T, .slice xa1 f.n xc1, .slice xa2 f.k xc2, .slice xa3 m.E.length xc3, .bool true] 46))) 3
  have cx4 : (ax.alloc (.cells #[.int .i64 m.T, .slice xa1 f.n xc1, .slice xa2 f.k xc2, .slice xa3 m.E.length xc3, .bool true] 46)).cell? ⟨ax.heap.size, 4, none⟩ = some (.bool true) := boxed (Below.refl (ax.heap.size + 1) (ax.alloc (.cells #[.int .i64 m.T, .slice xa1 f.n xc1, .slice xa2 f.k xc2, .slice xa3 m.E.length xc3, .bool true] 46))) 4
  have HZ0 := hid HZ.out
  have HZ : Hid (∀ j, j < w0.heap.size → zup Z0 w3 (ax.alloc (.cells #[.int .i64 m.T, .slice xa1 f.n xc1, .slice xa2 f.k xc2, .slice xa3 m.E.length xc3, .bool true] 46)) j) := fun j hj => Or.inl (HZ.out j hj)
  have ZG : Hid (zup Z0 w3 (ax.alloc (.cells #[.int .i64 m.T, .slice xa1 f.n xc1, .slice xa2 f.k xc2, .slice xa3 m.E.length xc3, .bool true] 46)) g) := Or.inl ZG.out
  have SW := hid (SW.out.trans (NS.out.less (fun j hj => HZ0.out j hj)))
  have Nx := hid (C3.out.drop NW.out)
  clear r1 r2 r3 l b BB NW NS LK C3
  go_upto_region 7 with (fail)
  generalize zup Z0 w3 (ax.alloc (.cells #[.int .i64 m.T, .slice xa1 f.n xc1, .slice xa2 f.k xc2, .slice xa3 m.E.length xc3, .bool true] 46)) = Zx at *
  generalize (ax.alloc (.cells #[.int .i64 m.T, .slice xa1 f.n xc1, .slice xa2 f.k xc2, .slice xa3 m.E.length xc3, .bool true] 46)) = ux at *
  generalize ax.heap.size = gx at *
  have KC := hid (knames_any Nx.out (by omega) OP.out (FA0.out.below (SW.out.below (Below.refl _ _) (fun j hj => hj))) n' h1)
  go_wp2_with fail
  refine KC.out.mono ?_
  rintro e y1 ⟨rfl, l, s⟩
  have K1 : Hid (C1 Zx (1 + mS + 1) f Q p m y1) := l
  have SW : Hid (StZ (fun j => j < w0.heap.size) w0 y1) := SW.out.trans (s.less HZ.out)
  have Lx := hid (Lx.out.stays s)
  have cx0 := (s.cell 0 zx.out).trans cx0
  have cx1 := (s.cell 1 zx.out).trans cx1
  have cx2 := (s.cell 2 zx.out).trans cx2
  have cx3 := (s.cell 3 zx.out).trans cx3
  have cx4 := (s.cell 4 zx.out).trans cx4
  have g0 := (s.cell 0 ZG.out).trans g0
  have g1 := (s.cell 1 ZG.out).trans g1
  have g2 := (s.cell 2 ZG.out).trans g2
  have g3 := (s.cell 3 ZG.out).trans g3
  clear l s KC Nx
  have KC := hid (kfields_any K1.out (by omega) OP.out (FA0.out.below (SW.out.below (Below.refl _ _) (fun j hj => hj))) n' v' h1 h2)
  go_wp2_with fail
  refine KC.out.mono ?_
  rintro e y2 ⟨rfl, l, s⟩
  have K2 : Hid (C1 Zx (1 + mS + 1 + 1) f Q p m y2) := l
  have SW : Hid (StZ (fun j => j < w0.heap.size) w0 y2) := SW.out.trans (s.less HZ.out)
  have Lx := hid (Lx.out.stays s)
  have cx0 := (s.cell 0 zx.out).trans cx0
  have cx1 := (s.cell 1 zx.out).trans cx1
  have cx2 := (s.cell 2 zx.out).trans cx2
  have cx3 := (s.cell 3 zx.out).trans cx3
  have cx4 := (s.cell 4 zx.out).trans cx4
  have g0 := (s.cell 0 ZG.out).trans g0
  have g1 := (s.cell 1 ZG.out).trans g1
  have g2 := (s.cell 2 ZG.out).trans g2
  have g3 := (s.cell 3 ZG.out).trans g3
  clear l s KC K1
  have KC := hid (kclocks_any K2.out (by omega) n' h1)
  go_wp2_with fail
  refine KC.out.mono ?_
  rintro e y3 ⟨rfl, l, s⟩
  have K3 : Hid (C1 Zx (1 + mS + 1 + 1) f Q p m y3) := l
  have SW : Hid (StZ (fun j => j < w0.heap.size) w0 y3) := SW.out.trans (s.less HZ.out)
  have Lx := hid (Lx.out.stays s)
  have cx0 := (s.cell 0 zx.out).trans cx0
  have cx1 := (s.cell 1 zx.out).trans cx1
  have cx2 := (s.cell 2 zx.out).trans cx2
  have cx3 := (s.cell 3 zx.out).trans cx3
  have cx4 := (s.cell 4 zx.out).trans cx4
  have g0 := (s.cell 0 ZG.out).trans g0
  have g1 := (s.cell 1 ZG.out).trans g1
  have g2 := (s.cell 2 ZG.out).trans g2
  have g3 := (s.cell 3 ZG.out).trans g3
  clear l s KC K2
  have KC := hid ((c1adv K3.out (by omega) m.T).mono (fun _ _ g => C1P.as g (r' := .int .i64 0) (m' := m) (congrArg (Value.int .i64) AN.out.1) AN.out.2))
  go_wp2_with fail
  refine KC.out.mono ?_
  rintro e y4 ⟨rfl, l, s⟩
  have K4 : Hid (C1 Zx (1 + mS + 1 + 1) f Q p m y4) := l
  have SW : Hid (StZ (fun j => j < w0.heap.size) w0 y4) := SW.out.trans (s.less HZ.out)
  have Lx := hid (Lx.out.stays s)
  have cx0 := (s.cell 0 zx.out).trans cx0
  have cx1 := (s.cell 1 zx.out).trans cx1
  have cx2 := (s.cell 2 zx.out).trans cx2
  have cx3 := (s.cell 3 zx.out).trans cx3
  have cx4 := (s.cell 4 zx.out).trans cx4
  have g0 := (s.cell 0 ZG.out).trans g0
  have g1 := (s.cell 1 ZG.out).trans g1
  have g2 := (s.cell 2 ZG.out).trans g2
  have g3 := (s.cell 3 ZG.out).trans g3
  clear l s KC K3
  have LK : Hid (Calls Tryd.prog 23 #[.pointer (some ⟨p.bp, 0, none⟩), (.agg #[.slice aC' f.n cC', .slice aR' f.k cR', .int .i64 f.week, .slice aH' f.hol.length cH'])] y4 fun e w' => LoP f m y4 e w') := c1look K4.out (by omega) (FA0.out.below (SW.out.below (Below.refl _ _) (fun j hj => hj)))
  go_wp2_with fail
  refine LK.out.mono ?_
  rintro e ay ⟨vy, rfl, l, b⟩
  have Ly := hid l
  obtain ⟨yV, yS, yL, rfl, r1, r2, r3⟩ := l.ex
  obtain ⟨ya1, yc1, rfl⟩ := own_len r1
  obtain ⟨ya2, yc2, rfl⟩ := own_len r2
  obtain ⟨ya3, yc3, rfl⟩ := own_len r3
  have BB : Hid (Below ay.heap.size ay (ay.alloc (.cells #[.int .i64 m.T, .slice ya1 f.n yc1, .slice ya2 f.k yc2, .slice ya3 m.E.length yc3, .bool true] 46))) := boxed_below (Below.refl (ay.heap.size + 1) (ay.alloc (.cells #[.int .i64 m.T, .slice ya1 f.n yc1, .slice ya2 f.k yc2, .slice ya3 m.E.length yc3, .bool true] 46)))
  have NW : Hid (Below y4.heap.size y4 (ay.alloc (.cells #[.int .i64 m.T, .slice ya1 f.n yc1, .slice ya2 f.k yc2, .slice ya3 m.E.length yc3, .bool true] 46))) := b.trans (BB.out.mono b.size)
  have NS : Hid (StZ Zx y4 (ay.alloc (.cells #[.int .i64 m.T, .slice ya1 f.n yc1, .slice ya2 f.k yc2, .slice ya3 m.E.length yc3, .bool true] 46))) := StZ.of NW.out K4.out.lt
  have Ly : Hid (LookZ (zup Zx y4 (ay.alloc (.cells #[.int .i64 m.T, .slice ya1 f.n yc1, .slice ya2 f.k yc2, .slice ya3 m.E.length yc3, .bool true] 46))) f m _ (ay.alloc (.cells #[.int .i64 m.T, .slice ya1 f.n yc1, .slice ya2 f.k yc2, .slice ya3 m.E.length yc3, .bool true] 46))) := LookZ.of (Ly.out.below (B2 := 0) BB.out) (fun j h1 h2 => Or.inr ⟨h1, h2⟩)
  have Lx := hid ((Lx.out.stays NS.out).less (Z' := zup Zx y4 (ay.alloc (.cells #[.int .i64 m.T, .slice ya1 f.n yc1, .slice ya2 f.k yc2, .slice ya3 m.E.length yc3, .bool true] 46))) (fun j hj => Or.inl hj))
  have cx0 := (NS.out.cell 0 zx.out).trans cx0
  have cx1 := (NS.out.cell 1 zx.out).trans cx1
  have cx2 := (NS.out.cell 2 zx.out).trans cx2
  have cx3 := (NS.out.cell 3 zx.out).trans cx3
  have cx4 := (NS.out.cell 4 zx.out).trans cx4
  have zx : Hid (zup Zx y4 (ay.alloc (.cells #[.int .i64 m.T, .slice ya1 f.n yc1, .slice ya2 f.k yc2, .slice ya3 m.E.length yc3, .bool true] 46)) gx) := Or.inl zx.out
  have g0 := (NS.out.cell 0 ZG.out).trans g0
  have g1 := (NS.out.cell 1 ZG.out).trans g1
  have g2 := (NS.out.cell 2 ZG.out).trans g2
  have g3 := (NS.out.cell 3 ZG.out).trans g3
  have zy : Hid (zup Zx y4 (ay.alloc (.cells #[.int .i64 m.T, .slice ya1 f.n yc1, .slice ya2 f.k yc2, .slice ya3 m.E.length yc3, .bool true] 46)) ay.heap.size) := Or.inr ⟨b.size, by simp⟩
  have cy0 : (ay.alloc (.cells #[.int .i64 m.T, .slice ya1 f.n yc1, .slice ya2 f.k yc2, .slice ya3 m.E.length yc3, .bool true] 46)).cell? ⟨ay.heap.size, 0, none⟩ = some (.int .i64 m.T) := boxed (Below.refl (ay.heap.size + 1) (ay.alloc (.cells #[.int .i64 m.T, .slice ya1 f.n yc1, .slice ya2 f.k yc2, .slice ya3 m.E.length yc3, .bool true] 46))) 0
  have cy1 : (ay.alloc (.cells #[.int .i64 m.T, .slice ya1 f.n yc1, .slice ya2 f.k yc2, .slice ya3 m.E.length yc3, .bool true] 46)).cell? ⟨ay.heap.size, 1, none⟩ = some (.slice ya1 f.n yc1) := boxed (Below.refl (ay.heap.size + 1) (ay.alloc (.cells #[.int .i64 m.T, .slice ya1 f.n yc1, .slice ya2 f.k yc2, .slice ya3 m.E.length yc3, .bool true] 46))) 1
  have cy2 : (ay.alloc (.cells #[.int .i64 m.T, .slice ya1 f.n yc1, .slice ya2 f.k yc2, .slice ya3 m.E.length yc3, .bool true] 46)).cell? ⟨ay.heap.size, 2, none⟩ = some (.slice ya2 f.k yc2) := boxed (Below.refl (ay.heap.size + 1) (ay.alloc (.cells #[.int .i64 m.T, .slice ya1 f.n yc1, .slice ya2 f.k yc2, .slice ya3 m.E.length yc3, .bool true] 46))) 2
  have cy3 : (ay.alloc (.cells #[.int .i64 m.T, .slice ya1 f.n yc1, .slice ya2 f.k yc2, .slice ya3 m.E.length yc3, .bool true] 46)).cell? ⟨ay.heap.size, 3, none⟩ = some (.slice ya3 m.E.length yc3) := boxed (Below.refl (ay.heap.size + 1) (ay.alloc (.cells #[.int .i64 m.T, .slice ya1 f.n yc1, .slice ya2 f.k yc2, .slice ya3 m.E.length yc3, .bool true] 46))) 3
  have cy4 : (ay.alloc (.cells #[.int .i64 m.T, .slice ya1 f.n yc1, .slice ya2 f.k yc2, .slice ya3 m.E.length yc3, .bool true] 46)).cell? ⟨ay.heap.size, 4, none⟩ = some (.bool true) := boxed (Below.refl (ay.heap.size + 1) (ay.alloc (.cells #[.int .i64 m.T, .slice ya1 f.n yc1, .slice ya2 f.k yc2, .slice ya3 m.E.length yc3, .bool true] 46))) 4
  have HZ0 := hid HZ.out
  have HZ : Hid (∀ j, j < w0.heap.size → zup Zx y4 (ay.alloc (.cells #[.int .i64 m.T, .slice ya1 f.n yc1, .slice ya2 f.k yc2, .slice ya3 m.E.length yc3, .bool true] 46)) j) := fun j hj => Or.inl (HZ.out j hj)
  have ZG : Hid (zup Zx y4 (ay.alloc (.cells #[.int .i64 m.T, .slice ya1 f.n yc1, .slice ya2 f.k yc2, .slice ya3 m.E.length yc3, .bool true] 46)) g) := Or.inl ZG.out
  have SW := hid (SW.out.trans (NS.out.less (fun j hj => HZ0.out j hj)))
  have Ny := hid (K4.out.drop NW.out)
  clear r1 r2 r3 l b BB NW NS LK K4
  go_upto_region 12 with (fail)
  generalize zup Zx y4 (ay.alloc (.cells #[.int .i64 m.T, .slice ya1 f.n yc1, .slice ya2 f.k yc2, .slice ya3 m.E.length yc3, .bool true] 46)) = Zy at *
  generalize (ay.alloc (.cells #[.int .i64 m.T, .slice ya1 f.n yc1, .slice ya2 f.k yc2, .slice ya3 m.E.length yc3, .bool true] 46)) = uy at *
  generalize ay.heap.size = gy at *
  obtain ⟨Bx, lx⟩ := Lx.out.lk
  obtain ⟨By, ly⟩ := Ly.out.lk
  have AL := hid (kalike_any lx ly rfl rfl rfl (fun _ _ => rfl) (fun _ _ => rfl) rfl n20 k6 LEN.out)
  clear lx ly
  go_wp2_with fail
  refine AL.out.mono ?_
  rintro e w9 ⟨rfl, hb9⟩
  have C9 := hid (Ny.out.keep hb9)
  have S9 := hid (StZ.of hb9 Ny.out.lt)
  have SW := hid (SW.out.trans (S9.out.less HZ.out))
  have g1 := (S9.out.cell 1 ZG.out).trans g1
  have cx2 := (S9.out.cell 2 zx.out).trans cx2
  have Lx := hid (Lx.out.stays S9.out)
  clear hb9 AL Ny S9 g0 g2 g3 cx0 cx1 cx3 cx4 cy0 cy1 cy2 cy3 cy4 Ly
  go_wp2_with fail
  go_loopw [19] (fun t wr => ∃ (i : Nat) (m' : Cs), i ≤ f.k ∧ t = .int .i64 i ∧ Hid (Upto m i m') ∧ Hid (C1 Zy (1 + mS + 1 + 1) f Q p m' wr) ∧ Hid (StZ Zy w9 wr)) (fun t _ => f.k - (intOf t).toNat)
  case atStart => exact ⟨0, m, by omega, rfl, ⟨OP.out, fun _ _ => rfl⟩, C9, StZ.refl _ _⟩
  case round =>
    clear C9
    obtain ⟨i, m', i1, rfl, hu, hc, hs⟩ := hrel
    have x1 := (hs.out.cell 1 ZG.out).trans g1
    by_cases hik : i < f.k
    · have lt' : (i : Int) < (f.k : Int) := by omega
      have x2 := (hs.out.cell 2 zx.out).trans cx2
      obtain ⟨Bx, rx1, rx2, rx3⟩ := (Lx.out.stays hs.out).rows
      obtain ⟨ga, ca', e1, za, xx⟩ := own_cell rx2 (by omega)
      simp at e1
      obtain ⟨rfl, rfl⟩ := e1
      have at' : ∀ j, j < f.k * 4 → (stas4 m.S f.k)[j]? = some (stf m.S j) := fun j hj => by simp [stas4, hj]
      have y0 := xx (i * 4) (by omega)
      have y3 := xx (i * 4 + 3) (by omega)
      rw [at' _ (by omega), stf0] at y0
      rw [at' _ (by omega), stf3] at y3
      have zga : Hid (Zy ga) := by
        obtain ⟨B, _, h2⟩ := Lx.out
        exact h2 _ _ _ rfl ga (Or.inr (Or.inl rfl))
      have UI : Hid (m'.S i = m.S i) := hu.out.2 i (Nat.le_refl _)
      clear rx1 rx2 rx3 xx at'
      by_cases hfree : (m.S i).lit = true ∧ (m.S i).acked = false
      · obtain ⟨a0, a1, a2, a3, a4⟩ := ack_free (f := f) hu.out.1 hik (by rw [UI.out]; exact hfree.1) (by rw [UI.out]; exact hfree.2)
        rw [hfree.1] at y0
        rw [hfree.2] at y3
        have A1 := hid ((c1ack hc.out i).mono (fun _ _ g => C1P.as g (r' := .int .i64 0) (m' := ackM f m' i) (congrArg (Value.int .i64) a0) rfl))
        have A2 : Hid (∀ W, C1 Zy (1 + mS + 1 + 1) f Q p (ackM f m' i) W → Calls Tryd.prog 39 #[.pointer (some ⟨p.bp, 0, none⟩), .int .i64 i] W fun e w' => C1P (.int .i64 11) Zy (1 + mS + 1 + 1) f Q p (ackM f m' i) W e w') := fun W hW => (c1ack hW i).mono (fun _ _ g => C1P.as g (congrArg (Value.int .i64) a3) a4)
        have U2 : Hid (Upto m (i + 1) (ackM f m' i)) := ⟨a1, fun j hj => by rw [a2 j (by omega)]; exact hu.out.2 j (by omega)⟩
        clear a0 a1 a2 a3 a4 hfree
        generalize ackM f m' i = m2 at *
        go_wp2_with fail
        refine A1.out.mono ?_
        rintro e z1 ⟨rfl, q1, q2⟩
        have Q1 := hid q1
        have Q2 := hid (hs.out.trans q2)
        have x1 := (q2.cell 1 ZG.out).trans x1
        have x2 := (q2.cell 2 zx.out).trans x2
        have y0 := (q2.cell (i * 4) zga.out).trans y0
        have y3 := (q2.cell (i * 4 + 3) zga.out).trans y3
        clear q1 q2 A1 hc hs
        go_wp2_with fail
        refine (A2.out _ Q1.out).mono ?_
        rintro e z2 ⟨rfl, q1, q2⟩
        have Q1 := hid q1
        have Q2 := hid (Q2.out.trans q2)
        have x1 := (q2.cell 1 ZG.out).trans x1
        have x2 := (q2.cell 2 zx.out).trans x2
        have y0 := (q2.cell (i * 4) zga.out).trans y0
        have y3 := (q2.cell (i * 4 + 3) zga.out).trans y3
        clear q1 q2 A2
        go_wp2
        go_roundw
        case rel => exact ⟨i + 1, m2, by omega, by go_num, U2, Q1, Q2⟩
        case measure => simp [intOf]; omega
      · have hnf : (m.S i).lit = false ∨ (m.S i).acked = true := by
          cases hl : (m.S i).lit
          · exact Or.inl rfl
          · cases ha : (m.S i).acked
            · exact (hfree ⟨hl, ha⟩).elim
            · exact Or.inr rfl
        obtain ⟨a0, a1⟩ := ack_not (f := f) hu.out.1 hik (by rw [UI.out]; exact hnf)
        have A2 : Hid (∀ W, C1 Zy (1 + mS + 1 + 1) f Q p m' W → Calls Tryd.prog 39 #[.pointer (some ⟨p.bp, 0, none⟩), .int .i64 i] W fun e w' => C1P (.int .i64 11) Zy (1 + mS + 1 + 1) f Q p m' W e w') := fun W hW => (c1ack hW i).mono (fun _ _ g => C1P.as g (congrArg (Value.int .i64) a0) a1)
        have U2 : Hid (Upto m (i + 1) m') := ⟨hu.out.1, fun j hj => hu.out.2 j (by omega)⟩
        have HNF := hid hnf
        clear a0 a1 hfree hnf
        generalize hli : (m.S i).lit = li at *
        generalize hac : (m.S i).acked = ac at *
        clear hli hac
        go_wp2_with fail
        refine (A2.out _ hc.out).mono ?_
        rintro e z1 ⟨rfl, q1, q2⟩
        have Q1 := hid q1
        have Q2 := hid (hs.out.trans q2)
        have x1 := (q2.cell 1 ZG.out).trans x1
        have x2 := (q2.cell 2 zx.out).trans x2
        have y0 := (q2.cell (i * 4) zga.out).trans y0
        have y3 := (q2.cell (i * 4 + 3) zga.out).trans y3
        clear q1 q2 hc hs
        go_wp2_with fail
        refine (A2.out _ Q1.out).mono ?_
        rintro e z2 ⟨rfl, q1, q2⟩
        have Q1 := hid q1
        have Q2 := hid (Q2.out.trans q2)
        have x1 := (q2.cell 1 ZG.out).trans x1
        have x2 := (q2.cell 2 zx.out).trans x2
        have y0 := (q2.cell (i * 4) zga.out).trans y0
        have y3 := (q2.cell (i * 4 + 3) zga.out).trans y3
        clear q1 q2 A2
        cases li
        · go_wp2
          go_roundw
          case rel => exact ⟨i + 1, m', by omega, by go_num, U2, Q1, Q2⟩
          case measure => simp [intOf]; omega
        · have hac : ac = true := by rcases HNF.out with h | h; cases h; exact h
          rw [hac] at y3
          clear hac HNF
          go_wp2
          go_roundw
          case rel => exact ⟨i + 1, m', by omega, by go_num, U2, Q1, Q2⟩
          case measure => simp [intOf]; omega
    · have R : Hid (TPost w (.returned (.bool true)) wr) := ⟨rfl, B0.out.trans (((SW.out.trans (hs.out.less HZ.out)).below (Below.refl _ _) (fun j hj => hj)).mono B0.out.size)⟩
      go_wp2
      go_ret
      exact R.out

end Go.Proofs.YtmofidaojmiepaaDoor
