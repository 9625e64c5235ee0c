/-
  MEMORY: the document's world, exactly: sooner, candidate.
-/
import Derived.Test.YtcondcffllaaoaaGreatDoorD5
import Derived.Test.YtcondcffllaaoaaGreatDoorD6
set_option linter.unusedVariables false
set_option linter.unusedSimpArgs false
namespace Go.Proofs.YtcondcffllaaoaaGreatDoor
open Go.RowKit
attribute [local go_sem ↓] Go.wp_at_zero Go.wp_at_succ

theorem i64_in (n : Int) (h : -9223372036854775808 ≤ n ∧ n ≤ 9223372036854775807) : IntKind.i64.wrap n = n := by rw [IntKind.wrap_i64]; omega

theorem sooner_any (t x now : Int) (w : World) : Calls Tryz.prog 88 #[.int .i64 t, .int .i64 x, .int .i64 now] w fun e w' => e = .returned (.int .i64 (soon t x now)) ∧ w' = w := by
  have yes : now < x → x ≤ 1000000000 → (t < 0 ∨ x < t) → soon t x now = x := fun a b c => if_pos ⟨a, b, c⟩
  have no : ¬ (now < x ∧ x ≤ 1000000000 ∧ (t < 0 ∨ x < t)) → soon t x now = t := fun h => if_neg h
  by_cases h1 : now < x
  · by_cases h2 : x ≤ 1000000000
    · by_cases h3 : t < 0
      · rw [yes h1 h2 (Or.inl h3)]
        clear yes no
        go_enter Tryz.func88, Tryz.ntmps88
        go_wp2
        go_ret
        simp
      · by_cases h4 : x < t
        · rw [yes h1 h2 (Or.inr h4)]
          clear yes no
          go_enter Tryz.func88, Tryz.ntmps88
          go_wp2
          go_ret
          simp
        · rw [no (by omega)]
          clear yes no
          go_enter Tryz.func88, Tryz.ntmps88
          go_wp2
          go_ret
          simp
    · rw [no (by omega)]
      clear yes no
      go_enter Tryz.func88, Tryz.ntmps88
      go_wp2
      go_ret
      simp
  · rw [no (by omega)]
    clear yes no
    go_enter Tryz.func88, Tryz.ntmps88
    go_wp2
    go_ret
    simp

/-- What candidate answers. -/
def CnP (f : Frm) (F : Nat → Int) (T : Int) (S : Nat → St) (w : World) (e : Ending) (w' : World) : Prop := ∃ t, e = .returned (.int .i64 t) ∧ RQ f F T S f.k t ∧ Below w.heap.size w w'

set_option maxRecDepth 100000 in
set_option maxHeartbeats 3000000 in
theorem dcand_any {Q : Nat → Prop} {f : Frm} {p : Pl} {F : Nat → Int} {T : Int} {op : Bool} {S : Nat → St} {vE : Value} {E : List Ev} {w : World} (hS : DSt Q f p F T op S vE E w) (hf : f.Ok) (hF : FV f F) (hSt : ∀ i, i < f.k → StOk (S i)) (t0 : 0 ≤ T) (t1 : T ≤ 1000000000) :
    Calls Tryz.prog 63 #[.pointer (some ⟨p.bw, 0, none⟩)] w fun e w' => CnP f F T S w e w' := by
  obtain ⟨n1, hn, hk, wk1, wk2⟩ := hf.sizes
  obtain ⟨vl, vv⟩ := vals_local hf hF t0 t1
  have VL := hid vl
  have VV := hid vv
  have CALL := hid (dvalues_any hS hf hF t0 t1)
  have HS := hid hS
  have HST := hid hSt
  have HR := hid hf.rules
  have HC := hid hf.cells
  clear hS hSt hf hF vl vv
  go_enter Tryz.func63, Tryz.ntmps63
  go_wp2_with fail
  refine CALL.out.mono ?_
  rintro e w1 ⟨bv, rfl, q1, q2, hb2⟩
  have HV := hid q2
  have HS1 := hid (HS.out.drop hb2)
  have HB1 := hid hb2
  clear q2 hb2 CALL
  go_wp2
  go_loopw [4, 5] (fun tt ti wr => ∃ (i : Nat) (t : Int), i ≤ f.n ∧ ti = .int .i64 i ∧ tt = .int .i64 t ∧ Hid (CQ f F T i t) ∧ Hid (DSt Q f p F T op S vE E wr) ∧ Hid (wr.rowIs bv 3 f.n (fun j => .int .i64 (f.vals F T j))) ∧ Hid (Below w.heap.size w wr)) (fun _ ti _ => f.n - (intOf ti).toNat)
  case atStart => exact ⟨0, -1, by omega, rfl, rfl, CQ.start f F T, HS1, HV, HB1⟩
  case round =>
    clear HS1 HV HB1
    obtain ⟨i, t, i1, rfl, rfl, hq, hs, hv, hb⟩ := hrel
    have r0 := hs.out.row.cell (i := 0) (by omega)
    simp [wf] at r0
    by_cases hit : i < f.n
    · have lt' : (i : Int) < (f.n : Int) := by omega
      obtain ⟨b1, _, _⟩ := hs.out.base.now
      obtain ⟨g0, g1, g2, g3, g4⟩ := cellf_cel b1 hit
      rw [Nat.zero_add] at g0 g1 g2 g3 g4
      have zc := b1.lt
      have zW := hs.out.row.lt
      clear b1
      go_upto_region 7 with (fail)
      have WB0 : Below wr.heap.size wr (wr.alloc (.cells #[.int .i64 (f.C i).kind, .int .i64 (f.C i).a, .int .i64 (f.C i).b, .int .i64 (f.C i).c, .int .i64 (f.C i).k] 77)) := (Below.refl _ _).alloc (Nat.le_refl _) _
      have x0 := boxed (Below.refl (wr.heap.size + 1) (wr.alloc (.cells #[.int .i64 (f.C i).kind, .int .i64 (f.C i).a, .int .i64 (f.C i).b, .int .i64 (f.C i).c, .int .i64 (f.C i).k] 77))) 0
      have x1 := boxed (Below.refl (wr.heap.size + 1) (wr.alloc (.cells #[.int .i64 (f.C i).kind, .int .i64 (f.C i).a, .int .i64 (f.C i).b, .int .i64 (f.C i).c, .int .i64 (f.C i).k] 77))) 1
      have x4 := boxed (Below.refl (wr.heap.size + 1) (wr.alloc (.cells #[.int .i64 (f.C i).kind, .int .i64 (f.C i).a, .int .i64 (f.C i).b, .int .i64 (f.C i).c, .int .i64 (f.C i).k] 77))) 4
      generalize (wr.alloc (.cells #[.int .i64 (f.C i).kind, .int .i64 (f.C i).a, .int .i64 (f.C i).b, .int .i64 (f.C i).c, .int .i64 (f.C i).k] 77)) = Wb at *
      simp at x0 x1 x4
      have hs2 := hid (hs.out.drop WB0)
      have hv2 := hid (hv.out.of_block (WB0.block _ hv.out.lt))
      have hb3 : Hid (Below w.heap.size w Wb) := hb.out.trans (WB0.mono hb.out.size)
      clear WB0 hs hv hb g0 g1 g2 g3 g4 r0
      have r5 := hs2.out.row.cell (i := 5) (by omega)
      simp [wf] at r5
      obtain ⟨c1, c2, ⟨_, c4, _⟩, c6, _, _⟩ := HC.out i hit
      by_cases k10 : (f.C i).kind = 10
      · obtain ⟨a1, a2⟩ := c6 (by rw [k10]; decide)
        obtain ⟨ax, hax⟩ := Int.eq_ofNat_of_zero_le a1
        have han : ax < f.n := by omega
        have A0 := hid (hq.out.past t0 k10 hax han)
        rw [k10] at x0
        rw [hax] at x1
        have vx := hv2.out.cell (i := ax) han
        have zv := hv2.out.lt
        have zw2 := hs2.out.row.lt
        clear k10 hax a1 a2 c6 c4
        go_wp2
        go_region_held3 (fun w' => w'.cell? ⟨wr.heap.size, 1, none⟩ = some (.int .i64 ax) ∧ w'.cell? ⟨bv, ax, none⟩ = some (.int .i64 (f.vals F T ax)) ∧ w'.cell? ⟨p.bw, 5, none⟩ = some (.int .i64 T))
          (go_keep)
          ((go_at_call 88; refine (sooner_any _ _ _ _).mono ?_; rintro e w2 ⟨rfl, rfl⟩))
        all_goals (
          go_wp2
          go_roundw
          case rel => exact ⟨i + 1, _, by omega, by go_num, rfl, A0, hs2.out.drew, hv2.out.of_block rfl, hb3.out.drew⟩
          case measure => simp [intOf]; omega)
      · by_cases k11 : (f.C i).kind = 11
        · obtain ⟨a1, a2⟩ := c6 (by rw [k11]; decide)
          obtain ⟨ax, hax⟩ := Int.eq_ofNat_of_zero_le a1
          have han : ax < f.n := by omega
          obtain ⟨kk1, kk2⟩ := c4 k11
          have A0 := hid (hq.out.age t0 VL.out hit k11 hax han (by omega))
          obtain ⟨m1, m2, m3, m4⟩ := age_room t0 t1 VL.out VV.out hit k11 hax han kk1 kk2
          have vb := VV.out ax han
          have WR : Hid (IntKind.i64.wrap (f.vals F T ax + IntKind.i64.wrap (IntKind.i64.wrap (f.vals F T i + 1) * (f.C i).k)) = f.vals F T ax + (f.vals F T i + 1) * (f.C i).k) := by
            show _ = _
            rw [show IntKind.i64.wrap (f.vals F T i + 1) = f.vals F T i + 1 from i64_in _ (by omega), show IntKind.i64.wrap ((f.vals F T i + 1) * (f.C i).k) = (f.vals F T i + 1) * (f.C i).k from i64_in _ (by omega)]
            exact i64_in _ (by omega)
          rw [k11] at x0
          rw [hax] at x1
          have vx := hv2.out.cell (i := ax) han
          have vy := hv2.out.cell (i := i) hit
          have zv := hv2.out.lt
          have zw2 := hs2.out.row.lt
          clear k11 k10 hax a1 a2 c6 c4
          go_wp2
          go_region_held3 (fun w' => w'.cell? ⟨wr.heap.size, 1, none⟩ = some (.int .i64 ax) ∧ w'.cell? ⟨wr.heap.size, 4, none⟩ = some (.int .i64 (f.C i).k) ∧ w'.cell? ⟨bv, ax, none⟩ = some (.int .i64 (f.vals F T ax)) ∧ w'.cell? ⟨bv, i, none⟩ = some (.int .i64 (f.vals F T i)) ∧ w'.cell? ⟨p.bw, 5, none⟩ = some (.int .i64 T))
            (go_keep)
            ((go_at_call 88; refine (sooner_any _ _ _ _).mono ?_; rintro e w2 ⟨rfl, rfl⟩))
          all_goals (
            go_wp2
            go_roundw
            case rel => exact ⟨i + 1, soon t (f.vals F T ax + (f.vals F T i + 1) * (f.C i).k) T, by omega, by go_num, by rw [WR.out], A0, hs2.out.drew, hv2.out.of_block rfl, hb3.out.drew⟩
            case measure => simp [intOf]; omega)
        · have A0 := hid (hq.out.other k10 k11)
          have d10 : ((f.C i).kind == 10) = false := beq_eq_false_iff_ne.2 k10
          have d11 : ((f.C i).kind == 11) = false := beq_eq_false_iff_ne.2 k11
          clear c6 c4
          go_wp2
          go_roundw
          case rel => exact ⟨i + 1, t, by omega, by go_num, rfl, A0, hs2, hv2, hb3⟩
          case measure => simp [intOf]; omega
    · obtain rfl : i = f.n := by omega
      have HQ := hid (RQ.start S hq.out)
      clear hq
      go_wp2
      go_loopw [4, 7] (fun tt ti wr => ∃ (i : Nat) (t : Int), i ≤ f.k ∧ ti = .int .i64 i ∧ tt = .int .i64 t ∧ Hid (RQ f F T S i t) ∧ Hid (DSt Q f p F T op S vE E wr) ∧ Hid (Below w.heap.size w wr)) (fun _ ti _ => f.k - (intOf ti).toNat)
      case atStart => exact ⟨0, t, by omega, rfl, rfl, HQ, hs, hb⟩
      case round =>
        clear HQ hs hb hv r0
        rename_i wr0 _ _ wr _
        obtain ⟨i, t, i1, rfl, rfl, hq, hs, hb⟩ := hrel
        have r7 := hs.out.row.cell (i := 7) (by omega)
        have r1 := hs.out.row.cell (i := 1) (by omega)
        have r5 := hs.out.row.cell (i := 5) (by omega)
        simp [wf] at r7 r1 r5
        by_cases hit : i < f.k
        · obtain ⟨bR, oR, haO, hbR, hrr⟩ : ∃ b off, p.aO = some ⟨b, off, none⟩ ∧ b < wr.heap.size ∧ ∀ m, m < f.k → RuleIs wr b (off + m * 2) (f.R m) := by
            rcases hs.out.base.now.2.1 with h | h
            · omega
            · exact h
          rw [haO] at r1
          obtain ⟨u0, ast, caps, u1, u2, u3⟩ := hrr i hit
          have HU2 := hid u2
          have s0 := hs.out.sta.cell (i := i * 4) (by omega)
          have s1 := hs.out.sta.cell (i := i * 4 + 1) (by omega)
          have s2 := hs.out.sta.cell (i := i * 4 + 2) (by omega)
          have s3 := hs.out.sta.cell (i := i * 4 + 3) (by omega)
          rw [stf0] at s0
          rw [stf1] at s1
          rw [stf2] at s2
          rw [stf3] at s3
          have zS := hs.out.sta.lt
          have zW := hs.out.row.lt
          have lt' : (i : Int) < (f.k : Int) := by omega
          clear u2 hrr haO
          go_upto_region 17 with (fail)
          have WB0 : Below wr.heap.size wr (wr.alloc (.cells #[.bool (S i).lit, .int .i64 (S i).since, .int .i64 (S i).level, .bool (S i).acked] 94)) := (Below.refl _ _).alloc (Nat.le_refl _) _
          have x0 := boxed (Below.refl (wr.heap.size + 1) (wr.alloc (.cells #[.bool (S i).lit, .int .i64 (S i).since, .int .i64 (S i).level, .bool (S i).acked] 94))) 0
          have x1 := boxed (Below.refl (wr.heap.size + 1) (wr.alloc (.cells #[.bool (S i).lit, .int .i64 (S i).since, .int .i64 (S i).level, .bool (S i).acked] 94))) 1
          have x2 := boxed (Below.refl (wr.heap.size + 1) (wr.alloc (.cells #[.bool (S i).lit, .int .i64 (S i).since, .int .i64 (S i).level, .bool (S i).acked] 94))) 2
          have x3 := boxed (Below.refl (wr.heap.size + 1) (wr.alloc (.cells #[.bool (S i).lit, .int .i64 (S i).since, .int .i64 (S i).level, .bool (S i).acked] 94))) 3
          generalize (wr.alloc (.cells #[.bool (S i).lit, .int .i64 (S i).since, .int .i64 (S i).level, .bool (S i).acked] 94)) = Wb at *
          simp at x0 x1 x2 x3
          have hs2 := hid (hs.out.drop WB0)
          have hb3 : Hid (Below w.heap.size w Wb) := hb.out.trans (WB0.mono hb.out.size)
          have HU3 := hid (SlAt.below HU2.out WB0 (Nat.le_refl _))
          clear WB0 hs hb s0 s1 s2 s3 u0 u1 r7 r1 r5 HU2
          have r5 := hs2.out.row.cell (i := 5) (by omega)
          simp [wf] at r5
          obtain ⟨k0, k1, k2, k3⟩ := HST.out i hit
          obtain ⟨_, _, _, g3⟩ := HR.out i hit
          have G3 := hid g3
          clear g3
          cases hl : (S i).lit
          · rw [hl] at x0
            have A0 := hid (hq.out.idle (fun hc => by have := hc.1; rw [hl] at this; cases this))
            clear hl
            go_wp2
            go_roundw
            case rel => exact ⟨i + 1, t, by omega, by go_num, rfl, A0, hs2, hb3⟩
            case measure => simp [intOf]; omega
          · rw [hl] at x0
            cases hac : (S i).acked
            · rw [hac] at x3
              by_cases lv : (S i).level < (f.R i).steps.length
              · obtain ⟨ly, hly⟩ := Int.eq_ofNat_of_zero_le k2
                have lyn : ly < (f.R i).steps.length := by omega
                have A0 := hid (hq.out.level t0)
                rw [hly] at A0
                have hst2 := G3.out ly lyn
                unfold BadAt at hst2
                rcases IntsAt.cases HU3.out with h0 | ⟨bs, os, rfl, hbs, hcell⟩
                · omega
                have sx := hcell ly lyn
                have d1 : decide ((S i).level < ((f.R i).steps.length : Int)) = true := by simp [lv]
                rw [hly] at x2 d1 lv
                clear hly hcell hac hl
                have sb1 : 1 ≤ (f.R i).steps.getD ly 0 := by omega
                have sb2 : (f.R i).steps.getD ly 0 ≤ 1000000000 := by omega
                have zw2 := hs2.out.row.lt
                clear hst2
                rw [show ((ly : Int)).toNat = ly from rfl] at A0
                generalize (f.R i).steps.getD ly 0 = sy at *
                have WR : Hid (IntKind.i64.wrap ((S i).since + sy) = (S i).since + sy) := i64_in _ (by omega)
                go_wp2
                go_region_held3 (fun w' => w'.cell? ⟨wr.heap.size, 1, none⟩ = some (.int .i64 (S i).since) ∧ w'.cell? ⟨wr.heap.size, 2, none⟩ = some (.int .i64 ly) ∧ w'.cell? ⟨p.bw, 5, none⟩ = some (.int .i64 T) ∧ w'.cell? ⟨bs, os + ly, none⟩ = some (.int .i64 sy))
                  (go_keep)
                  ((go_at_call 88; refine (sooner_any _ _ _ _).mono ?_; rintro e w2 ⟨rfl, rfl⟩))
                all_goals (
                  go_wp2
                  go_roundw
                  case rel => exact ⟨i + 1, soon t ((S i).since + sy) T, by omega, by go_num, by rw [WR.out], A0, hs2.out.drew, hb3.out.drew⟩
                  case measure => simp [intOf]; omega)
              · have A0 := hid (hq.out.idle (fun hc => lv hc.2.2))
                have d1 : decide ((S i).level < ((f.R i).steps.length : Int)) = false := by simp; omega
                clear hl hac
                go_wp2
                go_roundw
                case rel => exact ⟨i + 1, t, by omega, by go_num, rfl, A0, hs2, hb3⟩
                case measure => simp [intOf]; omega
            · rw [hac] at x3
              have A0 := hid (hq.out.idle (fun hc => by have := hc.2.1; rw [hac] at this; cases this))
              clear hl hac
              go_wp2
              go_roundw
              case rel => exact ⟨i + 1, t, by omega, by go_num, rfl, A0, hs2, hb3⟩
              case measure => simp [intOf]; omega
        · obtain rfl : i = f.k := by omega
          have R : Hid (CnP f F T S w (.returned (.int .i64 t)) wr) := ⟨t, rfl, hq.out, hb.out⟩
          go_wp2
          go_ret
          exact R.out

end Go.Proofs.YtcondcffllaaoaaGreatDoor
