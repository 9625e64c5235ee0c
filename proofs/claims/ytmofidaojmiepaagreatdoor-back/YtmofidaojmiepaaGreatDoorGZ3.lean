/-
  THE WALKS: the code's writer of texts: Write, Print.
-/
import Derived.Test.YtmofidaojmiepaaGreatDoorGX8
import Derived.Test.YtmofidaojmiepaaGreatDoorGZ1
import Derived.Test.YtmofidaojmiepaaGreatDoorGW18
import Derived.Test.YtmofidaojmiepaaGreatDoorGY12
set_option linter.unusedVariables false
set_option linter.unusedSimpArgs false
namespace Go.Proofs.YtmofidaojmiepaaGreatDoor

open Go.RowKit

open Go.Lib (itoa decDigits nDigits)

attribute [local go_sem ↓] Go.wp_at_zero Go.wp_at_succ

/-- A form's numbers can be written. -/
structure Frm.W64 (f : Frm) : Prop where
  week : I64 f.week
  hol : ∀ j, j < f.hol.length → I64 (f.hol.getD j 0)
  kind : ∀ i, i < f.n → I64 (f.C i).kind
  cel : ∀ i, i < f.n → ∀ x ∈ nmL (f.C i), I64 x
  grd : ∀ i, i < f.k → I64 (f.R i).guard
  stp : ∀ i, i < f.k → ∀ j, j < (f.R i).steps.length → I64 ((f.R i).steps.getD j 0)
  n : f.n ≤ 20
  k : f.k ≤ 6
  nh : f.hol.length ≤ 20
  ns : ∀ i, i < f.k → (f.R i).steps.length ≤ 4

theorem named_num {c : Cel} {n : Nat} (h : CellOk c n) (hn : n ≤ 20) : ∀ x ∈ nmL c, N10 x := by
  obtain ⟨k0, k1, hk, ha, hb, hc⟩ := h
  have e0 : need0 c.kind = M.needs c.kind := by unfold need0; rw [if_pos (by omega)]
  intro x hx
  unfold nmL at hx
  rcases List.mem_append.1 hx with hx | hx
  · unfold ndL at hx
    obtain ⟨i, hi, rfl⟩ := List.mem_map.1 hx
    have hi := List.mem_range.1 hi
    rw [e0] at hi
    unfold needp N10
    by_cases i0 : i = 0
    · rw [if_pos i0]; have := ha (by omega); omega
    · rw [if_neg i0]
      by_cases i1 : i = 1
      · rw [if_pos i1]; have := hb (by omega); omega
      · rw [if_neg i1]
        have b3 := (need0_bd c.kind).2
        have := hc (by omega)
        omega
  · by_cases hh : hasKB c.kind = true
    · rw [if_pos hh] at hx
      rw [List.mem_singleton.1 hx]
      unfold hasKB at hh
      have hh := of_decide_eq_true hh
      unfold KOk IsV at hk
      unfold N10
      omega
    · rw [if_neg hh] at hx
      simp at hx

theorem n10_i64 {x : Int} (h : N10 x) : I64 x := by unfold N10 at h; unfold I64; omega

/-- A form without an error: its numbers. -/
theorem Frm.Ok.doc {f : Frm} (h : f.Ok) : f.doc.Ok := by
  have h' : FormOk f.C f.n f.R f.k f.week f.hol := h
  obtain ⟨s1, s2, s3, s4, s5⟩ := h'.sizes
  obtain ⟨q1, q2, q3⟩ := h'.hol
  refine ⟨⟨by simp [Frm.doc], ?_⟩, ?_, ?_⟩
  · intro x hx
    rcases List.mem_cons.1 hx with rfl | hx
    · unfold N10; omega
    · have := q2 x hx; unfold N10; omega
  · intro l hl
    obtain ⟨i, hi, rfl⟩ := List.mem_map.1 hl
    have hc := h'.cells i (List.mem_range.1 hi)
    refine ⟨(f.C i).kind, nmL (f.C i), rfl, hc.1, hc.2.1, ?_, named_num hc s2⟩
    obtain ⟨kd, hkd⟩ := Int.eq_ofNat_of_zero_le hc.1
    have h12 : kd ≤ 12 := by have := hc.2.1; omega
    unfold nmL wantK
    rw [List.length_append, ndL_len, hkd, need_want h12]
    have := need0_bd (kd : Int)
    rw [need_want h12] at this
    split
    · simp; omega
    · simp; omega
  · intro l hl
    obtain ⟨i, hi, rfl⟩ := List.mem_map.1 hl
    have hr := h'.rules i (List.mem_range.1 hi)
    refine ⟨by unfold rulL; simp, fun x hx => ?_⟩
    rcases List.mem_cons.1 hx with rfl | hx
    · have := hr.1; have := hr.2.1; unfold N10; omega
    · have := (rise_of hr.2.2.2).1 x hx; unfold N10; omega

theorem Frm.Ok.w64 {f : Frm} (h : f.Ok) : f.W64 := by
  have h' : FormOk f.C f.n f.R f.k f.week f.hol := h
  have d := h.doc
  obtain ⟨s1, s2, s3, s4, s5⟩ := h'.sizes
  have gm : ∀ (l : List Int) (j : Nat), j < l.length → l.getD j 0 ∈ l := fun l j hj => by
    rw [show l.getD j 0 = l[j] by simp [List.getD, hj]]; exact List.getElem_mem _
  refine ⟨n10_i64 (d.w.2 _ (by simp [Frm.doc])), fun j hj => n10_i64 (d.w.2 _ (List.mem_cons_of_mem _ (gm _ _ hj))), fun i hi => ?_, fun i hi x hx => n10_i64 (named_num (h'.cells i hi) s2 x hx), fun i hi => ?_, fun i hi j hj => ?_, s2, s3, h'.hol.1, fun i hi => (h'.rules i hi).2.2.1⟩
  · have hc := h'.cells i hi
    have := hc.1
    have := hc.2.1
    unfold I64; omega
  · have hr := h'.rules i hi
    have := hr.1
    have := hr.2.1
    unfold I64; omega
  · have hr := h'.rules i hi
    have := (rise_of hr.2.2.2).1 _ (gm _ _ hj)
    unfold I64; omega

/-- What is written when i cells are. -/
def cT (f : Frm) (i : Nat) : List UInt8 := lineT 119 (f.week :: f.hol) ++ csT ((List.range i).map (fun i => celL (f.C i)))

def rT (f : Frm) (i : Nat) : List UInt8 := cT f f.n ++ rsT ((List.range i).map (fun i => rulL (f.R i)))

theorem cT_zero (f : Frm) : cT f 0 = lineT 119 (f.week :: f.hol) := by unfold cT csT; simp

theorem cT_more (f : Frm) (i : Nat) : cT f (i + 1) = cT f i ++ lineT 99 (celL (f.C i)) := by unfold cT; rw [List.range_succ, List.map_append, List.map_cons, List.map_nil, csT_snoc]; simp

theorem rT_zero (f : Frm) : rT f 0 = cT f f.n := by unfold rT rsT; simp

theorem rT_more (f : Frm) (i : Nat) : rT f (i + 1) = rT f i ++ lineT 114 (rulL (f.R i)) := by unfold rT; rw [List.range_succ, List.map_append, List.map_cons, List.map_nil, rsT_snoc]; simp

theorem rT_doc (f : Frm) : rT f f.k = f.doc.text := by unfold rT cT Doc.text; rw [List.append_assoc]; rfl

theorem mem_of_getD {l : List Int} {p : Int → Prop} (h : ∀ j, j < l.length → p (l.getD j 0)) : ∀ x ∈ l, p x := fun x hm => by
  obtain ⟨i, hi, rfl⟩ := List.mem_iff_getElem.1 hm
  have := h i hi
  rwa [show l.getD i 0 = l[i] by simp [List.getD, hi]] at this

theorem getD_of_mem {l : List Int} {p : Int → Prop} (h : ∀ x ∈ l, p x) : ∀ j, j < l.length → p (l.getD j 0) := fun j hj => by
  rw [show l.getD j 0 = l[j] by simp [List.getD, hj]]; exact h _ (List.getElem_mem _)

theorem nmL_len (c : Cel) : (nmL c).length ≤ 4 := by
  unfold nmL
  rw [List.length_append, ndL_len]
  have := (need0_bd c.kind).2
  split
  · simp; omega
  · simp; omega

theorem cT_len {f : Frm} (h : f.W64) : ∀ {i : Nat}, i ≤ f.n → (cT f i).length ≤ 500 + 150 * i := by
  intro i
  induction i with
  | zero =>
    intro _
    rw [cT_zero]
    have := line_len (c := 119) (l := f.week :: f.hol) (fun x hx => by
      rcases List.mem_cons.1 hx with rfl | hx
      · exact h.week
      · exact mem_of_getD h.hol x hx)
    have := h.nh
    rw [List.length_cons] at *
    omega
  | succ i ih =>
    intro hi
    rw [cT_more, List.length_append]
    have := line_len (c := 99) (l := celL (f.C i)) (fun x hx => by
      rcases List.mem_cons.1 hx with rfl | hx
      · exact h.kind i (by omega)
      · exact h.cel i (by omega) x hx)
    have := nmL_len (f.C i)
    have e : (celL (f.C i)).length = (nmL (f.C i)).length + 1 := by simp [celL]
    have := ih (by omega)
    omega

theorem rT_len {f : Frm} (h : f.W64) : ∀ {i : Nat}, i ≤ f.k → (rT f i).length ≤ 4000 + 150 * i := by
  intro i
  induction i with
  | zero =>
    intro _
    rw [rT_zero]
    have := cT_len h (Nat.le_refl _)
    have := h.n
    omega
  | succ i ih =>
    intro hi
    rw [rT_more, List.length_append]
    have := line_len (c := 114) (l := rulL (f.R i)) (fun x hx => by
      rcases List.mem_cons.1 hx with rfl | hx
      · exact h.grd i (by omega)
      · exact mem_of_getD (h.stp i (by omega)) x hx)
    have := h.ns i (by omega)
    have e : (rulL (f.R i)).length = (f.R i).steps.length + 1 := by simp [rulL]
    have := ih (by omega)
    omega

set_option maxRecDepth 100000 in
set_option maxHeartbeats 4000000 in
theorem write_any (f : Frm) (hw : f.W64) (aC : Option Addr) (cC : Nat) (aR : Option Addr) (cR : Nat) (aH : Option Addr) (cH : Nat) (w : World) (ht : Tab w) (hp : Pow w) (h1 : CAt w aC f.n f.C) (h2 : RAt w aR f.k f.R) (h3 : IntsAt w (.slice aH f.hol.length cH) f.hol) :
    Calls Tryz.prog 21 #[.agg #[.slice aC f.n cC, .slice aR f.k cR, .int .i64 f.week, .slice aH f.hol.length cH]] w fun e w' => StP f.doc.text w e w' := by
  have B0 : Below w.heap.size w (w.alloc (.cells #[.slice aC f.n cC, .slice aR f.k cR, .int .i64 f.week, .slice aH f.hol.length cH] 26)) := (Below.refl _ _).alloc (Nat.le_refl _) _
  have HT := hid (ht.below B0 (Nat.le_refl _))
  have HP := hid (hp.below B0 (Nat.le_refl _))
  have H1 := hid (h1.below B0)
  have H2 := hid (h2.below B0)
  have nh := hw.nh
  have n20 := hw.n
  have k6 := hw.k
  have LW := hid (wline_any 119 f.week f.hol aH cH _ HP.out hw.week hw.hol (by omega) (SlAt.below h3 B0 (Nat.le_refl _)))
  have HW := hid hw
  have BX : Hid (∀ W, Below (w.heap.size + 1) (w.alloc (.cells #[.slice aC f.n cC, .slice aR f.k cR, .int .i64 f.week, .slice aH f.hol.length cH] 26)) W → W.cell? ⟨w.heap.size, 0, none⟩ = some (.slice aC f.n cC) ∧ W.cell? ⟨w.heap.size, 1, none⟩ = some (.slice aR f.k cR) ∧ Below w.heap.size w W) := fun W hW =>
    ⟨by have := boxed hW 0; simpa using this, by have := boxed hW 1; simpa using this, B0.trans (hW.mono (by omega))⟩
  have HZ : Hid ((w.alloc (.cells #[.slice aC f.n cC, .slice aR f.k cR, .int .i64 f.week, .slice aH f.hol.length cH] 26)).heap.size = w.heap.size + 1) := by show _ = _; simp
  clear ht hp h1 h2 h3 B0 hw
  go_enter Tryz.func21, Tryz.ntmps21
  go_wp2_with fail
  refine LW.out.mono ?_
  clear LW
  generalize (w.alloc (.cells #[.slice aC f.n cC, .slice aR f.k cR, .int .i64 f.week, .slice aH f.hol.length cH] 26)) = wA at *
  rintro e w1 ⟨rfl, b1⟩
  have B1 : Hid (Below (w.heap.size + 1) wA w1) := b1.mono (by rw [HZ.out]; exact Nat.le_refl _)
  have S0 : Hid (bs (lineT 119 (f.week :: f.hol)) = bs (cT f 0)) := by show _ = _; rw [cT_zero]
  have c0 := (BX.out _ B1.out).1
  clear b1
  go_wp2_with fail
  go_loopw [3, 17] (fun ts ti wr => ∃ (t : ByteArray) (i : Nat), ts = .string t ∧ ti = .int .i64 i ∧ i ≤ f.n ∧ Hid (t = bs (cT f i)) ∧ Hid (Below (w.heap.size + 1) wA wr)) (fun _ ti _ => f.n - (intOf ti).toNat)
  case atStart => exact ⟨_, 0, rfl, by go_num, by omega, S0, B1⟩
  case round =>
    clear S0 B1 c0
    obtain ⟨t, i, rfl, rfl, hi, hs, hb⟩ := hrel
    have BA : Hid (Below wA.heap.size wA wr) := hb.out.mono (by rw [HZ.out]; exact Nat.le_refl _)
    by_cases hil : i < f.n
    · obtain ⟨b, o, ha, hbl, hc⟩ : ∃ b o, aC = some ⟨b, o, none⟩ ∧ b < wr.heap.size ∧ CelIs wr b (o + i * 5) (f.C i) := by
        rcases H1.out.below BA.out with h0 | ⟨b, o, e, hbl, hc⟩
        · omega
        · exact ⟨b, o, e, hbl, hc i hil⟩
      subst ha
      have KI := hid (HW.out.kind i hil)
      have CI := hid (HW.out.cel i hil)
      have SM := hid (cT_more f i)
      have s4 : t.size ≤ 10000 := by
        rw [hs.out, bs_size]
        have := cT_len HW.out hi
        omega
      obtain ⟨ci, hci⟩ : ∃ c, f.C i = c := ⟨_, rfl⟩
      rw [hci] at hc KI CI SM
      clear hci
      obtain ⟨u0, u1, u2, u3, u4⟩ := hc
      have BC : Hid (Below wr.heap.size wr (wr.alloc (.cells #[.int .i64 ci.kind, .int .i64 ci.a, .int .i64 ci.b, .int .i64 ci.c, .int .i64 ci.k] 47))) := (Below.refl _ _).alloc (Nat.le_refl _) _
      have NM := hid (wnamed_any ci.kind ci.a ci.b ci.c ci.k (wr.alloc (.cells #[.int .i64 ci.kind, .int .i64 ci.a, .int .i64 ci.b, .int .i64 ci.c, .int .i64 ci.k] 47)) ((HT.out.below BA.out (Nat.le_refl _)).below BC.out (Nat.le_refl _)))
      go_wp2_with fail
      refine NM.out.mono ?_
      rintro e w2 ⟨v, rfl, own, b2⟩
      obtain ⟨av, cv, rfl, hv⟩ := own_ints own
      have k0 : w2.cell? ⟨wr.heap.size, 0, none⟩ = some (.int .i64 ci.kind) := by rw [b2.cell (p := ⟨wr.heap.size, 0, none⟩) (by show wr.heap.size < _; simp)]; simp
      have zk : wr.heap.size < w2.heap.size := by have := b2.size; simp at this; omega
      have B2 : Hid (Below wr.heap.size wr w2) := BC.out.trans (b2.mono (by simp))
      have s5 : (bs (lineT 99 (ci.kind :: nmL ci))).size ≤ 1000 := by
        rw [bs_size]
        have := line_len (c := 99) (l := ci.kind :: nmL ci) (fun x hx => by
          rcases List.mem_cons.1 hx with rfl | hx
          · exact KI.out
          · exact CI.out x hx)
        have := nmL_len ci
        rw [List.length_cons] at *
        omega
      have LN := hid (wline_any 99 ci.kind (nmL ci) av cv w2 ((HP.out.below BA.out (Nat.le_refl _)).below B2.out (Nat.le_refl _)) KI.out (getD_of_mem CI.out) (by have := nmL_len ci; omega) hv)
      clear own hv b2 NM BC u0 u1 u2 u3 u4
      go_wp2_with fail
      refine LN.out.mono ?_
      rintro e w3 ⟨rfl, b3⟩
      have B3 : Hid (Below (w.heap.size + 1) wA w3) := hb.out.trans ((B2.out.trans (b3.mono (by omega))).mono (by have := hb.out.size; have := HZ.out; omega))
      have S1 : Hid (t ++ bs (lineT 99 (ci.kind :: nmL ci)) = bs (cT f (i + 1))) := by
        show _ = _
        rw [hs.out, bs_append, SM.out]
        rfl
      clear b3 LN B2 k0 hs hb BA SM
      go_wp2
      go_roundw
      case rel => exact ⟨_, i + 1, rfl, by go_num, by omega, S1, B3⟩
      case measure => simp [intOf]; omega
    · obtain rfl : i = f.n := by omega
      have c1 := (BX.out _ hb.out).2.1
      have S0 : Hid (t = bs (rT f 0)) := by show _ = _; rw [rT_zero]; exact hs.out
      have zf : w.heap.size < wr.heap.size := by have := hb.out.size; have := HZ.out; omega
      clear BA hs
      generalize wr = wo at *
      go_wp2_with fail
      go_loopw [3, 33] (fun ts ti wr => ∃ (t : ByteArray) (i : Nat), ts = .string t ∧ ti = .int .i64 i ∧ i ≤ f.k ∧ Hid (t = bs (rT f i)) ∧ Hid (Below (w.heap.size + 1) wA wr)) (fun _ ti _ => f.k - (intOf ti).toNat)
      case atStart => exact ⟨_, 0, rfl, by go_num, by omega, S0, hb⟩
      case round =>
        clear S0 hb c1 zf hil hi
        obtain ⟨t, i, rfl, rfl, hi, hs, hb⟩ := hrel
        have BA : Hid (Below wA.heap.size wA wr) := hb.out.mono (by rw [HZ.out]; exact Nat.le_refl _)
        by_cases hil : i < f.k
        · obtain ⟨b, o, ha, hbl, hc⟩ : ∃ b o, aR = some ⟨b, o, none⟩ ∧ b < wr.heap.size ∧ RuleIs wr b (o + i * 2) (f.R i) := by
            rcases H2.out.below BA.out with h0 | ⟨b, o, e, hbl, hc⟩
            · omega
            · exact ⟨b, o, e, hbl, hc i hil⟩
          subst ha
          have KI := hid (HW.out.grd i hil)
          have CI := hid (HW.out.stp i hil)
          have NI := hid (HW.out.ns i hil)
          have SM := hid (rT_more f i)
          have s4 : t.size ≤ 10000 := by
            rw [hs.out, bs_size]
            have := rT_len HW.out hi
            omega
          obtain ⟨ci, hci⟩ : ∃ c, f.R i = c := ⟨_, rfl⟩
          rw [hci] at hc KI CI SM NI
          clear hci
          obtain ⟨u0, av, cv, u1, hv, _⟩ := hc
          have BC : Hid (Below wr.heap.size wr (wr.alloc (.cells #[.int .i64 ci.guard, .slice av ci.steps.length cv] 51))) := (Below.refl _ _).alloc (Nat.le_refl _) _
          have s5 : (bs (lineT 114 (ci.guard :: ci.steps))).size ≤ 1000 := by
            rw [bs_size]
            have := line_len (c := 114) (l := ci.guard :: ci.steps) (fun x hx => by
              rcases List.mem_cons.1 hx with rfl | hx
              · exact KI.out
              · exact mem_of_getD CI.out x hx)
            have := NI.out
            rw [List.length_cons] at *
            omega
          have LN := hid (wline_any 114 ci.guard ci.steps av cv (wr.alloc (.cells #[.int .i64 ci.guard, .slice av ci.steps.length cv] 51)) ((HP.out.below BA.out (Nat.le_refl _)).below BC.out (Nat.le_refl _)) KI.out CI.out (by have := NI.out; omega) (SlAt.below hv BC.out (Nat.le_refl _)))
          clear hv
          go_wp2_with fail
          refine LN.out.mono ?_
          rintro e w3 ⟨rfl, b3⟩
          have B3 : Hid (Below (w.heap.size + 1) wA w3) := hb.out.trans ((BC.out.trans (b3.mono (by simp))).mono (by have := hb.out.size; have := HZ.out; omega))
          have S1 : Hid (t ++ bs (lineT 114 (ci.guard :: ci.steps)) = bs (rT f (i + 1))) := by
            show _ = _
            rw [hs.out, bs_append, SM.out]
            rfl
          clear b3 LN hs hb BA SM BC u0 u1
          go_wp2
          go_roundw
          case rel => exact ⟨_, i + 1, rfl, by go_num, by omega, S1, B3⟩
          case measure => simp [intOf]; omega
        · obtain rfl : i = f.k := by omega
          have R : Hid (StP f.doc.text w (.returned (.string t)) wr) := ⟨by rw [hs.out, rT_doc], (BX.out _ hb.out).2.2⟩
          clear BA hs hb
          go_wp2
          go_ret
          exact R.out

end Go.Proofs.YtmofidaojmiepaaGreatDoor

/-
  THE WALKS: the code's Print.
-/
set_option linter.unusedVariables false
set_option linter.unusedSimpArgs false
namespace Go.Proofs.YtmofidaojmiepaaGreatDoor

open Go.RowKit

open Go.Lib (itoa decDigits nDigits)

attribute [local go_sem ↓] Go.wp_at_zero Go.wp_at_succ

/-- What Print answers. -/
def PrP (f : Frm) (w : World) (e : Ending) (w' : World) : Prop :=
  ∃ (a n : Int) (t : List UInt8), e = .returned (.tuple #[.string (bs t), .int .i64 a]) ∧ f.Rel a n ∧ (a = 0 → t = f.doc.text) ∧ (a ≠ 0 → t = []) ∧ Below w.heap.size w w'

set_option maxRecDepth 100000 in
set_option maxHeartbeats 2000000 in
theorem print_any (f : Frm) (aC : Option Addr) (cC : Nat) (aR : Option Addr) (cR : Nat) (aH : Option Addr) (cH : Nat) (w : World) (ht : Tab w) (hp : Pow w) (hn : f.n ≤ 1000000000) (hk : f.k ≤ 1000000000) (hh : f.hol.length ≤ 1000000000) (h1 : CAt w aC f.n f.C) (h2 : RAt w aR f.k f.R) (h3 : IntsAt w (.slice aH f.hol.length cH) f.hol) :
    Calls Tryz.prog 6 #[.agg #[.slice aC f.n cC, .slice aR f.k cR, .int .i64 f.week, .slice aH f.hol.length cH]] w fun e w' => PrP f w e w' := by
  have B0 : Below w.heap.size w (w.alloc (.cells #[.slice aC f.n cC, .slice aR f.k cR, .int .i64 f.week, .slice aH f.hol.length cH] 26)) := (Below.refl _ _).alloc (Nat.le_refl _) _
  have FO := hid (form_any f.C f.R f.hol aC aR aH f.n cC f.k cR cH f.week _ (ht.below B0 (Nat.le_refl _)) hn hk hh (h1.below B0) (h2.below B0) (SlAt.below h3 B0 (Nat.le_refl _)))
  have WR : Hid (f.Ok → ∀ W, Below (w.heap.size + 1) (w.alloc (.cells #[.slice aC f.n cC, .slice aR f.k cR, .int .i64 f.week, .slice aH f.hol.length cH] 26)) W → Calls Tryz.prog 21 #[.agg #[.slice aC f.n cC, .slice aR f.k cR, .int .i64 f.week, .slice aH f.hol.length cH]] W fun e w' => StP f.doc.text W e w') := fun ok W hW => by
    have bw : Below w.heap.size w W := B0.trans (hW.mono (by omega))
    exact write_any f ok.w64 aC cC aR cR aH cH W (ht.below bw (Nat.le_refl _)) (hp.below bw (Nat.le_refl _)) (h1.below bw) (h2.below bw) (SlAt.below h3 bw (Nat.le_refl _))
  have BF : Hid (∀ W, Below (w.heap.size + 1) (w.alloc (.cells #[.slice aC f.n cC, .slice aR f.k cR, .int .i64 f.week, .slice aH f.hol.length cH] 26)) W → Below w.heap.size w W) := fun W hW => B0.trans (hW.mono (by omega))
  clear ht hp h1 h2 h3 B0
  go_enter Tryz.func6, Tryz.ntmps6
  go_wp2_with fail
  refine FO.out.mono ?_
  rintro e w1 ⟨a, n, rfl, rel, b1⟩
  have B1 : Hid (Below (w.heap.size + 1) (w.alloc (.cells #[.slice aC f.n cC, .slice aR f.k cR, .int .i64 f.week, .slice aH f.hol.length cH] 26)) w1) := b1.mono (by simp)
  by_cases ha : a = 0
  · subst ha
    have x0 := boxed B1.out 0
    have x1 := boxed B1.out 1
    have x2 := boxed B1.out 2
    have x3 := boxed B1.out 3
    have RL : Hid (f.Rel 0 n) := rel
    have WR1 := hid (WR.out rel.ok.2 w1 B1.out)
    have zf : w.heap.size < w1.heap.size := by have := B1.out.size; simp at this; omega
    simp at x0 x1 x2 x3
    clear rel b1 FO WR
    go_wp2_with fail
    refine WR1.out.mono ?_
    rintro e w2 ⟨rfl, b2⟩
    have R : Hid (PrP f w (.returned (.tuple #[.string (bs f.doc.text), .int .i64 0])) w2) := ⟨0, n, _, rfl, RL.out, fun _ => rfl, fun h => absurd rfl h, (BF.out _ B1.out).trans (b2.mono (BF.out _ B1.out).size)⟩
    clear b2 WR1 RL BF B1
    go_wp2
    go_ret2
    exact R.out
  · have ne : (a != 0) = true := bne_iff_ne.2 ha
    have R : Hid (PrP f w (.returned (.tuple #[.string { data := #[] }, .int .i64 a])) w1) := ⟨a, n, [], rfl, rel, fun h => absurd h ha, fun _ => rfl, BF.out _ B1.out⟩
    clear rel b1 FO WR BF B1
    go_wp2
    go_ret2
    exact R.out

end Go.Proofs.YtmofidaojmiepaaGreatDoor
