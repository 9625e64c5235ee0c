/-
  THE WALKS: the code's Values.
-/
import Derived.Test.YtmofidaojmiepaaDoorGGraph
set_option linter.unusedVariables false
set_option linter.unusedSimpArgs false
namespace Go.Proofs.YtmofidaojmiepaaDoor

open Go.RowKit

theorem info3 : (Tryd.prog.info? 3).map (fun i => (i.zero, i.size, i.bytes)) = some (some (.int .i64 0), 1, 8) := by kernel_rfl

theorem info4 : (Tryd.prog.info? 4).map (fun i => (i.zero, i.size, i.bytes)) = some (some (.bool false), 1, 1) := by kernel_rfl

/-- The cells' memory, five places each. -/
def cellf (C : Nat → Cel) (j : Nat) : Value :=
  if j % 5 = 0 then .int .i64 (C (j / 5)).kind else if j % 5 = 1 then .int .i64 (C (j / 5)).a else if j % 5 = 2 then .int .i64 (C (j / 5)).b else if j % 5 = 3 then .int .i64 (C (j / 5)).c else .int .i64 (C (j / 5)).k

theorem cellf0 (C : Nat → Cel) (m : Nat) : cellf C (m * 5) = .int .i64 (C m).kind := by
  unfold cellf; rw [if_pos (by omega), show m * 5 / 5 = m by omega]

theorem cellf1 (C : Nat → Cel) (m : Nat) : cellf C (m * 5 + 1) = .int .i64 (C m).a := by
  unfold cellf; rw [if_neg (by omega), if_pos (by omega), show (m * 5 + 1) / 5 = m by omega]

theorem cellf2 (C : Nat → Cel) (m : Nat) : cellf C (m * 5 + 2) = .int .i64 (C m).b := by
  unfold cellf; rw [if_neg (by omega), if_neg (by omega), if_pos (by omega), show (m * 5 + 2) / 5 = m by omega]

theorem cellf3 (C : Nat → Cel) (m : Nat) : cellf C (m * 5 + 3) = .int .i64 (C m).c := by
  unfold cellf; rw [if_neg (by omega), if_neg (by omega), if_neg (by omega), if_pos (by omega), show (m * 5 + 3) / 5 = m by omega]

theorem cellf4 (C : Nat → Cel) (m : Nat) : cellf C (m * 5 + 4) = .int .i64 (C m).k := by
  unfold cellf; rw [if_neg (by omega), if_neg (by omega), if_neg (by omega), if_neg (by omega), show (m * 5 + 4) / 5 = m by omega]

/-- A slice of n cells. -/
def CellsAt (w : World) (v : Value) (n : Nat) (C : Nat → Cel) : Prop := SlAt w v n 5 (cellf C)

/-- Cell c lies at an address. -/
def CelIs (w : World) (b o : Nat) (c : Cel) : Prop :=
  w.cell? ⟨b, o, none⟩ = some (.int .i64 c.kind) ∧ w.cell? ⟨b, o + 1, none⟩ = some (.int .i64 c.a) ∧ w.cell? ⟨b, o + 2, none⟩ = some (.int .i64 c.b) ∧ w.cell? ⟨b, o + 3, none⟩ = some (.int .i64 c.c) ∧ w.cell? ⟨b, o + 4, none⟩ = some (.int .i64 c.k)

theorem CellsAt.cases {w : World} {a : Option Addr} {n cap : Nat} {C : Nat → Cel} (h : CellsAt w (.slice a n cap) n C) : n = 0 ∨ ∃ b off, a = some ⟨b, off, none⟩ ∧ b < w.heap.size ∧ ∀ m, m < n → CelIs w b (off + m * 5) (C m) := by
  rcases SlAt.elim h (by omega) with ⟨h0, _⟩ | ⟨h0, b, off, cap', e, hb, hc⟩
  · exact Or.inl h0
  · obtain ⟨rfl, _⟩ : a = some ⟨b, off, none⟩ ∧ cap = cap' := by simpa using e
    refine Or.inr ⟨b, off, rfl, hb, fun m hm => ⟨?_, ?_, ?_, ?_, ?_⟩⟩
    · rw [hc (m * 5) (by omega), cellf0]
    · rw [Nat.add_assoc, hc (m * 5 + 1) (by omega), cellf1]
    · rw [Nat.add_assoc, hc (m * 5 + 2) (by omega), cellf2]
    · rw [Nat.add_assoc, hc (m * 5 + 3) (by omega), cellf3]
    · rw [Nat.add_assoc, hc (m * 5 + 4) (by omega), cellf4]

theorem CelIs.below {B : Nat} {w w' : World} {b o : Nat} {c : Cel} (h : CelIs w b o c) (hb : Below B w w') (hB : b < B) : CelIs w' b o c := by
  unfold CelIs
  rw [hb.cell (p := ⟨b, o, none⟩) hB, hb.cell (p := ⟨b, o + 1, none⟩) hB, hb.cell (p := ⟨b, o + 2, none⟩) hB, hb.cell (p := ⟨b, o + 3, none⟩) hB, hb.cell (p := ⟨b, o + 4, none⟩) hB]
  exact h

/-- The memory of the work: block N the form, N + 1 the values, N + 2 what is done. -/
structure Mem (w W0 wr : World) (n : Nat) (V : Nat → Int) (D : Nat → Bool) : Prop where
  bel : Below (w.heap.size + 1) W0 wr
  vals : wr.rowIs (w.heap.size + 1) 3 n (fun i => .int .i64 (V i))
  done : wr.rowIs (w.heap.size + 1 + 1) 4 n (fun i => .bool (D i))

theorem Mem.below {w W0 wr w1 : World} {n : Nat} {V : Nat → Int} {D : Nat → Bool} (h : Mem w W0 wr n V D) (hb : Below wr.heap.size wr w1) : Mem w W0 w1 n V D :=
  ⟨h.bel.trans (hb.mono (by have := h.done.lt; omega)), h.vals.of_block (hb.block _ h.vals.lt), h.done.of_block (hb.block _ h.done.lt)⟩

/-- One value more, and its mark. -/
theorem Mem.store {w W0 wr : World} {n : Nat} {V : Nat → Int} {D : Nat → Bool} (h : Mem w W0 wr n V D) (m : Nat) (v : Int) :
    Mem w W0 ((wr.setCell ⟨w.heap.size + 1, m, none⟩ (.int .i64 v)).setCell ⟨w.heap.size + 1 + 1, m, none⟩ (.bool true)) n (upd V m v) (upd D m true) := by
  refine ⟨(h.bel.setCell (by simp) _).setCell (by simp) _, ?_, ?_⟩
  · exact ((h.vals.set m _).setOther (by simp) _).congr (fun i _ => by unfold upd; split <;> rfl)
  · exact ((h.done.setOther (by simp) _).set m _).congr (fun i _ => by unfold upd; split <;> rfl)

theorem made_at (W : World) (z : Value) (n : Nat) (t : TypeId) {b : Nat} (h : b = W.heap.size) : (W.alloc (.cells (madeCells #[z] n) t)).rowIs b t n (fun _ => z) := by
  subst h; exact World.rowIs_made _ _ _ _

/-- What Values answers: a list of its own, each value what its row says. -/
def ValPost (C : Nat → Cel) (n : Nat) (week : Int) (hol : List Int) (now : Int) (w : World) (e : Ending) (w' : World) : Prop :=
  ∃ (b : Nat) (V : Nat → Int), e = .returned (.slice (some ⟨b, 0, none⟩) n n) ∧ w.heap.size ≤ b ∧ w'.rowIs b 3 n (fun i => .int .i64 (V i)) ∧ LocalEq C n week hol now V ∧ (∀ i, i < n → IsV (V i)) ∧ Below w.heap.size w w'

/-- How many cells are left. -/
def cnt (D : Nat → Bool) : Nat → Nat
  | 0 => 0
  | n + 1 => cnt D n + if D n then 0 else 1

theorem cnt_none (n : Nat) : cnt (fun _ => false) n = n := by
  induction n with
  | zero => rfl
  | succ n ih => show cnt _ n + 1 = _; rw [ih]

theorem cnt_le (D : Nat → Bool) (n : Nat) : cnt D n ≤ n := by
  induction n with
  | zero => exact Nat.le_refl _
  | succ n ih => show cnt D n + (if D n then 0 else 1) ≤ _; split <;> omega

theorem cnt_zero {D : Nat → Bool} : ∀ {n : Nat}, cnt D n = 0 → ∀ i, i < n → D i = true
  | 0, _, i, hi => by omega
  | n + 1, h, i, hi => by
    have h' : cnt D n + (if D n then 0 else 1) = 0 := h
    by_cases e : i = n
    · subst e
      cases hd : D i
      · rw [hd] at h'; simp at h'
      · rfl
    · exact cnt_zero (n := n) (by omega) i (by omega)

theorem cnt_same {D : Nat → Bool} {i : Nat} : ∀ {n : Nat}, n ≤ i → cnt (upd D i true) n = cnt D n
  | 0, _ => rfl
  | n + 1, h => by
    show cnt (upd D i true) n + (if upd D i true n then 0 else 1) = cnt D n + (if D n then 0 else 1)
    rw [cnt_same (by omega), upd_other _ _ (by omega)]

theorem cnt_upd {D : Nat → Bool} {i : Nat} (hd : D i = false) : ∀ {n : Nat}, i < n → cnt D n = cnt (upd D i true) n + 1
  | 0, h => by omega
  | n + 1, h => by
    show cnt D n + (if D n then 0 else 1) = cnt (upd D i true) n + (if upd D i true n then 0 else 1) + 1
    by_cases e : i = n
    · subst e
      rw [cnt_same (Nat.le_refl _), upd_same, hd]; simp
    · rw [cnt_upd hd (show i < n by omega), upd_other _ _ (by omega)]; omega

set_option maxHeartbeats 1000000 in
theorem pvalues_any (aR aH : Option Addr) (bC oC n cC nR cR nH cH : Nat) (C : Nat → Cel) (week now : Int) (hol : List Int) (w : World) (hn : n ≤ 20) (n1 : 1 ≤ n)
    (ht : Tab w) (h1 : 1 ≤ week) (h2 : week ≤ 127) (hh : HolOk hol) (hnh : nH = hol.length) (hch : IntsAt w (.slice aH nH cH) hol) (hbc : bC < w.heap.size) (hcs : ∀ m, m < n → CelIs w bC (oC + m * 5) (C m))
    (hok : CellsOk C n) (hno : NoRing C n) (t0 : 0 ≤ now) (t1 : now ≤ 1000000000) :
    Calls Tryd.prog 74 #[.agg #[.slice (some ⟨bC, oC, none⟩) n cC, .slice aR nR cR, .int .i64 week, .slice aH nH cH], .int .i64 now] w
      fun e w' => ValPost C n week hol now w e w' := by
  have HT : Hid _ := ht
  have HH : Hid _ := hh
  have HNH : Hid _ := hnh
  have HCH : Hid _ := hch
  have HCS : Hid _ := hcs
  have HOK : Hid _ := hok
  have HNO : Hid _ := hno
  clear ht hh hnh hch hcs hok hno
  have mk3 := run_make_row' (P := Tryd.prog) 24 3 (.int .i64 0) 8 Tryd.underlying24 info3 rfl .i64 .i64 n (by omega) (by omega)
  have mk4 := run_make_row' (P := Tryd.prog) 120 4 (.bool false) 1 Tryd.underlying120 info4 rfl .i64 .i64 n (by omega) (by omega)
  go_enter Tryd.func74, Tryd.ntmps74
  go_wp2
  clear mk3 mk4
  go_loopw [7, 8] (fun l r wr => ∃ (k : Nat) (V : Nat → Int) (D : Nat → Bool), k ≤ n ∧ l = .int .i64 (cnt D n) ∧ r = .int .i64 k ∧ Hid (Done C n week hol now V D) ∧ Hid (∀ i, i < n → Lv C n k i → D i = true) ∧ Hid (Mem w (w.alloc (.cells #[.slice (some ⟨bC, oC, none⟩) n cC, .slice aR nR cR, .int .i64 week, .slice aH nH cH] 26)) wr n V D)) (fun _ r _ => n - (intOf r).toNat)
  case atStart => exact ⟨0, fun _ => 0, fun _ => false, by omega, by rw [cnt_none], rfl, done_start _ _ _ _ _, fun i _ h => h.elim, ⟨((Below.refl _ _).alloc (by simp) _).alloc (by simp) _, (made_at _ _ _ _ (by simp)).alloc _, made_at _ _ _ _ (by simp)⟩⟩
  case round =>
    obtain ⟨k, V, D, k1, rfl, rfl, hdone, hlv, hmem⟩ := hrel
    have fb := hmem.out.bel
    have f0 := boxed fb 0
    simp at f0
    clear fb
    have hcl := cnt_le D n
    by_cases hc0 : cnt D n = 0
    · have Q : Hid (ValPost C n week hol now w (.returned (.slice (some ⟨w.heap.size + 1, 0, none⟩) n n)) wr) := ⟨_, V, rfl, by omega, hmem.out.vals, fun i hi => hdone.out.eq i hi (cnt_zero hc0 i hi), hdone.out.val, boxed_below hmem.out.bel⟩
      rw [hc0]
      clear hc0 hcl
      go_wp2
      exact bodyPost_ret (v := .slice (some ⟨w.heap.size + 1, 0, none⟩) n n) (by simp [results, go_sem]) rfl Q.out
    have hcp : (0 : Int) < (cnt D n : Int) := by omega
    by_cases hlt : k < n
    · have hlt' : (k : Int) < (n : Int) := by omega
      go_wp2
      go_loopw [7, 36] (fun l r wr => ∃ (m : Nat) (V : Nat → Int) (D : Nat → Bool), m ≤ n ∧ l = .int .i64 (cnt D n) ∧ r = .int .i64 m ∧ Hid (Done C n week hol now V D) ∧ Hid (∀ i, i < n → Lv C n k i → D i = true) ∧ Hid (∀ i, i < m → Lv C n (k + 1) i → D i = true) ∧ Hid (Mem w (w.alloc (.cells #[.slice (some ⟨bC, oC, none⟩) n cC, .slice aR nR cR, .int .i64 week, .slice aH nH cH] 26)) wr n V D)) (fun _ r _ => n - (intOf r).toNat)
      case atStart => exact ⟨0, V, D, by omega, rfl, rfl, hdone, hlv, fun i h => by omega, hmem⟩
      case round =>
        clear f0 hdone hlv hmem k1 hcl hc0 hcp
        obtain ⟨m, V, D, m1, rfl, rfl, hdone, hlv, hlv2, hmem⟩ := hrel
        have hcl := cnt_le D n
        by_cases hmt : m < n
        · have fb := hmem.out.bel
          have f0 := boxed fb 0
          have f1 := boxed fb 1
          have f2 := boxed fb 2
          have f3 := boxed fb 3
          simp at f0 f1 f2 f3
          have hsz := hmem.out.done.lt
          have hwb : Hid (Below w.heap.size w wr) := boxed_below fb
          clear fb
          obtain ⟨g0, g1, g2, g3, g4⟩ := CelIs.below (HCS.out m hmt) hwb.out hbc
          rcases hC : C m with ⟨kd, ca, cb, cc, ck⟩
          rw [hC] at g0 g1 g2 g3 g4
          simp only at g0 g1 g2 g3 g4
          have HCm : Hid _ := hC
          clear hC
          have d0 : wr.cell? ⟨w.heap.size + 1 + 1, m, none⟩ = some (.bool (D m)) := hmem.out.done.cell hmt
          have hba : Hid (∀ o, Below wr.heap.size wr (wr.alloc o)) := fun o => (Below.refl _ _).alloc (Nat.le_refl _) _
          have hmem1 : Hid (∀ o, Mem w (w.alloc (.cells #[.slice (some ⟨bC, oC, none⟩) n cC, .slice aR nR cR, .int .i64 week, .slice aH nH cH] 26)) (wr.alloc o) n V D) := fun o => hmem.out.below (hba.out o)
          cases hd : D m
          · rw [hd] at d0
            have HDm : Hid _ := hd
            clear hd
            go_wp2_with fail
            refine (ready_any kd ca cb cc ck (w.heap.size + 1 + 1) n n D _ (Tab.below HT.out (hwb.out.trans ((hba.out _).mono (by omega))) (Nat.le_refl _)) hn (by simp; omega) (fun j hj => (hmem1.out _).done.cell hj)).mono ?_
            rintro e w1 ⟨r, rfl, hr, hb1⟩
            have HR : Hid (r = true ↔ ∀ j, Ed C n m j → D j = true) := by
              rw [← HCm.out] at hr
              exact hr.trans (ready_ed hmt HOK.out)
            have hmem2 : Hid _ := (hmem1.out _).below hb1
            have hb2 : Hid _ := hb1
            simp only [World.size_alloc] at hb2
            clear hr hb1
            cases r
            · go_wp2
              go_roundw
              case rel => exact ⟨m + 1, V, D, by omega, rfl, by go_num, hdone, hlv, fun i hi hl => by
                by_cases e : i = m
                · subst e
                  have : false = true := HR.out.2 (fun j hj => hlv.out j (ed_within HOK.out _ _ hj) (hl j hj))
                  cases this
                · exact hlv2.out i (by omega) hl, hmem2⟩
              case measure => simp [intOf]; omega
            · have hneeds := HR.out.1 rfl
              have HNE : Hid _ := hneeds
              clear hneeds
              have q0 := boxed hb2.out 0
              have q1 := boxed hb2.out 1
              have q2 := boxed hb2.out 2
              have q3 := boxed hb2.out 3
              have q4 := boxed hb2.out 4
              have p0 := boxed hmem2.out.bel 0
              have p1 := boxed hmem2.out.bel 1
              have p2 := boxed hmem2.out.bel 2
              have p3 := boxed hmem2.out.bel 3
              simp at q0 q1 q2 q3 q4 p0 p1 p2 p3
              have hw1 : Hid (Below w.heap.size w w1) := boxed_below hmem2.out.bel
              have hokm := HOK.out m hmt
              rw [HCm.out] at hokm
              obtain ⟨kd0, kd1, kk, _⟩ := hokm
              have KK : Hid _ := kk
              clear kk
              go_wp2_with fail
              refine (value_any (some ⟨bC, oC, none⟩) aR aH n cC nR cR nH cH week hol kd ca cb cc ck (some ⟨w.heap.size + 1, 0, none⟩) n n V now w1 h1 h2 HH.out HNH.out (SlAt.below HCH.out hw1.out (Nat.le_refl _)) kd0 kd1 KK.out hn
                ⟨some ⟨w.heap.size + 1, 0, none⟩, n, rfl, fun j hj => ⟨w.heap.size + 1, 0, rfl, hmem2.out.vals.lt, by rw [Nat.zero_add]; exact hmem2.out.vals.cell (by omega)⟩⟩ hdone.out.val t0 t1).mono ?_
              rintro e w2 ⟨v, rfl, hv, hb3⟩
              have hmem3 : Hid _ := hmem2.out.below hb3
              have hv' : CRel week hol now (C m) (pk V n (C m).a) (pk V n (C m).b) (pk V n (C m).c) v := by rw [HCm.out]; exact hv
              have hdone' : Hid _ := hdone.out.step HOK.out hmt HDm.out HNE.out hv' t0 t1
              have HMS : Hid _ := hmem3.out.store m v
              have s0 : w2.cell? ⟨w.heap.size + 1, m, none⟩ = some (.int .i64 (V m)) := hmem3.out.vals.cell hmt
              have s1 : w2.frozen? ⟨w.heap.size + 1, m, none⟩ = false := hmem3.out.vals.frozen m
              have s2 : ∀ x, (w2.setCell ⟨w.heap.size + 1, m, none⟩ x).cell? ⟨w.heap.size + 1 + 1, m, none⟩ = some (.bool (D m)) := fun x => (hmem3.out.done.setOther (by simp) _).cell hmt
              have s3 : ∀ x, (w2.setCell ⟨w.heap.size + 1, m, none⟩ x).frozen? ⟨w.heap.size + 1 + 1, m, none⟩ = false := fun x => (hmem3.out.done.setOther (by simp) _).frozen m
              have hcu := cnt_upd HDm.out hmt
              have HCU : Hid ((cnt D n : Int) - 1 = (cnt (upd D m true) n : Nat)) := by show _ = _; omega
              clear hcu
              have hc1 : (1 : Int) ≤ (cnt D n : Int) := by have := HCU.out; omega
              clear hv hv' hb3 q0 q1 q2 q3 q4 p0 p1 p2 p3
              go_wp2
              go_roundw
              case rel => exact ⟨m + 1, upd V m v, upd D m true, by omega, by rw [← HCU.out], by go_num, hdone', fun i hi hl => by
                by_cases e : i = m
                · subst e; exact upd_same _ _ _
                · rw [upd_other _ _ e]; exact hlv.out i hi hl, fun i hi hl => by
                by_cases e : i = m
                · subst e; exact upd_same _ _ _
                · rw [upd_other _ _ e]; exact hlv2.out i (by omega) hl, HMS⟩
              case measure => simp [intOf]; omega
          · rw [hd] at d0
            have HDm : Hid _ := hd
            clear hd
            go_wp2
            go_roundw
            case rel => exact ⟨m + 1, V, D, by omega, rfl, by go_num, hdone, hlv, fun i hi hl => by
              by_cases e : i = m
              · subst e; exact HDm.out
              · exact hlv2.out i (by omega) hl, hmem1.out _⟩
            case measure => simp [intOf]; omega
        · go_wp2
          go_roundw
          case rel => exact ⟨k + 1, V, D, by omega, rfl, by go_num, hdone, fun i hi hl => hlv2.out i (by omega) hl, hmem⟩
          case measure => simp [intOf]; omega
    · obtain rfl : k = n := by omega
      clear hc0 hcl
      go_wp2
      refine bodyPost_ret (v := .slice (some ⟨w.heap.size + 1, 0, none⟩) k k) (by simp [results, go_sem]) rfl ?_
      exact ⟨_, V, rfl, by omega, hmem.out.vals, fun i hi => hdone.out.eq i hi (hlv.out i hi (lv_all HOK.out HNO.out hi)), hdone.out.val, boxed_below hmem.out.bel⟩

end Go.Proofs.YtmofidaojmiepaaDoor
