/-
  THE WALKS: the document's Values.
-/
import Derived.Test.YtcondcffllaaoaaGreatDoorW10
import Derived.Deep.LoopGhost
import Derived.Deep.RegionHeld3
import Derived.Deep.DrawnRows
set_option linter.unusedVariables false
set_option linter.unusedSimpArgs false
namespace Go.Proofs.YtcondcffllaaoaaGreatDoor
open Go.RowKit
attribute [local go_sem ↓] Go.wp_at_zero Go.wp_at_succ

theorem addr_nb {b b' o o' : Nat} (h : b ≠ b') : (⟨b, o, none⟩ : Addr) ≠ ⟨b', o', none⟩ := fun e => h (by cases e; rfl)
theorem addr_no {b b' o o' : Nat} (h : o ≠ o') : (⟨b, o, none⟩ : Addr) ≠ ⟨b', o', none⟩ := fun e => h (by cases e; rfl)
theorem cell_nb {w : World} {b b' o o' : Nat} {x v : Value} (h : b ≠ b') (hc : w.cell? ⟨b', o', none⟩ = some v) : (w.setCell ⟨b, o, none⟩ x).cell? ⟨b', o', none⟩ = some v := by rw [World.cell?_setCell_other (h := addr_nb h)]; exact hc
theorem cell_no {w : World} {b o o' : Nat} {x v : Value} (h : o ≠ o') (hc : w.cell? ⟨b, o', none⟩ = some v) : (w.setCell ⟨b, o, none⟩ x).cell? ⟨b, o', none⟩ = some v := by rw [World.cell?_setCell_other (h := addr_no h)]; exact hc

theorem Mem.setDone {w W0 wr : World} {n : Nat} {V : Nat → Int} {D : Nat → Bool} (h : Mem w W0 wr n V D) (m : Nat) : Mem w W0 (wr.setCell ⟨w.heap.size + 1 + 1, m, none⟩ (.bool true)) n V (upd D m true) :=
  ⟨h.bel.setCell (by simp) _, h.vals.setOther (by simp) _, (h.done.set m _).congr (fun i _ => by unfold upd; split <;> rfl)⟩
theorem Mem.setVal {w W0 wr : World} {n : Nat} {V : Nat → Int} {D : Nat → Bool} (h : Mem w W0 wr n V D) (m : Nat) (v : Int) : Mem w W0 (wr.setCell ⟨w.heap.size + 1, m, none⟩ (.int .i64 v)) n (upd V m v) D :=
  ⟨h.bel.setCell (by simp) _, (h.vals.set m _).congr (fun i _ => by unfold upd; split <;> rfl), h.done.setOther (by simp) _⟩
theorem Mem.drew {w W0 wr : World} {n : Nat} {V : Nat → Int} {D : Nat → Bool} (h : Mem w W0 wr n V D) : Mem w W0 wr.drew n V D := ⟨h.bel.drew, h.vals.drew, h.done.drew⟩
theorem pk_nat {V : Nat → Int} {n x : Nat} (h : x < n) : pk V n (x : Int) = V x := by unfold pk; rw [if_pos ⟨by omega, by omega⟩]; rfl

theorem upd_upd {α : Type} (f : Nat → α) (i : Nat) (x y : α) : upd (upd f i x) i y = upd f i y := by
  funext j; unfold upd; split <;> rfl

/-- The cells with what is filled in. -/
def Eff (C Ce : Nat → Cel) (F : Nat → Int) (n : Nat) : Prop := ∀ i, i < n → Ce i = ⟨(C i).kind, (C i).a, (C i).b, (C i).c, if (C i).kind = 0 then F i else (C i).k⟩

set_option maxRecDepth 100000 in
set_option maxHeartbeats 2000000 in
theorem rvalues_any (aR aH : Option Addr) (bC oC n cC nR cR nH cH bF oF cF : Nat) (C Ce : Nat → Cel) (F : Nat → Int) (week now : Int) (hol : List Int) (w : World) (hn : n ≤ 20) (n1 : 1 ≤ n)
    (h1 : 1 ≤ week) (h2 : week ≤ 127) (hh : HolOk hol) (hnh : nH = hol.length) (hch : IntsAt w (.slice aH nH cH) hol) (hbc : bC < w.heap.size) (hcs : ∀ m, m < n → CelIs w bC (oC + m * 5) (C m))
    (hbf : bF < w.heap.size) (hfs : ∀ m, m < n → w.cell? ⟨bF, oF + m, none⟩ = some (.int .i64 (F m))) (heff : Eff C Ce F n)
    (hok : CellsOk Ce n) (hno : NoRing Ce n) (t0 : 0 ≤ now) (t1 : now ≤ 1000000000) :
    Calls Tryz.prog 91 #[.agg #[.slice (some ⟨bC, oC, none⟩) n cC, .slice aR nR cR, .int .i64 week, .slice aH nH cH], .slice (some ⟨bF, oF, none⟩) n cF, .int .i64 now] w
      fun e w' => ValPost Ce n week hol now w e w' := by
  have HH : Hid _ := hh
  have HNH : Hid _ := hnh
  have HCH : Hid _ := hch
  have HCS : Hid _ := hcs
  have HFS : Hid _ := hfs
  have HEF : Hid _ := heff
  have HOK : Hid _ := hok
  have HNO : Hid _ := hno
  clear hh hnh hch hcs hok hno hfs heff
  have mk3 := run_make_row' (P := Tryz.prog) 24 3 (.int .i64 0) 8 Tryz.underlying24 info3 rfl .i64 .i64 n (by omega) (by omega)
  have mk4 := run_make_row' (P := Tryz.prog) 111 4 (.bool false) 1 Tryz.underlying111 info4 rfl .i64 .i64 n (by omega) (by omega)
  go_enter Tryz.func91, Tryz.ntmps91
  go_wp2
  clear mk3 mk4
  go_loopg [10] (n + 1) (fun g s wr => ∃ (r : Nat) (V : Nat → Int) (D : Nat → Bool) (b : Bool), g + r = n + 1 ∧ s = .bool b ∧ Hid (Done Ce n week hol now V D) ∧ Hid (∀ i, i < n → Lv Ce n r i → D i = true) ∧ Hid (b = false → ∀ i, i < n → D i = true) ∧ Hid (r = n + 1 → b = false) ∧ Hid (Mem w (w.alloc (.cells #[.slice (some ⟨bC, oC, none⟩) n cC, .slice aR nR cR, .int .i64 week, .slice aH nH cH] 26)) wr n V D))
  case atStart => exact ⟨0, fun _ => 0, fun _ => false, true, by omega, rfl, done_start _ _ _ _ _, fun i _ h => h.elim, fun h => (by cases h), fun h => (by omega), ⟨((Below.refl _ _).alloc (by simp) _).alloc (by simp) _, (made_at _ _ _ _ (by simp)).alloc _, made_at _ _ _ _ (by simp)⟩⟩
  case round =>
    obtain ⟨r, V, D, b, r1, rfl, hdone, hlv, hall, hlast, hmem⟩ := hrel
    cases b
    · go_wp2
      refine bodyPost_ret (v := .slice (some ⟨w.heap.size + 1, 0, none⟩) n n) (by simp [results, go_sem]) rfl ?_
      exact ⟨_, V, rfl, by omega, hmem.out.vals, fun i hi => hdone.out.eq i hi (hall.out trivial i hi), hdone.out.val, boxed_below hmem.out.bel⟩
    · have hrn : r ≤ n := by
        by_cases e : r = n + 1
        · have := hlast.out e; cases this
        · omega
      clear hall hlast
      go_wp2
      go_loopw [10, 11] (fun s t wr => ∃ (m : Nat) (V : Nat → Int) (D : Nat → Bool) (b : Bool), m ≤ n ∧ s = .bool b ∧ t = .int .i64 m ∧ Hid (Done Ce n week hol now V D) ∧ Hid (∀ i, i < n → Lv Ce n r i → D i = true) ∧ Hid (∀ i, i < m → Lv Ce n (r + 1) i → D i = true) ∧ Hid (b = false → ∀ i, i < m → D i = true) ∧ Hid (r = n → b = false) ∧ Hid (Mem w (w.alloc (.cells #[.slice (some ⟨bC, oC, none⟩) n cC, .slice aR nR cR, .int .i64 week, .slice aH nH cH] 26)) wr n V D)) (fun _ t _ => n - (intOf t).toNat)
      case atStart => exact ⟨0, V, D, false, by omega, rfl, rfl, hdone, hlv, fun i h => by omega, fun _ i h => by omega, fun _ => rfl, hmem⟩
      case round =>
        clear hdone hlv hmem
        obtain ⟨m, V, D, b, m1, rfl, rfl, hdone, hlv, hlv2, hall, hlast, hmem⟩ := hrel
        by_cases hmt : m < n
        · have fb := hmem.out.bel
          have f0 := boxed fb 0
          have f1 := boxed fb 1
          have f2 := boxed fb 2
          have f3 := boxed fb 3
          simp at f0 f1 f2 f3
          have hsz := hmem.out.done.lt
          have hwb : Hid (Below w.heap.size w wr) := boxed_below fb
          clear fb
          obtain ⟨g0, g1, g2, g3, g4⟩ := CelIs.below (HCS.out m hmt) hwb.out hbc
          rcases hC : C m with ⟨kd, ca, cb, cc, ck⟩
          rw [hC] at g0 g1 g2 g3 g4
          simp only at g0 g1 g2 g3 g4
          have hCe := HEF.out m hmt
          rw [hC] at hCe
          simp only at hCe
          have HCe : Hid _ := hCe
          clear hC hCe
          have d0 : wr.cell? ⟨w.heap.size + 1 + 1, m, none⟩ = some (.bool (D m)) := hmem.out.done.cell hmt
          have df : wr.frozen? ⟨w.heap.size + 1 + 1, m, none⟩ = false := hmem.out.done.frozen m
          have hba : Hid (∀ o, Below wr.heap.size wr (wr.alloc o)) := fun o => (Below.refl _ _).alloc (Nat.le_refl _) _
          have hmem1 : Hid (∀ o, Mem w (w.alloc (.cells #[.slice (some ⟨bC, oC, none⟩) n cC, .slice aR nR cR, .int .i64 week, .slice aH nH cH] 26)) (wr.alloc o) n V D) := fun o => hmem.out.below (hba.out o)
          cases hd : D m
          · rw [hd] at d0
            have HDm : Hid _ := hd
            clear hd
            have hrn' : r ≠ n := fun e => by
              subst e
              have := hlv.out m hmt (lv_all HOK.out HNO.out hmt)
              rw [HDm.out] at this; cases this
            have CONT : Hid (¬ (∀ j, Ed Ce n m j → D j = true) → ∀ i, i < m + 1 → Lv Ce n (r + 1) i → D i = true) := fun h i hi hl => by
              by_cases e : i = m
              · subst e
                exact (h fun j hj => hlv.out j (ed_within HOK.out _ _ hj) (hl j hj)).elim
              · exact hlv2.out i (by omega) hl
            have LV1 : Hid (∀ i, i < n → Lv Ce n r i → upd D m true i = true) := fun i hi hl => by
              by_cases e : i = m
              · subst e; exact upd_same _ _ _
              · rw [upd_other _ _ e]; exact hlv.out i hi hl
            have LV2 : Hid (∀ i, i < m + 1 → Lv Ce n (r + 1) i → upd D m true i = true) := fun i hi hl => by
              by_cases e : i = m
              · subst e; exact upd_same _ _ _
              · rw [upd_other _ _ e]; exact hlv2.out i (by omega) hl
            have STEP : Hid (∀ v, (∀ j, Ed Ce n m j → D j = true) → CRel week hol now (Ce m) (pk V n (Ce m).a) (pk V n (Ce m).b) (pk V n (Ce m).c) v → Done Ce n week hol now (upd V m v) (upd D m true)) := fun v h1 h2 => hdone.out.step HOK.out hmt HDm.out h1 h2 t0 t1
            have hmemk : Hid (∀ o, Mem w (w.alloc (.cells #[.slice (some ⟨bC, oC, none⟩) n cC, .slice aR nR cR, .int .i64 week, .slice aH nH cH] 26)) ((wr.setCell ⟨w.heap.size + 1 + 1, m, none⟩ (.bool true)).alloc o) n V (upd D m true)) := fun o => (hmem.out.setDone m).below ((Below.refl _ _).alloc (Nat.le_refl _) _)
            have hmemk2 : Hid (∀ o v, Mem w (w.alloc (.cells #[.slice (some ⟨bC, oC, none⟩) n cC, .slice aR nR cR, .int .i64 week, .slice aH nH cH] 26)) (((wr.setCell ⟨w.heap.size + 1 + 1, m, none⟩ (.bool true)).alloc o).setCell ⟨w.heap.size + 1, m, none⟩ (.int .i64 v)) n (upd V m v) (upd D m true)) := fun o v => (hmemk.out o).setVal m v
            have hmemk3 : Hid (∀ o u v, Mem w (w.alloc (.cells #[.slice (some ⟨bC, oC, none⟩) n cC, .slice aR nR cR, .int .i64 week, .slice aH nH cH] 26)) ((((wr.setCell ⟨w.heap.size + 1 + 1, m, none⟩ (.bool true)).alloc o).setCell ⟨w.heap.size + 1, m, none⟩ (.int .i64 u)).setCell ⟨w.heap.size + 1, m, none⟩ (.int .i64 v)) n (upd V m v) (upd D m true)) := fun o u v => by
              have := (hmemk2.out o u).setVal m v
              rw [upd_upd] at this; exact this
            have hokm := HOK.out m hmt
            obtain ⟨kd0, kd1, kk, oka, okb, okc⟩ := hokm
            have kd0' : 0 ≤ kd := by rw [HCe.out] at kd0; exact kd0
            have kd1' : kd ≤ 12 := by rw [HCe.out] at kd1; exact kd1
            have VALS : Hid (∀ i, i < n → IsV (V i)) := hdone.out.val
            clear kd0 kd1
            have KK : Hid _ := kk
            have OKA : Hid _ := oka
            have OKB : Hid _ := okb
            have OKC : Hid _ := okc
            clear kk oka okb okc
            have cat : (kd = 0 ∨ kd = 1) ∨ (10 ≤ kd ∧ kd ≤ 12) ∨ (2 ≤ kd ∧ kd ≤ 8) ∨ kd = 9 := by omega
            rcases cat with cat | ⟨cat1, cat2⟩ | cat | cat
            · have hnd : M.needs kd = 0 := by unfold M.needs; rw [if_pos cat]
              have HND : Hid _ := hnd
              clear hnd
              have ALL : Hid (∀ j, Ed Ce n m j → D j = true) := by
                intro j hj
                rcases hj with ⟨_, ⟨p, _⟩ | ⟨p, _⟩ | ⟨p, _⟩⟩
                · rw [HCe.out] at p; simp only [HND.out] at p; omega
                · rw [HCe.out] at p; simp only [HND.out] at p; omega
                · rw [HCe.out] at p; simp only [HND.out] at p; omega
              have vz0 : wr.cell? ⟨w.heap.size + 1, m, none⟩ = some (.int .i64 (V m)) := hmem.out.vals.cell hmt
              have vf0 : wr.frozen? ⟨w.heap.size + 1, m, none⟩ = false := hmem.out.vals.frozen m
              have fl0 : wr.cell? ⟨bF, oF + m, none⟩ = some (.int .i64 (F m)) := by rw [hwb.out.cell (p := ⟨bF, oF + m, none⟩) hbf]; exact HFS.out m hmt
              have e4 : ∀ o y, (((wr.setCell ⟨w.heap.size + 1 + 1, m, none⟩ (.bool true)).alloc o).setCell ⟨w.heap.size + 1, m, none⟩ (.int .i64 y)).cell? ⟨bF, oF + m, none⟩ = some (.int .i64 (F m)) := fun o y => by
                rw [((boxed_below (hmemk2.out o y).bel).cell (p := ⟨bF, oF + m, none⟩) hbf)]; exact HFS.out m hmt
              have p1 : ∀ o, ((wr.setCell ⟨w.heap.size + 1 + 1, m, none⟩ (.bool true)).alloc o).cell? ⟨w.heap.size + 1, m, none⟩ = some (.int .i64 (V m)) := fun o => (hmemk.out o).vals.cell hmt
              have p2 : ∀ o, ((wr.setCell ⟨w.heap.size + 1 + 1, m, none⟩ (.bool true)).alloc o).frozen? ⟨w.heap.size + 1, m, none⟩ = false := fun o => (hmemk.out o).vals.frozen m
              have p3 : ∀ o v, (((wr.setCell ⟨w.heap.size + 1 + 1, m, none⟩ (.bool true)).alloc o).setCell ⟨w.heap.size + 1, m, none⟩ (.int .i64 v)).cell? ⟨w.heap.size + 1, m, none⟩ = some (.int .i64 v) := fun o v => by
                have := (hmemk2.out o v).vals.cell hmt
                rw [upd_same] at this; exact this
              have p4 : ∀ o v, (((wr.setCell ⟨w.heap.size + 1 + 1, m, none⟩ (.bool true)).alloc o).setCell ⟨w.heap.size + 1, m, none⟩ (.int .i64 v)).frozen? ⟨w.heap.size + 1, m, none⟩ = false := fun o v => (hmemk2.out o v).vals.frozen m
              rcases cat with rfl | rfl
              · have hdone' : Hid _ := STEP.out (F m) ALL.out (by rw [HCe.out]; exact crel0 (Or.inl rfl))
                go_wp2_with fail
                refine (rneeds_any _ _).mono ?_
                rintro e w1 ⟨rfl, rfl⟩
                rw [HND.out]
                go_wp2
                go_roundw
                case rel => exact ⟨m + 1, upd V m (F m), upd D m true, true, by omega, rfl, by go_num, hdone', LV1, LV2, fun h => (by cases h), fun e => (hrn' e).elim, hmemk3.out _ _ _⟩
                case measure => simp [intOf]; omega
              · have hdone' : Hid _ := STEP.out ck ALL.out (by rw [HCe.out]; exact crel0 (Or.inr rfl))
                go_wp2_with fail
                refine (rneeds_any _ _).mono ?_
                rintro e w1 ⟨rfl, rfl⟩
                rw [HND.out]
                go_wp2
                go_roundw
                case rel => exact ⟨m + 1, upd V m ck, upd D m true, true, by omega, rfl, by go_num, hdone', LV1, LV2, fun h => (by cases h), fun e => (hrn' e).elim, hmemk2.out _ _⟩
                case measure => simp [intOf]; omega
            · have hnd : M.needs kd = 1 := by unfold M.needs; rw [if_neg (by omega), if_pos (by omega)]
              have HND : Hid _ := hnd
              clear hnd
              have oka := OKA.out
              rw [HCe.out] at oka
              obtain ⟨a0, a1⟩ := oka (by show 0 < M.needs kd; rw [HND.out]; omega)
              simp only at a0 a1
              obtain ⟨xa, rfl⟩ := Int.eq_ofNat_of_zero_le a0
              have hxa : xa < n := by omega
              have da : ∀ o, (wr.alloc o).cell? ⟨w.heap.size + 1 + 1, xa, none⟩ = some (.bool (D xa)) := fun o => (hmem1.out o).done.cell hxa
              cases hda : D xa
              · rw [hda] at da
                have NOT : Hid (¬ (∀ j, Ed Ce n m j → D j = true)) := fun h => by
                  have := h xa ⟨hmt, Or.inl ⟨by rw [HCe.out]; show 0 < M.needs kd; rw [HND.out]; omega, by rw [HCe.out]⟩⟩
                  rw [hda] at this; cases this
                clear hda
                go_wp2_with fail
                refine (rneeds_any _ _).mono ?_
                rintro e w1 ⟨rfl, rfl⟩
                rw [HND.out]
                go_wp2
                go_roundw
                case rel => exact ⟨m + 1, V, D, true, by omega, rfl, by go_num, hdone, hlv, CONT.out NOT.out, fun h => (by cases h), fun e => (hrn' e).elim, hmem1.out _⟩
                case measure => simp [intOf]; omega
              · rw [hda] at da
                have ALL : Hid (∀ j, Ed Ce n m j → D j = true) := by
                  intro j hj
                  rcases hj with ⟨_, ⟨_, e⟩ | ⟨p, _⟩ | ⟨p, _⟩⟩
                  · rw [HCe.out] at e
                    have : xa = j := by simp only at e; omega
                    rw [← this]; exact hda
                  · rw [HCe.out] at p; simp only [HND.out] at p; omega
                  · rw [HCe.out] at p; simp only [HND.out] at p; omega
                have hne : xa ≠ m := fun e => by subst e; rw [HDm.out] at hda; cases hda
                clear hda
                go_wp2_with fail
                refine (rneeds_any _ _).mono ?_
                rintro e w1 ⟨rfl, rfl⟩
                rw [HND.out]
                have t00 : ((1 : Int) == 0) = false := rfl
                have t11 : ((1 : Int) == 1) = true := rfl
                go_wp2_with fail
                have MK := hmemk.out (.cells #[.int .i64 kd, .int .i64 xa, .int .i64 cb, .int .i64 cc, .int .i64 ck] 77)
                have CK : ∀ i, ((wr.setCell ⟨w.heap.size + 1 + 1, m, none⟩ (.bool true)).alloc (.cells #[.int .i64 kd, .int .i64 xa, .int .i64 cb, .int .i64 cc, .int .i64 ck] 77)).cell? ⟨wr.heap.size, i, none⟩ = (#[.int .i64 kd, .int .i64 xa, .int .i64 cb, .int .i64 cc, .int .i64 ck] : Array Value)[i]? := fun i => by
                  have := World.cell?_alloc_new (wr.setCell ⟨w.heap.size + 1 + 1, m, none⟩ (.bool true)) #[.int .i64 kd, .int .i64 xa, .int .i64 cb, .int .i64 cc, .int .i64 ck] 77 i
                  simpa using this
                have SZ : ((wr.setCell ⟨w.heap.size + 1 + 1, m, none⟩ (.bool true)).alloc (.cells #[.int .i64 kd, .int .i64 xa, .int .i64 cb, .int .i64 cc, .int .i64 ck] 77)).heap.size = wr.heap.size + 1 := by simp
                generalize ((wr.setCell ⟨w.heap.size + 1 + 1, m, none⟩ (.bool true)).alloc (.cells #[.int .i64 kd, .int .i64 xa, .int .i64 cb, .int .i64 cc, .int .i64 ck] 77)) = Wk at *
                have k0 := boxed MK.bel 0
                have k1 := boxed MK.bel 1
                have k2 := boxed MK.bel 2
                have k3 := boxed MK.bel 3
                have q0 := CK 0
                have q1 := CK 1
                have q2 := CK 2
                have q3 := CK 3
                have q4 := CK 4
                simp at k0 k1 k2 k3 q0 q1 q2 q3 q4
                have va : Wk.cell? ⟨w.heap.size + 1, xa, none⟩ = some (.int .i64 (V xa)) := MK.vals.cell hxa
                have vz : Wk.cell? ⟨w.heap.size + 1, m, none⟩ = some (.int .i64 (V m)) := MK.vals.cell hmt
                have vf : Wk.frozen? ⟨w.heap.size + 1, m, none⟩ = false := MK.vals.frozen m
                have MKH : Hid _ := MK
                have hwk : Hid (Below w.heap.size w Wk) := boxed_below MK.bel
                obtain ⟨x1, x2⟩ := VALS.out xa hxa
                have kk1 := KK.out
                rw [HCe.out] at kk1
                have KK1 : Hid (KOk ⟨kd, xa, cb, cc, ck⟩) := ⟨fun e => by have : kd = 0 ∨ kd = 1 := e; omega, fun e => by have := kk1.2.1 e; simp only [if_neg (show ¬ kd = 0 by omega)] at this; exact this, fun e => by have := kk1.2.2 e; simp only [if_neg (show ¬ kd = 0 by omega)] at this; exact this⟩
                clear kk1
                clear CK MK f0 f1 f2 f3 g0 g1 g2 g3 g4 d0 df
                have m0' : (0 : Int) ≤ (m : Int) := by omega
                have m1' : (m : Int) < (n : Int) := by omega
                go_region_held3 (fun w' => w'.cell? ⟨w.heap.size, 0, none⟩ = some (.slice (some ⟨bC, oC, none⟩) n cC) ∧ w'.cell? ⟨w.heap.size, 1, none⟩ = some (.slice aR nR cR) ∧ w'.cell? ⟨w.heap.size, 2, none⟩ = some (.int .i64 week) ∧ w'.cell? ⟨w.heap.size, 3, none⟩ = some (.slice aH nH cH) ∧ w'.cell? ⟨wr.heap.size, 0, none⟩ = some (.int .i64 kd) ∧ w'.cell? ⟨wr.heap.size, 1, none⟩ = some (.int .i64 xa) ∧ w'.cell? ⟨wr.heap.size, 2, none⟩ = some (.int .i64 cb) ∧ w'.cell? ⟨wr.heap.size, 3, none⟩ = some (.int .i64 cc) ∧ w'.cell? ⟨wr.heap.size, 4, none⟩ = some (.int .i64 ck) ∧ w'.cell? ⟨w.heap.size + 1, xa, none⟩ = some (.int .i64 (V xa)))
                  ((refine ⟨?_, ?_, ?_, ?_, ?_, ?_, ?_, ?_, ?_, ?_⟩ <;> first | assumption | (refine cell_nb (by omega) ?_; rw [hb2.cell (show _ < Wk.heap.size by simp; omega)]; assumption) | (refine cell_no (by omega) ?_; rw [hb2.cell (show _ < Wk.heap.size by simp; omega)]; assumption) | (rw [hb2.cell (show _ < Wk.heap.size by simp; omega)]; assumption)))
                  ((go_at_call 100; refine (timed_any (some ⟨bC, oC, none⟩) aR aH n cC nR cR nH cH week hol kd xa cb cc ck (V xa) now _ h1 h2 HH.out HNH.out (by exact SlAt.below HCH.out hwk.out.drew (Nat.le_refl _)) cat1 cat2 KK1.out x1 x2 t0 t1).mono ?_; rintro e w2 ⟨v, rfl, hv, hb2⟩; have vz2 : w2.cell? ⟨w.heap.size + 1, m, none⟩ = some (.int .i64 (V m)) := (by rw [hb2.cell (by simp; omega)]; exact vz); have vf2 : w2.frozen? ⟨w.heap.size + 1, m, none⟩ = false := (by rw [hb2.frozen (by simp; omega)]; exact vf)))
                have MK2 := (MKH.out.below (show Below Wk.heap.size Wk w2 from ⟨hb2.os, hb2.tape, hb2.output, hb2.size, hb2.block⟩)).setVal m v
                have MK2H : Hid _ := MK2
                have hdone' : Hid _ := STEP.out v ALL.out (by
                  rw [HCe.out]; simp only [if_neg (show ¬ kd = 0 by omega)]
                  have := hv.out (pk V n cb) (pk V n cc)
                  rw [show pk V n (xa : Int) = V xa from by unfold pk; rw [if_pos ⟨by omega, by omega⟩]; rfl]
                  exact this)
                clear MK2 hv hb2
                go_wp2
                go_roundw
                case rel => exact ⟨m + 1, upd V m v, upd D m true, true, by omega, rfl, by go_num, hdone', LV1, LV2, fun h => (by cases h), fun e => (hrn' e).elim, MK2H⟩
                case measure => simp [intOf]; omega
            · obtain ⟨cat1, cat2⟩ := cat
              have hnd : M.needs kd = 2 := by unfold M.needs; rw [if_neg (by omega), if_neg (by omega), if_neg (by omega), if_pos (by omega)]
              have HND : Hid _ := hnd
              clear hnd
              have oka := OKA.out
              rw [HCe.out] at oka
              obtain ⟨a0, a1⟩ := oka (by show 0 < M.needs kd; rw [HND.out]; omega)
              simp only at a0 a1
              obtain ⟨xa, rfl⟩ := Int.eq_ofNat_of_zero_le a0
              have hxa : xa < n := by omega
              have da : ∀ o, (wr.alloc o).cell? ⟨w.heap.size + 1 + 1, xa, none⟩ = some (.bool (D xa)) := fun o => (hmem1.out o).done.cell hxa
              clear oka
              have okb := OKB.out
              rw [HCe.out] at okb
              obtain ⟨b0, b1⟩ := okb (by show 1 < M.needs kd; rw [HND.out]; omega)
              simp only at b0 b1
              obtain ⟨xb, rfl⟩ := Int.eq_ofNat_of_zero_le b0
              have hxb : xb < n := by omega
              have db : ∀ o, (wr.alloc o).cell? ⟨w.heap.size + 1 + 1, xb, none⟩ = some (.bool (D xb)) := fun o => (hmem1.out o).done.cell hxb
              clear okb
              cases hda : D xa
              · rw [hda] at da
                have NOT : Hid (¬ (∀ j, Ed Ce n m j → D j = true)) := fun h => by
                  have := h xa ⟨hmt, Or.inl ⟨by rw [HCe.out]; show 0 < M.needs kd; rw [HND.out]; omega, by rw [HCe.out]⟩⟩
                  rw [hda] at this; cases this
                clear hda db
                go_wp2_with fail
                refine (rneeds_any _ _).mono ?_
                rintro e w1 ⟨rfl, rfl⟩
                rw [HND.out]
                go_wp2
                go_roundw
                case rel => exact ⟨m + 1, V, D, true, by omega, rfl, by go_num, hdone, hlv, CONT.out NOT.out, fun h => (by cases h), fun e => (hrn' e).elim, hmem1.out _⟩
                case measure => simp [intOf]; omega
              · cases hdb : D xb
                · rw [hdb] at db
                  rw [hda] at da
                  have NOT : Hid (¬ (∀ j, Ed Ce n m j → D j = true)) := fun h => by
                    have := h xb ⟨hmt, Or.inr (Or.inl ⟨by rw [HCe.out]; show 1 < M.needs kd; rw [HND.out]; omega, by rw [HCe.out]⟩)⟩
                    rw [hdb] at this; cases this
                  clear hdb hda
                  go_wp2_with fail
                  refine (rneeds_any _ _).mono ?_
                  rintro e w1 ⟨rfl, rfl⟩
                  rw [HND.out]
                  go_wp2
                  go_roundw
                  case rel => exact ⟨m + 1, V, D, true, by omega, rfl, by go_num, hdone, hlv, CONT.out NOT.out, fun h => (by cases h), fun e => (hrn' e).elim, hmem1.out _⟩
                  case measure => simp [intOf]; omega
                · have ALL : Hid (∀ j, Ed Ce n m j → D j = true) := by
                    intro j hj
                    rcases hj with ⟨_, ⟨_, e⟩ | ⟨_, e⟩ | ⟨p, _⟩⟩
                    · rw [HCe.out] at e
                      have : xa = j := by simp only at e; omega
                      rw [← this]; exact hda
                    · rw [HCe.out] at e
                      have : xb = j := by simp only at e; omega
                      rw [← this]; exact hdb
                    · rw [HCe.out] at p; simp only [HND.out] at p; omega
                  have hne : xa ≠ m := fun e => by subst e; rw [HDm.out] at hda; cases hda
                  have hne2 : xb ≠ m := fun e => by subst e; rw [HDm.out] at hdb; cases hdb
                  rw [hda] at da
                  rw [hdb] at db
                  clear hda hdb
                  go_wp2_with fail
                  refine (rneeds_any _ _).mono ?_
                  rintro e w1 ⟨rfl, rfl⟩
                  rw [HND.out]
                  go_wp2_with fail
                  have MK := hmemk.out (.cells #[.int .i64 kd, .int .i64 xa, .int .i64 xb, .int .i64 cc, .int .i64 ck] 77)
                  have CK : ∀ i, ((wr.setCell ⟨w.heap.size + 1 + 1, m, none⟩ (.bool true)).alloc (.cells #[.int .i64 kd, .int .i64 xa, .int .i64 xb, .int .i64 cc, .int .i64 ck] 77)).cell? ⟨wr.heap.size, i, none⟩ = (#[.int .i64 kd, .int .i64 xa, .int .i64 xb, .int .i64 cc, .int .i64 ck] : Array Value)[i]? := fun i => by
                    have := World.cell?_alloc_new (wr.setCell ⟨w.heap.size + 1 + 1, m, none⟩ (.bool true)) #[.int .i64 kd, .int .i64 xa, .int .i64 xb, .int .i64 cc, .int .i64 ck] 77 i
                    simpa using this
                  generalize (wr.setCell ⟨w.heap.size + 1 + 1, m, none⟩ (.bool true)).alloc (.cells #[.int .i64 kd, .int .i64 xa, .int .i64 xb, .int .i64 cc, .int .i64 ck] 77) = Wk at *
                  have q0 := CK 0
                  have q1 := CK 1
                  have q2 := CK 2
                  simp at q0 q1 q2
                  have va : Wk.cell? ⟨w.heap.size + 1, xa, none⟩ = some (.int .i64 (V xa)) := MK.vals.cell hxa
                  have vb : Wk.cell? ⟨w.heap.size + 1, xb, none⟩ = some (.int .i64 (V xb)) := MK.vals.cell hxb
                  have vz : Wk.cell? ⟨w.heap.size + 1, m, none⟩ = some (.int .i64 (V m)) := MK.vals.cell hmt
                  have vf : Wk.frozen? ⟨w.heap.size + 1, m, none⟩ = false := MK.vals.frozen m
                  have MKH : Hid _ := MK
                  obtain ⟨x1, x2⟩ := VALS.out xa hxa
                  obtain ⟨y1, y2⟩ := VALS.out xb hxb
                  clear CK MK f0 f1 f2 f3 g0 g1 g2 g3 g4 d0 df
                  have m0' : (0 : Int) ≤ (m : Int) := by omega
                  have m1' : (m : Int) < (n : Int) := by omega
                  go_region_held3 (fun w' => w'.cell? ⟨wr.heap.size, 0, none⟩ = some (.int .i64 kd) ∧ w'.cell? ⟨wr.heap.size, 1, none⟩ = some (.int .i64 xa) ∧ w'.cell? ⟨wr.heap.size, 2, none⟩ = some (.int .i64 xb) ∧ w'.cell? ⟨w.heap.size + 1, xa, none⟩ = some (.int .i64 (V xa)) ∧ w'.cell? ⟨w.heap.size + 1, xb, none⟩ = some (.int .i64 (V xb)))
                    ((refine ⟨?_, ?_, ?_, ?_, ?_⟩ <;> first | assumption | (refine cell_nb (by omega) ?_; assumption) | (refine cell_no (by omega) ?_; assumption)))
                    ((go_at_call 101; refine (sums_any kd (V xa) (V xb) _ cat1 cat2 x1 x2 y1 y2).mono ?_; rintro e w2 ⟨rfl, rfl⟩))
                  have MK2H : Hid _ := MKH.out.setVal m (M.two kd (V xa) (V xb))
                  have MK3H : Hid _ := MK2H.out.drew
                  have hdone' : Hid _ := STEP.out (M.two kd (V xa) (V xb)) ALL.out (by
                    rw [HCe.out]; simp only [if_neg (show ¬ kd = 0 by omega)]
                    rw [pk_nat hxa, pk_nat hxb]; exact crel2 cat1 cat2)
                  go_wp2
                  go_roundw
                  case rel => exact ⟨m + 1, upd V m (M.two kd (V xa) (V xb)), upd D m true, true, by omega, rfl, by go_num, hdone', LV1, LV2, fun h => (by cases h), fun e => (hrn' e).elim, MK3H⟩
                  case measure => simp [intOf]; omega
            · subst cat
              have hnd : M.needs 9 = 3 := by decide
              have HND : Hid _ := hnd
              clear hnd
              have oka := OKA.out
              rw [HCe.out] at oka
              obtain ⟨a0, a1⟩ := oka (by show 0 < M.needs 9; rw [HND.out]; omega)
              simp only at a0 a1
              obtain ⟨xa, rfl⟩ := Int.eq_ofNat_of_zero_le a0
              have hxa : xa < n := by omega
              have da : ∀ o, (wr.alloc o).cell? ⟨w.heap.size + 1 + 1, xa, none⟩ = some (.bool (D xa)) := fun o => (hmem1.out o).done.cell hxa
              clear oka
              have okb := OKB.out
              rw [HCe.out] at okb
              obtain ⟨b0, b1⟩ := okb (by show 1 < M.needs 9; rw [HND.out]; omega)
              simp only at b0 b1
              obtain ⟨xb, rfl⟩ := Int.eq_ofNat_of_zero_le b0
              have hxb : xb < n := by omega
              have db : ∀ o, (wr.alloc o).cell? ⟨w.heap.size + 1 + 1, xb, none⟩ = some (.bool (D xb)) := fun o => (hmem1.out o).done.cell hxb
              clear okb
              have okc := OKC.out
              rw [HCe.out] at okc
              obtain ⟨c0, c1⟩ := okc (by show 2 < M.needs 9; rw [HND.out]; omega)
              simp only at c0 c1
              obtain ⟨xc, rfl⟩ := Int.eq_ofNat_of_zero_le c0
              have hxc : xc < n := by omega
              have dc : ∀ o, (wr.alloc o).cell? ⟨w.heap.size + 1 + 1, xc, none⟩ = some (.bool (D xc)) := fun o => (hmem1.out o).done.cell hxc
              clear okc
              cases hda : D xa
              · rw [hda] at da
                have NOT : Hid (¬ (∀ j, Ed Ce n m j → D j = true)) := fun h => by
                  have := h xa ⟨hmt, Or.inl ⟨by rw [HCe.out]; show 0 < M.needs 9; rw [HND.out]; omega, by rw [HCe.out]⟩⟩
                  rw [hda] at this; cases this
                clear hda db dc
                go_wp2_with fail
                refine (rneeds_any _ _).mono ?_
                rintro e w1 ⟨rfl, rfl⟩
                rw [HND.out]
                go_wp2
                go_roundw
                case rel => exact ⟨m + 1, V, D, true, by omega, rfl, by go_num, hdone, hlv, CONT.out NOT.out, fun h => (by cases h), fun e => (hrn' e).elim, hmem1.out _⟩
                case measure => simp [intOf]; omega
              · cases hdb : D xb
                · rw [hdb] at db
                  rw [hda] at da
                  have NOT : Hid (¬ (∀ j, Ed Ce n m j → D j = true)) := fun h => by
                    have := h xb ⟨hmt, Or.inr (Or.inl ⟨by rw [HCe.out]; show 1 < M.needs 9; rw [HND.out]; omega, by rw [HCe.out]⟩)⟩
                    rw [hdb] at this; cases this
                  clear hdb hda dc
                  go_wp2_with fail
                  refine (rneeds_any _ _).mono ?_
                  rintro e w1 ⟨rfl, rfl⟩
                  rw [HND.out]
                  go_wp2
                  go_roundw
                  case rel => exact ⟨m + 1, V, D, true, by omega, rfl, by go_num, hdone, hlv, CONT.out NOT.out, fun h => (by cases h), fun e => (hrn' e).elim, hmem1.out _⟩
                  case measure => simp [intOf]; omega
                · cases hdc : D xc
                  · rw [hdc] at dc
                    rw [hda] at da
                    rw [hdb] at db
                    have NOT : Hid (¬ (∀ j, Ed Ce n m j → D j = true)) := fun h => by
                      have := h xc ⟨hmt, Or.inr (Or.inr ⟨by rw [HCe.out]; show 2 < M.needs 9; rw [HND.out]; omega, by rw [HCe.out]⟩)⟩
                      rw [hdc] at this; cases this
                    clear hdc hda hdb
                    go_wp2_with fail
                    refine (rneeds_any _ _).mono ?_
                    rintro e w1 ⟨rfl, rfl⟩
                    rw [HND.out]
                    go_wp2
                    go_roundw
                    case rel => exact ⟨m + 1, V, D, true, by omega, rfl, by go_num, hdone, hlv, CONT.out NOT.out, fun h => (by cases h), fun e => (hrn' e).elim, hmem1.out _⟩
                    case measure => simp [intOf]; omega
                  · have ALL : Hid (∀ j, Ed Ce n m j → D j = true) := by
                      intro j hj
                      rcases hj with ⟨_, ⟨_, e⟩ | ⟨_, e⟩ | ⟨_, e⟩⟩
                      · rw [HCe.out] at e
                        have : xa = j := by simp only at e; omega
                        rw [← this]; exact hda
                      · rw [HCe.out] at e
                        have : xb = j := by simp only at e; omega
                        rw [← this]; exact hdb
                      · rw [HCe.out] at e
                        have : xc = j := by simp only at e; omega
                        rw [← this]; exact hdc
                    have hne : xa ≠ m := fun e => by subst e; rw [HDm.out] at hda; cases hda
                    have hne2 : xb ≠ m := fun e => by subst e; rw [HDm.out] at hdb; cases hdb
                    rw [hda] at da
                    rw [hdb] at db
                    rw [hdc] at dc
                    clear hda hdb hdc
                    have p1 : ∀ o, ((wr.setCell ⟨w.heap.size + 1 + 1, m, none⟩ (.bool true)).alloc o).cell? ⟨w.heap.size + 1, m, none⟩ = some (.int .i64 (V m)) := fun o => (hmemk.out o).vals.cell hmt
                    have p2 : ∀ o, ((wr.setCell ⟨w.heap.size + 1 + 1, m, none⟩ (.bool true)).alloc o).frozen? ⟨w.heap.size + 1, m, none⟩ = false := fun o => (hmemk.out o).vals.frozen m
                    have p3 : ∀ o v, (((wr.setCell ⟨w.heap.size + 1 + 1, m, none⟩ (.bool true)).alloc o).setCell ⟨w.heap.size + 1, m, none⟩ (.int .i64 v)).cell? ⟨w.heap.size + 1, m, none⟩ = some (.int .i64 v) := fun o v => by
                      have := (hmemk2.out o v).vals.cell hmt
                      rw [upd_same] at this; exact this
                    have p4 : ∀ o v, (((wr.setCell ⟨w.heap.size + 1 + 1, m, none⟩ (.bool true)).alloc o).setCell ⟨w.heap.size + 1, m, none⟩ (.int .i64 v)).frozen? ⟨w.heap.size + 1, m, none⟩ = false := fun o v => (hmemk2.out o v).vals.frozen m
                    have p5 : ∀ o, ((wr.setCell ⟨w.heap.size + 1 + 1, m, none⟩ (.bool true)).alloc o).cell? ⟨w.heap.size + 1, xc, none⟩ = some (.int .i64 (V xc)) := fun o => (hmemk.out o).vals.cell hxc
                    have p6 : ∀ o v, (((wr.setCell ⟨w.heap.size + 1 + 1, m, none⟩ (.bool true)).alloc o).setCell ⟨w.heap.size + 1, m, none⟩ (.int .i64 v)).cell? ⟨w.heap.size + 1, xa, none⟩ = some (.int .i64 (V xa)) := fun o v => by
                      have := (hmemk2.out o v).vals.cell hxa
                      rw [upd_other _ _ hne] at this; exact this
                    have p7 : ∀ o v, (((wr.setCell ⟨w.heap.size + 1 + 1, m, none⟩ (.bool true)).alloc o).setCell ⟨w.heap.size + 1, m, none⟩ (.int .i64 v)).cell? ⟨w.heap.size + 1, xb, none⟩ = some (.int .i64 (V xb)) := fun o v => by
                      have := (hmemk2.out o v).vals.cell hxb
                      rw [upd_other _ _ hne2] at this; exact this
                    by_cases c0 : V xa = 0
                    · have t9 : (V xa != 0) = false := by simp [c0]
                      have hdone' : Hid _ := STEP.out (V xc) ALL.out (by
                        rw [HCe.out]; exact crel9 (by rw [pk_nat hxa, pk_nat hxb, pk_nat hxc, if_pos c0]))
                      clear c0
                      go_wp2_with fail
                      refine (rneeds_any _ _).mono ?_
                      rintro e w1 ⟨rfl, rfl⟩
                      rw [HND.out]
                      go_wp2
                      go_roundw
                      case rel => exact ⟨m + 1, upd V m (V xc), upd D m true, true, by omega, rfl, by go_num, hdone', LV1, LV2, fun h => (by cases h), fun e => (hrn' e).elim, hmemk2.out _ _⟩
                      case measure => simp [intOf]; omega
                    · have t9 : (V xa != 0) = true := by simp [c0]
                      have hdone' : Hid _ := STEP.out (V xb) ALL.out (by
                        rw [HCe.out]; exact crel9 (by rw [pk_nat hxa, pk_nat hxb, pk_nat hxc, if_neg c0]))
                      clear c0
                      go_wp2_with fail
                      refine (rneeds_any _ _).mono ?_
                      rintro e w1 ⟨rfl, rfl⟩
                      rw [HND.out]
                      go_wp2
                      go_roundw
                      case rel => exact ⟨m + 1, upd V m (V xb), upd D m true, true, by omega, rfl, by go_num, hdone', LV1, LV2, fun h => (by cases h), fun e => (hrn' e).elim, hmemk3.out _ _ _⟩
                      case measure => simp [intOf]; omega
          · rw [hd] at d0
            have HDm : Hid _ := hd
            clear hd
            go_wp2
            go_roundw
            case rel => exact ⟨m + 1, V, D, b, by omega, rfl, by go_num, hdone, hlv, fun i hi hl => by
              by_cases e : i = m
              · subst e; exact HDm.out
              · exact hlv2.out i (by omega) hl, fun hb i hi => by
              by_cases e : i = m
              · subst e; exact HDm.out
              · exact hall.out hb i (by omega), hlast, hmem⟩
            case measure => simp [intOf]; omega
        · obtain rfl : m = n := by omega
          go_wp2
          go_roundg (gk - 1)
          case rel => exact ⟨r + 1, V, D, b, by omega, rfl, hdone, fun i hi hl => hlv2.out i (by omega) hl, hall, fun e => hlast.out (by omega), hmem⟩
          case measure => omega

end Go.Proofs.YtcondcffllaaoaaGreatDoor
