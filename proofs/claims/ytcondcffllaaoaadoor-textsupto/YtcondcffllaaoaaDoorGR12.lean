/-
  THE WALKS: the document's Parse.
-/
import Derived.Test.YtcondcffllaaoaaDoorGR10
import Derived.Deep.RegionLaw
set_option linter.unusedVariables false
set_option linter.unusedSimpArgs false
namespace Go.Proofs.YtcondcffllaaoaaDoor
open Go.RowKit
open Go.Lib (itoa decDigits nDigits)
attribute [local go_sem ↓] Go.wp_at_zero Go.wp_at_succ

/-- What the document's Parse answers of a text. -/
def RpP (f : Frm) (w : World) (e : Ending) (w' : World) : Prop :=
  ∃ a n : Int, f.Rel a n ∧ Below w.heap.size w w' ∧ ((a = 0 ∧ ∃ aC cC aR cR aH cH, e = .returned (.tuple #[.agg #[.slice aC f.n cC, .slice aR f.k cR, .int .i64 f.week, .slice aH f.hol.length cH], .int .i64 0, .int .i64 0]) ∧ FHeld w.heap.size w' f aC aR aH cH) ∨ (a ≠ 0 ∧ e = .returned (.tuple #[.agg #[.slice none 0 0, .slice none 0 0, .int .i64 0, .slice none 0 0], .int .i64 a, .int .i64 n])))

theorem line_split {s : ByteArray} {i : Nat} {c : UInt8} {L : List Int} {R : List UInt8} (h : rest s i = lineT c L ++ R) (hi : i ≤ s.size) : ∃ k', R = rest s k' ∧ k' ≤ s.size ∧ i < k' ∧ rest s i = c :: (numsT L ++ 10 :: rest s k') ∧ ∃ hl : i < s.size, s[i] = c := by
  obtain ⟨e1, e2⟩ := rest_split h hi
  have := lineT_len c L
  have hl : i < s.size := by omega
  refine ⟨_, e1, e2, by omega, ?_, hl, ?_⟩
  · rw [← e1, h]; unfold lineT; simp
  · rw [rest_cons hl] at h
    unfold lineT at h
    exact (List.cons.inj h).1

/-- Where the document's Parse stands. -/
def PS (s : ByteArray) (f : Frm) (w : World) (bf i : Nat) (wr : World) : Prop :=
  (i = 0 ∧ Below w.heap.size w wr ∧ wr.rowIs w.heap.size 26 4 (f4 (.slice none 0 0) (.slice none 0 0) (.int .i64 0) (.slice none 0 0)) ∧ wr.rowIs bf 26 4 (f4 (.slice none 0 0) (.slice none 0 0) (.int .i64 0) (.slice none 0 0)) ∧ w.heap.size < bf) ∨
  (∃ ci ri vC vR vH sv, ci ≤ f.n ∧ ri ≤ f.k ∧ (0 < ri → ci = f.n) ∧ RW w bf f ci ri vC vR vH sv wr ∧ rest s i = csT (f.doc.cs.drop ci) ++ rsT (f.doc.rs.drop ri))

theorem cs_drop (f : Frm) {i : Nat} (h : i < f.n) : f.doc.cs.drop i = celL (f.C i) :: f.doc.cs.drop (i + 1) := by
  show ((List.range f.n).map (fun i => celL (f.C i))).drop i = _ :: ((List.range f.n).map (fun i => celL (f.C i))).drop (i + 1)
  rw [List.drop_eq_getElem_cons (by simpa using h)]
  simp
theorem rs_drop (f : Frm) {i : Nat} (h : i < f.k) : f.doc.rs.drop i = rulL (f.R i) :: f.doc.rs.drop (i + 1) := by
  show ((List.range f.k).map (fun i => rulL (f.R i))).drop i = _ :: ((List.range f.k).map (fun i => rulL (f.R i))).drop (i + 1)
  rw [List.drop_eq_getElem_cons (by simpa using h)]
  simp
theorem cs_end (f : Frm) {i : Nat} (h : f.n ≤ i) : f.doc.cs.drop i = [] := List.drop_eq_nil_of_le (by simpa [Frm.doc] using h)
theorem rs_end (f : Frm) {i : Nat} (h : f.k ≤ i) : f.doc.rs.drop i = [] := List.drop_eq_nil_of_le (by simpa [Frm.doc] using h)

set_option maxRecDepth 100000 in
set_option maxHeartbeats 4000000 in
theorem rparse_text {s : ByteArray} {f : Frm} {w : World} (hs : s.size ≤ 1000000000) (ht : f.Txt) (he : s.data.toList = f.doc.text) :
    Calls Tryd.prog 12 #[.string s] w fun e w' => RpP f w e w' := by
  obtain ⟨i76, y1, y2⟩ := Option.map_eq_some_iff.1 info76
  obtain ⟨i80, y5, y6⟩ := Option.map_eq_some_iff.1 info80
  simp only [Prod.mk.injEq] at y2 y6
  have I76 := hid y1
  have Z76 := hid y2
  have I80 := hid y5
  have Z80 := hid y6
  clear y1 y2 y5 y6
  have B0 : Hid (Below w.heap.size w (w.alloc (.cells #[.slice none 0 0, .slice none 0 0, .int .i64 0, .slice none 0 0] 26))) := (Below.refl _ _).alloc (Nat.le_refl _) _
  have RW0 : Hid ((w.alloc (.cells #[.slice none 0 0, .slice none 0 0, .int .i64 0, .slice none 0 0] 26)).rowIs w.heap.size 26 4 (f4 (.slice none 0 0) (.slice none 0 0) (.int .i64 0) (.slice none 0 0))) := World.rowIs_alloc w #[.slice none 0 0, .slice none 0 0, .int .i64 0, .slice none 0 0] 26 _ (fun i hi => by
    have : i = 0 ∨ i = 1 ∨ i = 2 ∨ i = 3 := by simp at hi; omega
    rcases this with rfl | rfl | rfl | rfl <;> rfl)
  have HT := hid ht
  have E0 : Hid (rest s 0 = lineT 119 (f.week :: f.hol) ++ (csT f.doc.cs ++ rsT f.doc.rs)) := by
    show _ = _
    rw [rest_zero, he]
    rfl
  have PL := hid (place_any s (w.alloc (.cells #[.slice none 0 0, .slice none 0 0, .int .i64 0, .slice none 0 0] 26)) hs)
  rw [he, Doc.pl ht.ok] at PL
  have FEW : Hid (f.n ≤ 1000000000 ∧ f.k ≤ 1000000000 ∧ f.hol.length ≤ 1000000000 ∧ ∀ i, i < f.k → (f.R i).steps.length ≤ 1000000000) := by
    have := f.few
    have e : f.doc.text.length = s.size := by rw [← he]; rfl
    rw [e] at this
    exact ⟨by omega, by omega, by omega, fun i hi => by have := this.2.2.2 i hi; omega⟩
  clear ht he
  go_enter Tryd.func12, Tryd.ntmps12
  go_wp2_with fail
  refine PL.out.mono ?_
  rintro e w1 ⟨rfl, b1⟩
  rw [show plI none = -1 from rfl]
  have PS0 : Hid (PS s f w w1.heap.size 0 (w1.alloc (.cells #[.slice none 0 0, .slice none 0 0, .int .i64 0, .slice none 0 0] 26))) := by
    have r1 := RW0.out.of_block (b1.block _ RW0.out.lt)
    have ba : Below w1.heap.size w1 (w1.alloc (.cells #[.slice none 0 0, .slice none 0 0, .int .i64 0, .slice none 0 0] 26)) := (Below.refl _ _).alloc (Nat.le_refl _) _
    have bw : Below w.heap.size w w1 := B0.out.trans (b1.mono (by simp))
    refine Or.inl ⟨rfl, bw.trans (ba.mono bw.size), r1.of_block (ba.block _ r1.lt), ?_, r1.lt⟩
    exact World.rowIs_alloc w1 #[.slice none 0 0, .slice none 0 0, .int .i64 0, .slice none 0 0] 26 _ (fun i hi => by
      have : i = 0 ∨ i = 1 ∨ i = 2 ∨ i = 3 := by simp at hi; omega
      rcases this with rfl | rfl | rfl | rfl <;> rfl)
  obtain ⟨bf, hbf⟩ : ∃ b, w1.heap.size = b := ⟨_, rfl⟩
  clear b1 PL B0 RW0
  go_wp2_with fail
  rw [hbf] at PS0
  clear hbf
  generalize w1.alloc (.cells #[.slice none 0 0, .slice none 0 0, .int .i64 0, .slice none 0 0] 26) = wa at *
  clear w1
  go_loopw [7] (fun ti wr => ∃ i : Nat, ti = .int .i64 i ∧ i ≤ s.size ∧ Hid (PS s f w bf i wr)) (fun ti _ => s.size - (intOf ti).toNat)
  case atStart => exact ⟨0, by go_num, by omega, PS0⟩
  case round =>
    clear PS0
    obtain ⟨i, rfl, hi, hP⟩ := hrel
    by_cases hil : i < s.size
    · rcases hP.out with ⟨rfl, lw, rs, rb, hbf⟩ | ⟨ci, ri, vC, vR, vH, sv, hci, hri, hcr, rw5, er⟩
      · obtain ⟨k', ek, hk', hlt, er, hl0, es⟩ := line_split E0.out hi
        have NU := hid (rnumbers_cons (w := wr) hs er hk' HT.out.ok.w.2)
        obtain ⟨bt, hbt⟩ : ∃ b, s[0].toNat = b := ⟨_, rfl⟩
        obtain rfl : bt = 119 := by rw [← hbt, es]; rfl
        have ST : Hid (Below w.heap.size w wr ∧ wr.rowIs w.heap.size 26 4 (f4 (.slice none 0 0) (.slice none 0 0) (.int .i64 0) (.slice none 0 0)) ∧ wr.rowIs bf 26 4 (f4 (.slice none 0 0) (.slice none 0 0) (.int .i64 0) (.slice none 0 0)) ∧ rest s k' = csT f.doc.cs ++ rsT f.doc.rs) := ⟨lw, rs, rb, ek.symm⟩
        clear hP lw rs rb ek er es E0
        go_wp2_with fail
        refine NU.out.mono ?_
        rintro e w2 ⟨g, cap, rfl, hcap, own, b2⟩
        have u0 : w2.cell? ⟨g, 0, none⟩ = some (.int .i64 f.week) := by rw [own_cellG own (by omega)]; rfl
        have zg : g < w2.heap.size := own_ltT own rfl
        have gB : wr.heap.size ≤ g := own_base own rfl
        have rb2 := ST.out.2.2.1.of_block (b2.block _ ST.out.2.2.1.lt)
        have rs2 := ST.out.2.1.of_block (b2.block _ ST.out.2.1.lt)
        have zbf : bf < wr.heap.size := ST.out.2.2.1.lt
        have zb2 : bf < w2.heap.size := rb2.lt
        have d2 : w2.cell? ⟨bf, 2, none⟩ = some (.int .i64 0) := rb2.cell (i := 2) (by omega)
        have d3 : w2.cell? ⟨bf, 3, none⟩ = some (.slice none 0 0) := rb2.cell (i := 3) (by omega)
        have fz : ∀ j, w2.frozen? ⟨bf, j, none⟩ = false := fun j => rb2.frozen j
        have P1 : Hid (PS s f w bf k' ((w2.setCell ⟨bf, 2, none⟩ (.int .i64 f.week)).setCell ⟨bf, 3, none⟩ (.slice (if cap = 1 then some ⟨g, 0, none⟩ else some ⟨g, 1, none⟩) f.hol.length (cap - 1)))) := by
          have lw2 : Below w.heap.size w w2 := ST.out.1.trans (b2.mono ST.out.1.size)
          have own' : w2.ownsRow (w.heap.size + 1) 3 1 (.slice (some ⟨g, 0, none⟩) (f.hol.length + 1) cap) (f.hol.length + 1) (ints (f.week :: f.hol)) := own_monoL own (by omega)
          have lh : LH (w.heap.size + 1) w2 (.slice (if cap = 1 then some ⟨g, 0, none⟩ else some ⟨g, 1, none⟩) f.hol.length (cap - 1)) f.week f.hol := ⟨g, cap, rfl, hcap, own'⟩
          have rb3 := rb2.set 2 (.int .i64 f.week)
          refine Or.inr ⟨0, 0, .slice none 0 0, .slice none 0 0, .slice (if cap = 1 then some ⟨g, 0, none⟩ else some ⟨g, 1, none⟩) f.hol.length (cap - 1), fun _ => .slice none 0 0, by omega, by omega, fun h => by omega, ⟨own_nil _ _ _ _, own_nil _ _ _ _, (lh.set rb2 _ _).set rb3 _ _, fun i hi => by omega, (lw2.setCell (by show _ ≤ bf; omega) _).setCell (by show _ ≤ bf; omega) _, (rs2.setOther (by show _ ≠ bf; omega) _).setOther (by show _ ≠ bf; omega) _, (rb3.set 3 _).congr (fun j hj => ?_), hbf⟩, ST.out.2.2.2⟩
          have : j = 0 ∨ j = 1 ∨ j = 2 ∨ j = 3 := by omega
          rcases this with rfl | rfl | rfl | rfl <;> rfl
        clear own b2 rb2 rs2 ST NU
        go_wp2
        go_roundw
        case rel => exact ⟨k', rfl, hk', P1⟩
        case measure => simp [intOf]; omega
      · by_cases hc : ci < f.n
        · obtain rfl : ri = 0 := by
            rcases Nat.eq_zero_or_pos ri with h | h
            · exact h
            · have := hcr h; omega
          have er' : rest s i = lineT 99 (celL (f.C ci)) ++ (csT (f.doc.cs.drop (ci + 1)) ++ rsT (f.doc.rs.drop 0)) := by
            rw [er, cs_drop f hc]
            unfold csT
            rw [List.flatMap_cons]
            simp
          obtain ⟨k', ek, hk', hlt, er2, hl0, es⟩ := line_split er' hi
          have NUM : ∀ y ∈ (f.C ci).kind :: nmL (f.C ci), N10 y := by
            obtain ⟨kd, t, e1, q0, q1, _, q2⟩ := HT.out.ok.cs (celL (f.C ci)) (List.mem_map.2 ⟨ci, List.mem_range.2 hc, rfl⟩)
            obtain ⟨e2, e3⟩ := List.cons.inj e1
            intro y hy
            rcases List.mem_cons.1 hy with rfl | hy
            · rw [e2]; unfold N10; omega
            · exact q2 y (by rw [← e3]; exact hy)
          have NU := hid (rnumbers_cons (w := wr) hs er2 hk' NUM)
          have BR := hid (HT.out.bare ci hc)
          obtain ⟨bt, hbt⟩ : ∃ b, s[i].toNat = b := ⟨_, rfl⟩
          obtain rfl : bt = 99 := by rw [← hbt, es]; rfl
          have R0 := hid rw5
          have EK := hid ek
          have fn := FEW.out.1
          clear hP rw5 er er' er2 es ek NUM hcr
          go_wp2_with fail
          refine NU.out.mono ?_
          rintro e w2 ⟨g, cap, rfl, hcap, own, b2⟩
          have R2 := hid (R0.out.below b2)
          have WR := hid (written_any (a := some ⟨g, 0, none⟩) (n := (nmL (f.C ci)).length + 1) (cap := cap) (w := w2) BR.out (by simp [celL]) (own_to_ints own (by simp [celL]) rfl))
          clear own b2 NU R0
          go_wp2_with fail
          refine WR.out.mono ?_
          rintro e w3 ⟨rfl, b3⟩
          have B4 : Below w3.heap.size w3 (w3.alloc (.cells #[.int .i64 (f.C ci).kind, .int .i64 (f.C ci).a, .int .i64 (f.C ci).b, .int .i64 (f.C ci).c, .int .i64 (f.C ci).k] 46)) := (Below.refl _ _).alloc (Nat.le_refl _) _
          have R4 := hid ((R2.out.below b3).below B4)
          have y0 : (w3.alloc (.cells #[.int .i64 (f.C ci).kind, .int .i64 (f.C ci).a, .int .i64 (f.C ci).b, .int .i64 (f.C ci).c, .int .i64 (f.C ci).k] 46)).cell? ⟨w3.heap.size, 0, none⟩ = some (.int .i64 (f.C ci).kind) := by simp
          have y1 : (w3.alloc (.cells #[.int .i64 (f.C ci).kind, .int .i64 (f.C ci).a, .int .i64 (f.C ci).b, .int .i64 (f.C ci).c, .int .i64 (f.C ci).k] 46)).cell? ⟨w3.heap.size, 1, none⟩ = some (.int .i64 (f.C ci).a) := by simp
          have y2 : (w3.alloc (.cells #[.int .i64 (f.C ci).kind, .int .i64 (f.C ci).a, .int .i64 (f.C ci).b, .int .i64 (f.C ci).c, .int .i64 (f.C ci).k] 46)).cell? ⟨w3.heap.size, 2, none⟩ = some (.int .i64 (f.C ci).b) := by simp
          have y3 : (w3.alloc (.cells #[.int .i64 (f.C ci).kind, .int .i64 (f.C ci).a, .int .i64 (f.C ci).b, .int .i64 (f.C ci).c, .int .i64 (f.C ci).k] 46)).cell? ⟨w3.heap.size, 3, none⟩ = some (.int .i64 (f.C ci).c) := by simp
          have y4 : (w3.alloc (.cells #[.int .i64 (f.C ci).kind, .int .i64 (f.C ci).a, .int .i64 (f.C ci).b, .int .i64 (f.C ci).c, .int .i64 (f.C ci).k] 46)).cell? ⟨w3.heap.size, 4, none⟩ = some (.int .i64 (f.C ci).k) := by simp
          obtain ⟨bx, hbx⟩ : ∃ b, w3.heap.size = b := ⟨_, rfl⟩
          clear b3 WR R2 B4
          go_upto_region 15 with (fail)
          rw [hbx] at y0 y1 y2 y3 y4
          clear hbx
          generalize w3.alloc (.cells #[.int .i64 (f.C ci).kind, .int .i64 (f.C ci).a, .int .i64 (f.C ci).b, .int .i64 (f.C ci).c, .int .i64 (f.C ci).k] 46) = w4 at *
          clear w3
          have d0 : w4.cell? ⟨bf, 0, none⟩ = some vC := R4.out.box.cell (i := 0) (by omega)
          have d9 := R4.out.box.frozen 0
          have zf := R4.out.box.lt
          have zw : w.heap.size < w4.heap.size := by have := R4.out.bf; omega
          go_wp2_with (at_builtin; refine wpList_append_lies _ rfl (.tmp 57) (.tmp 59) 22 rfl (w.heap.size + 1) 46 i76 _ 5 40 Tryd.underlying22 I76.out Z76.out.1 Z76.out.2.1 Z76.out.2.2 rfl (by omega) vC ci (cells5 f.C ci) (by rfl) (own_alloc0 R4.out.cells _) ⟨w4.heap.size, 0, none⟩ 1 1 [.int .i64 (f.C ci).kind, .int .i64 (f.C ci).a, .int .i64 (f.C ci).b, .int .i64 (f.C ci).c, .int .i64 (f.C ci).k] (by rfl) (by rfl) (news5k _ _ _ _ _ _ _ rfl) (by simp [Value.oneCell']) (by omega) (by unfold maxLen; omega) (by omega) (by simp; omega) (w4.heap.size + 1) (by simp) ?_; intro g5 cap5 w6 hown2 hgrow hat hlt5; refine stopH ?_)
          have N1 : Hid (PS s f w bf k' (w6.setCell ⟨bf, 0, none⟩ (.slice (some ⟨g5, 0, none⟩) (ci + 1) cap5))) := Or.inr ⟨ci + 1, 0, _, _, _, _, by omega, by omega, fun h => by omega, R4.out.addC hown2 hgrow, EK.out.symm⟩
          have hbk : w6.heap[bf]? = w4.heap[bf]? := ev_far0 w4 _ hgrow zf (own_ne_row R4.out.cells R4.out.box (by decide))
          have e8 : w6.cell? ⟨bf, 0, none⟩ = some vC := by rw [World.cell?_of_block (w := w4) hbk]; exact d0
          have e9 : w6.frozen? ⟨bf, 0, none⟩ = false := by rw [World.frozen?_of_block (w := w4) hbk]; exact d9
          have s6 := hgrow.size
          simp at s6
          have z6 : bf < w6.heap.size := by omega
          clear hown2 hgrow hat hlt5 hbk d0 d9 y0 y1 y2 y3 y4 R4 EK
          refine hid ?_
          go_wp2
          go_roundw
          case rel => exact ⟨k', rfl, hk', N1⟩
          case measure => simp [intOf]; omega
        · obtain rfl : ci = f.n := by omega
          have hr : ri < f.k := by
            rcases Nat.lt_or_ge ri f.k with h | h
            · exact h
            · exfalso
              rw [cs_end f (Nat.le_refl _), rs_end f h] at er
              have := congrArg List.length er
              rw [rest_len] at this
              simp [csT, rsT] at this
              omega
          have er' : rest s i = lineT 114 (rulL (f.R ri)) ++ (csT (f.doc.cs.drop f.n) ++ rsT (f.doc.rs.drop (ri + 1))) := by
            rw [er, cs_end f (Nat.le_refl _), rs_drop f hr]
            unfold rsT csT
            rw [List.flatMap_cons]
            simp
          obtain ⟨k', ek, hk', hlt, er2, hl0, es⟩ := line_split er' hi
          have NUM : ∀ y ∈ (f.R ri).guard :: (f.R ri).steps, N10 y := (HT.out.ok.rs (rulL (f.R ri)) (List.mem_map.2 ⟨ri, List.mem_range.2 hr, rfl⟩)).2
          have NU := hid (rnumbers_cons (w := wr) hs er2 hk' NUM)
          obtain ⟨bt, hbt⟩ : ∃ b, s[i].toNat = b := ⟨_, rfl⟩
          obtain rfl : bt = 114 := by rw [← hbt, es]; rfl
          have R0 := hid rw5
          have EK := hid ek
          have fk := FEW.out.2.1
          clear hP rw5 er er' er2 es ek NUM hcr hc
          go_wp2_with fail
          refine NU.out.mono ?_
          rintro e w5 ⟨g, cap, rfl, hcap, own, b2⟩
          have K4 := hid (R0.out.below b2)
          have gB : wr.heap.size ≤ g := own_base own rfl
          have LHU : Hid (LH (w.heap.size + 1) w5 (.slice (if cap = 1 then some ⟨g, 0, none⟩ else some ⟨g, 1, none⟩) (f.R ri).steps.length (cap - 1)) (f.R ri).guard (f.R ri).steps) := ⟨g, cap, rfl, hcap, own_monoL own (by have := R0.out.box.lt; have := R0.out.bf; omega)⟩
          have u0 : w5.cell? ⟨g, 0, none⟩ = some (.int .i64 (f.R ri).guard) := by rw [own_cellG own (by omega)]; rfl
          have zg : g < w5.heap.size := own_ltT own rfl
          have d1 : w5.cell? ⟨bf, 1, none⟩ = some vR := K4.out.box.cell (i := 1) (by omega)
          have d9 := K4.out.box.frozen 1
          have z5 := K4.out.box.lt
          have zw : w.heap.size < w5.heap.size := by have := K4.out.bf; omega
          have gbf : bf < wr.heap.size := R0.out.box.lt
          have NE : Hid (vR.ownBlock ≠ some bf) := own_ne_row K4.out.rules K4.out.box (by decide)
          have NG : Hid (vR.ownBlock ≠ some g) := by
            obtain ⟨cur, hcur⟩ := own_type own rfl
            exact own_not_int K4.out.rules (by decide) hcur
          have ADD : Hid (∀ v' o w6, w6.ownsRow (w.heap.size + 1) 44 2 v' (ri + 1) (rules2 f.R sv ri ++ [.int .i64 (f.R ri).guard, .slice (if cap = 1 then some ⟨g, 0, none⟩ else some ⟨g, 1, none⟩) (f.R ri).steps.length (cap - 1)]) → ((w5.alloc o).drew).grownBy w6 vR.ownBlock → PS s f w bf k' (w6.setCell ⟨bf, 1, none⟩ v')) := fun v' o w6 h1 h2 =>
            Or.inr ⟨f.n, ri + 1, _, _, _, _, Nat.le_refl _, by omega, fun _ => rfl, K4.out.addR LHU.out h1 h2, EK.out.symm⟩
          obtain ⟨asl, hasl⟩ : ∃ x, (if cap = 1 then some (⟨g, 0, none⟩ : Addr) else some ⟨g, 1, none⟩) = x := ⟨_, rfl⟩
          obtain ⟨gj, hgj⟩ : ∃ x, (f.R ri).guard = x := ⟨_, rfl⟩
          obtain ⟨sl, hsl⟩ : ∃ x, (f.R ri).steps.length = x := ⟨_, rfl⟩
          rw [hasl] at ADD
          rw [hgj] at ADD u0
          rw [hsl] at ADD
          have K5 := hid K4.out.rules
          clear own b2 NU R0 LHU EK hgj
          rw [hsl] at hcap ⊢
          clear hsl K4
          have lt1 : (1 : Int) ≤ (sl : Int) + 1 := by omega
          go_upto_region 9 with (fail)
          go_region_law (first | (refine step_append_lies _ rfl (.tmp 33) (.tmp 40) 23 rfl (w.heap.size + 1) 44 i80 _ 2 32 Tryd.underlying23 I80.out Z80.out.1 Z80.out.2.1 Z80.out.2.2 rfl (by omega) vR ri (rules2 f.R sv ri) (by simp [Act.eval, Act.put]) (by exact own_alloc_drew K5.out _) ⟨w5.heap.size, 0, none⟩ 1 1 [.int .i64 gj, .slice asl sl (cap - 1)] (by simp [Act.eval, Act.put]) (by rfl) (by exact news2 _ _ _ _) (by simp [Value.oneCell']) (by omega) (by unfold maxLen; omega) (by omega) (by simp; omega) (w5.heap.size + 1) (by simp) ?_; intro g6 cap6 w6 hown2 hgrow hat hlt6; have hbk : w6.heap[bf]? = w5.heap[bf]? := ev_far w5 _ hgrow z5 NE.out; have e8 : w6.cell? ⟨bf, 1, none⟩ = some vR := (by rw [World.cell?_of_block (w := w5) hbk]; exact d1); have e9 : w6.frozen? ⟨bf, 1, none⟩ = false := (by rw [World.frozen?_of_block (w := w5) hbk]; exact d9); have k2 : w6.cell? ⟨g, 0, none⟩ = some (.int .i64 gj) := (by rw [World.cell?_of_block (w := w5) (show w6.heap[g]? = w5.heap[g]? from ev_far w5 _ hgrow zg NG.out)]; exact u0); have s6 := hgrow.size) | fail)
          all_goals (
            have N1 := hid (ADD.out _ _ _ hown2 hgrow)
            simp at s6
            have z6 : bf < w6.heap.size := by omega
            clear hbk hown2 hgrow hat hlt6 K5 d1 d9 e8 e9 k2 u0 ADD
            go_wp2
            go_roundw
            case rel => exact ⟨k', rfl, hk', N1⟩
            case measure => simp [intOf]; omega)
    · obtain ⟨vC, vR, vH, sv, rw5⟩ : ∃ vC vR vH sv, RW w bf f f.n f.k vC vR vH sv wr := by
        rcases hP.out with ⟨rfl, _⟩ | ⟨ci, ri, vC, vR, vH, sv, hci, hri, hcr, rw5, er⟩
        · exfalso
          have := congrArg List.length E0.out
          rw [List.length_append, rest_len] at this
          have := lineT_len 119 (f.week :: f.hol)
          omega
        · rw [rest_nil (by omega)] at er
          obtain ⟨e1, e2⟩ := List.append_eq_nil_iff.1 er.symm
          have hc : ci = f.n := by
            rcases Nat.lt_or_ge ci f.n with h | h
            · exfalso
              rw [cs_drop f h] at e1
              unfold csT at e1
              rw [List.flatMap_cons] at e1
              cases e1
            · omega
          have hr : ri = f.k := by
            rcases Nat.lt_or_ge ri f.k with h | h
            · exfalso
              rw [rs_drop f h] at e2
              unfold rsT at e2
              rw [List.flatMap_cons] at e2
              cases e2
            · omega
          subst hc hr
          exact ⟨vC, vR, vH, sv, rw5⟩
      obtain ⟨aC, cC, aR, cR, aH, cH, rfl, rfl, rfl, held⟩ := rw5.held FEW.out.2.2.2
      obtain ⟨h1, h2, h3⟩ := held wr (Nat.le_refl _) (fun _ _ _ => rfl)
      have CK := hid (check_any f.C f.R f.hol aC aR aH f.n cC f.k cR cH f.week wr FEW.out.1 FEW.out.2.1 FEW.out.2.2.1 h1 h2 h3)
      have d0 : wr.cell? ⟨bf, 0, none⟩ = some (.slice aC f.n cC) := rw5.box.cell (i := 0) (by omega)
      have d1 : wr.cell? ⟨bf, 1, none⟩ = some (.slice aR f.k cR) := rw5.box.cell (i := 1) (by omega)
      have d2 : wr.cell? ⟨bf, 2, none⟩ = some (.int .i64 f.week) := rw5.box.cell (i := 2) (by omega)
      have d3 : wr.cell? ⟨bf, 3, none⟩ = some (.slice aH f.hol.length cH) := rw5.box.cell (i := 3) (by omega)
      have HD := hid held
      have R0 := hid rw5
      have zbf := rw5.box.lt
      clear hP rw5 held h1 h2 h3 E0
      go_wp2_with fail
      refine CK.out.mono ?_
      rintro e w2 ⟨a, n, rfl, rel, b2⟩
      have R2 := hid (R0.out.below b2)
      have x0 : w2.cell? ⟨bf, 0, none⟩ = some (.slice aC f.n cC) := R2.out.box.cell (i := 0) (by omega)
      have x1 : w2.cell? ⟨bf, 1, none⟩ = some (.slice aR f.k cR) := R2.out.box.cell (i := 1) (by omega)
      have x2 : w2.cell? ⟨bf, 2, none⟩ = some (.int .i64 f.week) := R2.out.box.cell (i := 2) (by omega)
      have x3 : w2.cell? ⟨bf, 3, none⟩ = some (.slice aH f.hol.length cH) := R2.out.box.cell (i := 3) (by omega)
      have z0 : w2.cell? ⟨w.heap.size, 0, none⟩ = some (.slice none 0 0) := R2.out.res.cell (i := 0) (by omega)
      have z1 : w2.cell? ⟨w.heap.size, 1, none⟩ = some (.slice none 0 0) := R2.out.res.cell (i := 1) (by omega)
      have z2 : w2.cell? ⟨w.heap.size, 2, none⟩ = some (.int .i64 0) := R2.out.res.cell (i := 2) (by omega)
      have z3 : w2.cell? ⟨w.heap.size, 3, none⟩ = some (.slice none 0 0) := R2.out.res.cell (i := 3) (by omega)
      have fz : ∀ j, w2.frozen? ⟨w.heap.size, j, none⟩ = false := fun j => R2.out.res.frozen j
      have zz := R2.out.res.lt
      have zb2 := R2.out.box.lt
      have hbf := R2.out.bf
      by_cases ha : a = 0
      · subst ha
        have R : Hid (RpP f w (.returned (.tuple #[.agg #[.slice aC f.n cC, .slice aR f.k cR, .int .i64 f.week, .slice aH f.hol.length cH], .int .i64 0, .int .i64 0])) ((((w2.setCell ⟨w.heap.size, 0, none⟩ (.slice aC f.n cC)).setCell ⟨w.heap.size, 1, none⟩ (.slice aR f.k cR)).setCell ⟨w.heap.size, 2, none⟩ (.int .i64 f.week)).setCell ⟨w.heap.size, 3, none⟩ (.slice aH f.hol.length cH))) := by
          refine ⟨0, n, rel, put4b R2.out.low _ _ _ _, Or.inl ⟨rfl, aC, cC, aR, cR, aH, cH, rfl, fun W hW hb => ?_⟩⟩
          have hsz : (((((w2.setCell ⟨w.heap.size, 0, none⟩ (.slice aC f.n cC)).setCell ⟨w.heap.size, 1, none⟩ (.slice aR f.k cR)).setCell ⟨w.heap.size, 2, none⟩ (.int .i64 f.week)).setCell ⟨w.heap.size, 3, none⟩ (.slice aH f.hol.length cH)).heap.size) = w2.heap.size := by simp
          rw [hsz] at hW hb
          refine HD.out W (by have := b2.size; omega) (fun b hB hlt => ?_)
          rw [hb b (by omega) (by have := b2.size; omega)]
          have ne : b ≠ w.heap.size := by omega
          rw [Below.heap_setCell _ _ _ _ ne, Below.heap_setCell _ _ _ _ ne, Below.heap_setCell _ _ _ _ ne, Below.heap_setCell _ _ _ _ ne]
          exact b2.block b hlt
        clear rel b2 R0 R2 HD CK d0 d1 d2 d3
        go_wp2
        exact bodyPost_ret (v := .tuple #[.agg #[.slice aC f.n cC, .slice aR f.k cR, .int .i64 f.week, .slice aH f.hol.length cH], .int .i64 0, .int .i64 0]) (by simp [results, Tryd.results12, go_sem, *]) rfl R.out
      · have R : Hid (RpP f w (.returned (.tuple #[.agg #[.slice none 0 0, .slice none 0 0, .int .i64 0, .slice none 0 0], .int .i64 a, .int .i64 n])) ((((w2.setCell ⟨w.heap.size, 0, none⟩ (.slice none 0 0)).setCell ⟨w.heap.size, 1, none⟩ (.slice none 0 0)).setCell ⟨w.heap.size, 2, none⟩ (.int .i64 0)).setCell ⟨w.heap.size, 3, none⟩ (.slice none 0 0))) :=
          ⟨a, n, rel, put4b R2.out.low _ _ _ _, Or.inr ⟨ha, rfl⟩⟩
        have ne : (a != 0) = true := bne_iff_ne.2 ha
        clear rel b2 R0 R2 HD CK d0 d1 d2 d3 x0 x1 x2 x3
        go_wp2
        exact bodyPost_ret (v := .tuple #[.agg #[.slice none 0 0, .slice none 0 0, .int .i64 0, .slice none 0 0], .int .i64 a, .int .i64 n]) (by simp [results, Tryd.results12, go_sem, *]) rfl R.out

set_option maxRecDepth 100000 in
set_option maxHeartbeats 2000000 in
theorem rparse_no {s : ByteArray} {w : World} {p : Nat} (hs : s.size ≤ 1000000000) (hp : pl sc0 s.data.toList = some p) :
    Calls Tryd.prog 12 #[.string s] w fun e w' => e = .returned (.tuple #[.agg #[.slice none 0 0, .slice none 0 0, .int .i64 0, .slice none 0 0], .int .i64 12, .int .i64 p]) ∧ Below w.heap.size w w' := by
  have B0 : Hid (Below w.heap.size w (w.alloc (.cells #[.slice none 0 0, .slice none 0 0, .int .i64 0, .slice none 0 0] 26))) := (Below.refl _ _).alloc (Nat.le_refl _) _
  have RW0 : Hid ((w.alloc (.cells #[.slice none 0 0, .slice none 0 0, .int .i64 0, .slice none 0 0] 26)).rowIs w.heap.size 26 4 (f4 (.slice none 0 0) (.slice none 0 0) (.int .i64 0) (.slice none 0 0))) := World.rowIs_alloc w #[.slice none 0 0, .slice none 0 0, .int .i64 0, .slice none 0 0] 26 _ (fun i hi => by
    have : i = 0 ∨ i = 1 ∨ i = 2 ∨ i = 3 := by simp at hi; omega
    rcases this with rfl | rfl | rfl | rfl <;> rfl)
  have PL := hid (place_any s (w.alloc (.cells #[.slice none 0 0, .slice none 0 0, .int .i64 0, .slice none 0 0] 26)) hs)
  rw [hp, show plI (some p) = (p : Int) from rfl] at PL
  clear hp
  go_enter Tryd.func12, Tryd.ntmps12
  go_wp2_with fail
  refine PL.out.mono ?_
  rintro e w1 ⟨rfl, b1⟩
  have B1 : Hid (Below w.heap.size w w1) := B0.out.trans (b1.mono (by simp))
  have row := RW0.out.of_block (b1.block _ RW0.out.lt)
  have z0 : w1.cell? ⟨w.heap.size, 0, none⟩ = some (.slice none 0 0) := row.cell (i := 0) (by omega)
  have z1 : w1.cell? ⟨w.heap.size, 1, none⟩ = some (.slice none 0 0) := row.cell (i := 1) (by omega)
  have z2 : w1.cell? ⟨w.heap.size, 2, none⟩ = some (.int .i64 0) := row.cell (i := 2) (by omega)
  have z3 : w1.cell? ⟨w.heap.size, 3, none⟩ = some (.slice none 0 0) := row.cell (i := 3) (by omega)
  have fz : ∀ j, w1.frozen? ⟨w.heap.size, j, none⟩ = false := fun j => row.frozen j
  have zz := row.lt
  clear PL B0 RW0 b1 row
  go_wp2
  exact bodyPost_ret (v := .tuple #[.agg #[.slice none 0 0, .slice none 0 0, .int .i64 0, .slice none 0 0], .int .i64 12, .int .i64 p]) (by simp [results, Tryd.results12, go_sem, *]) rfl ⟨rfl, put4b B1.out _ _ _ _⟩

end Go.Proofs.YtcondcffllaaoaaDoor
