/-
  THE WALKS: the document's reader of texts: a cell.
-/
import Derived.Test.YtcondcffllaaoaaDoorGR8
import Derived.Test.YtcondcffllaaoaaDoorGR3
import Derived.Test.YtcondcffllaaoaaDoorGY12
set_option linter.unusedVariables false
set_option linter.unusedSimpArgs false
namespace Go.Proofs.YtcondcffllaaoaaDoor
open Go.RowKit
open Go.Lib (itoa decDigits nDigits)
attribute [local go_sem ↓] Go.wp_at_zero Go.wp_at_succ

/-- What written answers. -/
def WrP (c : Cel) (w : World) (e : Ending) (w' : World) : Prop := e = .returned (.agg #[.int .i64 c.kind, .int .i64 c.a, .int .i64 c.b, .int .i64 c.c, .int .i64 c.k]) ∧ Below w.heap.size w w'

set_option maxRecDepth 100000 in
set_option maxHeartbeats 2000000 in
theorem written_0k {kd K : Int} {b o cap : Nat} {w : World} (hq : M.needs kd = 0) (hk : hasKB kd = true) (hb : b < w.heap.size) (hc : ∀ j, j < 2 → w.cell? ⟨b, o + j, none⟩ = some (.int .i64 ([kd, K].getD j 0))) :
    Calls Tryd.prog 26 #[.slice (some ⟨b, o, none⟩) 2 cap] w fun e w' => WrP ⟨kd, 0, 0, 0, K⟩ w e w' := by
  have u0 : w.cell? ⟨b, o, none⟩ = some (.int .i64 kd) := hc 0 (by omega)
  have u1 : w.cell? ⟨b, o + 1, none⟩ = some (.int .i64 K) := hc 1 (by omega)
  have RN := hid (rneeds_any kd)
  rw [hq] at RN
  have RK := hid (rhask_any kd)
  rw [hk] at RK
  clear hc hq hk
  go_enter Tryd.func26, Tryd.ntmps26
  go_wp2_with fail
  refine (RN.out _).mono ?_
  rintro e w1 ⟨rfl, rfl⟩
  go_wp2_with fail
  refine (RK.out _).mono ?_
  rintro e w1 ⟨rfl, rfl⟩
  go_wp2
  exact bodyPost_ret (v := .agg #[.int .i64 kd, .int .i64 0, .int .i64 0, .int .i64 0, .int .i64 K]) (by simp [results, Tryd.results26, go_sem]) rfl ⟨rfl, ((Below.refl _ _).alloc (Nat.le_refl _) _).alloc (by simp) _⟩

set_option maxRecDepth 100000 in
set_option maxHeartbeats 2000000 in
theorem written_1 {kd x : Int} {b o cap : Nat} {w : World} (hq : M.needs kd = 1) (hk : hasKB kd = false) (hb : b < w.heap.size) (hc : ∀ j, j < 2 → w.cell? ⟨b, o + j, none⟩ = some (.int .i64 ([kd, x].getD j 0))) :
    Calls Tryd.prog 26 #[.slice (some ⟨b, o, none⟩) 2 cap] w fun e w' => WrP ⟨kd, x, 0, 0, 0⟩ w e w' := by
  have u0 : w.cell? ⟨b, o, none⟩ = some (.int .i64 kd) := hc 0 (by omega)
  have u1 : w.cell? ⟨b, o + 1, none⟩ = some (.int .i64 x) := hc 1 (by omega)
  have RN := hid (rneeds_any kd)
  rw [hq] at RN
  have RK := hid (rhask_any kd)
  rw [hk] at RK
  clear hc hq hk
  go_enter Tryd.func26, Tryd.ntmps26
  go_wp2_with fail
  refine (RN.out _).mono ?_
  rintro e w1 ⟨rfl, rfl⟩
  go_wp2_with fail
  refine (RK.out _).mono ?_
  rintro e w1 ⟨rfl, rfl⟩
  go_wp2
  exact bodyPost_ret (v := .agg #[.int .i64 kd, .int .i64 x, .int .i64 0, .int .i64 0, .int .i64 0]) (by simp [results, Tryd.results26, go_sem]) rfl ⟨rfl, ((Below.refl _ _).alloc (Nat.le_refl _) _).alloc (by simp) _⟩

set_option maxRecDepth 100000 in
set_option maxHeartbeats 2000000 in
theorem written_1k {kd x K : Int} {b o cap : Nat} {w : World} (hq : M.needs kd = 1) (hk : hasKB kd = true) (hb : b < w.heap.size) (hc : ∀ j, j < 3 → w.cell? ⟨b, o + j, none⟩ = some (.int .i64 ([kd, x, K].getD j 0))) :
    Calls Tryd.prog 26 #[.slice (some ⟨b, o, none⟩) 3 cap] w fun e w' => WrP ⟨kd, x, 0, 0, K⟩ w e w' := by
  have u0 : w.cell? ⟨b, o, none⟩ = some (.int .i64 kd) := hc 0 (by omega)
  have u1 : w.cell? ⟨b, o + 1, none⟩ = some (.int .i64 x) := hc 1 (by omega)
  have u2 : w.cell? ⟨b, o + 2, none⟩ = some (.int .i64 K) := hc 2 (by omega)
  have RN := hid (rneeds_any kd)
  rw [hq] at RN
  have RK := hid (rhask_any kd)
  rw [hk] at RK
  clear hc hq hk
  go_enter Tryd.func26, Tryd.ntmps26
  go_wp2_with fail
  refine (RN.out _).mono ?_
  rintro e w1 ⟨rfl, rfl⟩
  go_wp2_with fail
  refine (RK.out _).mono ?_
  rintro e w1 ⟨rfl, rfl⟩
  go_wp2
  exact bodyPost_ret (v := .agg #[.int .i64 kd, .int .i64 x, .int .i64 0, .int .i64 0, .int .i64 K]) (by simp [results, Tryd.results26, go_sem]) rfl ⟨rfl, ((Below.refl _ _).alloc (Nat.le_refl _) _).alloc (by simp) _⟩

set_option maxRecDepth 100000 in
set_option maxHeartbeats 2000000 in
theorem written_2 {kd x y : Int} {b o cap : Nat} {w : World} (hq : M.needs kd = 2) (hk : hasKB kd = false) (hb : b < w.heap.size) (hc : ∀ j, j < 3 → w.cell? ⟨b, o + j, none⟩ = some (.int .i64 ([kd, x, y].getD j 0))) :
    Calls Tryd.prog 26 #[.slice (some ⟨b, o, none⟩) 3 cap] w fun e w' => WrP ⟨kd, x, y, 0, 0⟩ w e w' := by
  have u0 : w.cell? ⟨b, o, none⟩ = some (.int .i64 kd) := hc 0 (by omega)
  have u1 : w.cell? ⟨b, o + 1, none⟩ = some (.int .i64 x) := hc 1 (by omega)
  have u2 : w.cell? ⟨b, o + 2, none⟩ = some (.int .i64 y) := hc 2 (by omega)
  have RN := hid (rneeds_any kd)
  rw [hq] at RN
  have RK := hid (rhask_any kd)
  rw [hk] at RK
  clear hc hq hk
  go_enter Tryd.func26, Tryd.ntmps26
  go_wp2_with fail
  refine (RN.out _).mono ?_
  rintro e w1 ⟨rfl, rfl⟩
  go_wp2_with fail
  refine (RK.out _).mono ?_
  rintro e w1 ⟨rfl, rfl⟩
  go_wp2
  exact bodyPost_ret (v := .agg #[.int .i64 kd, .int .i64 x, .int .i64 y, .int .i64 0, .int .i64 0]) (by simp [results, Tryd.results26, go_sem]) rfl ⟨rfl, ((Below.refl _ _).alloc (Nat.le_refl _) _).alloc (by simp) _⟩

set_option maxRecDepth 100000 in
set_option maxHeartbeats 2000000 in
theorem written_3 {kd x y z : Int} {b o cap : Nat} {w : World} (hq : M.needs kd = 3) (hk : hasKB kd = false) (hb : b < w.heap.size) (hc : ∀ j, j < 4 → w.cell? ⟨b, o + j, none⟩ = some (.int .i64 ([kd, x, y, z].getD j 0))) :
    Calls Tryd.prog 26 #[.slice (some ⟨b, o, none⟩) 4 cap] w fun e w' => WrP ⟨kd, x, y, z, 0⟩ w e w' := by
  have u0 : w.cell? ⟨b, o, none⟩ = some (.int .i64 kd) := hc 0 (by omega)
  have u1 : w.cell? ⟨b, o + 1, none⟩ = some (.int .i64 x) := hc 1 (by omega)
  have u2 : w.cell? ⟨b, o + 2, none⟩ = some (.int .i64 y) := hc 2 (by omega)
  have u3 : w.cell? ⟨b, o + 3, none⟩ = some (.int .i64 z) := hc 3 (by omega)
  have RN := hid (rneeds_any kd)
  rw [hq] at RN
  have RK := hid (rhask_any kd)
  rw [hk] at RK
  clear hc hq hk
  go_enter Tryd.func26, Tryd.ntmps26
  go_wp2_with fail
  refine (RN.out _).mono ?_
  rintro e w1 ⟨rfl, rfl⟩
  go_wp2_with fail
  refine (RK.out _).mono ?_
  rintro e w1 ⟨rfl, rfl⟩
  go_wp2
  exact bodyPost_ret (v := .agg #[.int .i64 kd, .int .i64 x, .int .i64 y, .int .i64 z, .int .i64 0]) (by simp [results, Tryd.results26, go_sem]) rfl ⟨rfl, ((Below.refl _ _).alloc (Nat.le_refl _) _).alloc (by simp) _⟩

theorem kinds {kd : Nat} (h : kd ≤ 12) : (needsN kd = 0 ∧ hasKB kd = true) ∨ (needsN kd = 1 ∧ hasKB kd = false) ∨ (needsN kd = 1 ∧ hasKB kd = true) ∨ (needsN kd = 2 ∧ hasKB kd = false) ∨ (needsN kd = 3 ∧ hasKB kd = false) := by
  have : kd = 0 ∨ kd = 1 ∨ kd = 2 ∨ kd = 3 ∨ kd = 4 ∨ kd = 5 ∨ kd = 6 ∨ kd = 7 ∨ kd = 8 ∨ kd = 9 ∨ kd = 10 ∨ kd = 11 ∨ kd = 12 := by omega
  rcases this with rfl | rfl | rfl | rfl | rfl | rfl | rfl | rfl | rfl | rfl | rfl | rfl | rfl <;> decide

theorem written_any {c : Cel} {a : Option Addr} {n cap : Nat} {w : World} (h : Bare c) (hn : n = (celL c).length) (hat : IntsAt w (.slice a (celL c).length cap) (celL c)) :
    Calls Tryd.prog 26 #[.slice a n cap] w fun e w' => WrP c w e w' := by
  obtain ⟨kd, ln, K, rfl, h12, hl, hK⟩ := h
  have e : celL ⟨kd, ln.getD 0 0, ln.getD 1 0, ln.getD 2 0, K⟩ = (kd : Int) :: (ln ++ kL kd K) := by unfold celL; rw [bare_nmL h12 hl]
  rw [e] at hn hat
  rcases IntsAt.cases hat with h0 | ⟨b, o, ea, hb, hc⟩
  · simp at h0
  subst ea
  rcases kinds h12 with ⟨q, k⟩ | ⟨q, k⟩ | ⟨q, k⟩ | ⟨q, k⟩ | ⟨q, k⟩
  · obtain ⟨_, rfl⟩ : ∃ _ : Unit, ln = [] := by
      exact ⟨(), List.eq_nil_of_length_eq_zero (by omega)⟩
    have ek : kL kd K = [K] := by unfold kL; rw [k]; rfl
    rw [ek] at hn hc
    obtain rfl : n = 2 := hn
    exact written_0k q k hb hc
  · obtain ⟨x, rfl⟩ : ∃ x, ln = [x] := by
      match ln, (show ln.length = 1 by omega) with
      | [x], _ => exact ⟨x, rfl⟩
    have ek : kL kd K = [] := by unfold kL; rw [k]; rfl
    rw [ek] at hn hc
    obtain rfl : n = 2 := hn
    obtain rfl := hK k
    exact written_1 q k hb hc
  · obtain ⟨x, rfl⟩ : ∃ x, ln = [x] := by
      match ln, (show ln.length = 1 by omega) with
      | [x], _ => exact ⟨x, rfl⟩
    have ek : kL kd K = [K] := by unfold kL; rw [k]; rfl
    rw [ek] at hn hc
    obtain rfl : n = 3 := hn
    exact written_1k q k hb hc
  · obtain ⟨x, y, rfl⟩ : ∃ x y, ln = [x, y] := by
      match ln, (show ln.length = 2 by omega) with
      | [x, y], _ => exact ⟨x, y, rfl⟩
    have ek : kL kd K = [] := by unfold kL; rw [k]; rfl
    rw [ek] at hn hc
    obtain rfl : n = 3 := hn
    obtain rfl := hK k
    exact written_2 q k hb hc
  · obtain ⟨x, y, z, rfl⟩ : ∃ x y z, ln = [x, y, z] := by
      match ln, (show ln.length = 3 by omega) with
      | [x, y, z], _ => exact ⟨x, y, z, rfl⟩
    have ek : kL kd K = [] := by unfold kL; rw [k]; rfl
    rw [ek] at hn hc
    obtain rfl : n = 4 := hn
    obtain rfl := hK k
    exact written_3 q k hb hc

end Go.Proofs.YtcondcffllaaoaaDoor

/-
  THE WALKS: the document's reader of texts: the memory of a form that is being read.
-/
set_option linter.unusedVariables false
set_option linter.unusedSimpArgs false
namespace Go.Proofs.YtcondcffllaaoaaDoor
open Go.RowKit
open Go.Lib (itoa decDigits nDigits)
attribute [local go_sem ↓] Go.wp_at_zero Go.wp_at_succ

/-- What numbers answers of a line that has one. -/
def NuC (x : Int) (l : List Int) (k' : Nat) (w : World) (e : Ending) (w' : World) : Prop := ∃ g cap, e = .returned (.tuple #[.slice (some ⟨g, 0, none⟩) (l.length + 1) cap, .int .i64 k']) ∧ l.length + 1 ≤ cap ∧ w'.ownsRow w.heap.size 3 1 (.slice (some ⟨g, 0, none⟩) (l.length + 1) cap) (l.length + 1) (ints (x :: l)) ∧ Below w.heap.size w w'

theorem rnumbers_cons {s : ByteArray} {i k' : Nat} {x : Int} {l : List Int} {c : UInt8} {w : World} (hs : s.size ≤ 1000000000) (hi : rest s i = c :: (numsT (x :: l) ++ 10 :: rest s k')) (hk : k' ≤ s.size) (hL : ∀ y ∈ x :: l, N10 y) :
    Calls Tryd.prog 25 #[.string s, .int .i64 i] w fun e w' => NuC x l k' w e w' := by
  refine (rnumbers_any hs hi hk hL).mono ?_
  rintro e w' ⟨a, cap, rfl, own, bel⟩
  rw [List.length_cons] at own
  obtain ⟨g, cap', e1⟩ := own_succ own
  injection e1 with e1 _ e3
  subst e1 e3
  have hcap : l.length + 1 ≤ cap := by
    rcases own.2 with ⟨e, _⟩ | ⟨g', cap', cur, hv, _, _, h5, _⟩
    · cases e
    · injection hv with _ _ e3
      omega
  exact ⟨g, cap, by rw [List.length_cons], hcap, own, bel⟩

theorem rest_split {s : ByteArray} {i : Nat} {p r : List UInt8} (h : rest s i = p ++ r) (hi : i ≤ s.size) : r = rest s (i + p.length) ∧ i + p.length ≤ s.size := by
  have e := congrArg List.length h
  rw [List.length_append, rest_len] at e
  refine ⟨?_, by omega⟩
  have e2 : (rest s i).drop p.length = r := by rw [h]; simp
  rw [← e2]
  unfold rest
  rw [List.drop_drop]

/-- The tail of a line's numbers. -/
def LH (B : Nat) (w : World) (v : Value) (x : Int) (l : List Int) : Prop := ∃ g cap, v = .slice (if cap = 1 then some ⟨g, 0, none⟩ else some ⟨g, 1, none⟩) l.length (cap - 1) ∧ l.length + 1 ≤ cap ∧ w.ownsRow B 3 1 (.slice (some ⟨g, 0, none⟩) (l.length + 1) cap) (l.length + 1) (ints (x :: l))
theorem LH.keep {B : Nat} {w w' : World} {v : Value} {x : Int} {l : List Int} (h : LH B w v x l) (hb : ∀ g cur, B ≤ g → g < w.heap.size → w.heap[g]? = some (.cells cur 3) → w'.heap[g]? = w.heap[g]?) : LH B w' v x l := by
  obtain ⟨g, cap, e, ec, o⟩ := h
  refine ⟨g, cap, e, ec, own_of_block o (fun g' hg hl => ?_)⟩
  obtain ⟨cur, hc⟩ := own_type o hg
  exact hb g' cur (own_base o hg) hl hc
theorem LH.at {B : Nat} {w : World} {v : Value} {x : Int} {l : List Int} (h : LH B w v x l) : ∃ a c, v = .slice a l.length c ∧ IntsAt w v l := by
  obtain ⟨g, cap, rfl, ec, o⟩ := h
  refine ⟨_, _, rfl, _, cap - 1, rfl, fun j hj => ?_⟩
  rw [if_neg (by omega)]
  have e1 := own_cellG o (k := 1 + j) (by omega)
  refine ⟨g, 1, rfl, own_ltT o rfl, ?_⟩
  rw [e1]
  have hj' : j < l.length := by omega
  unfold ints
  rw [show 1 + j = j + 1 by omega]
  simp [List.getD, hj']

/-- The memory of a form that the document reads. -/
structure RW (w : World) (bf : Nat) (f : Frm) (ci ri : Nat) (vC vR vH : Value) (sv : Nat → Value) (wr : World) : Prop where
  cells : wr.ownsRow (w.heap.size + 1) 46 5 vC ci (cells5 f.C ci)
  rules : wr.ownsRow (w.heap.size + 1) 44 2 vR ri (rules2 f.R sv ri)
  hol : LH (w.heap.size + 1) wr vH f.week f.hol
  steps : ∀ i, i < ri → LH (w.heap.size + 1) wr (sv i) (f.R i).guard (f.R i).steps
  low : Below w.heap.size w wr
  res : wr.rowIs w.heap.size 26 4 (f4 (.slice none 0 0) (.slice none 0 0) (.int .i64 0) (.slice none 0 0))
  box : wr.rowIs bf 26 4 (f4 vC vR (.int .i64 f.week) vH)
  bf : w.heap.size < bf

theorem RW.below {w : World} {bf : Nat} {f : Frm} {ci ri : Nat} {vC vR vH : Value} {sv : Nat → Value} {wr w' : World} (h : RW w bf f ci ri vC vR vH sv wr) (hb : Below wr.heap.size wr w') : RW w bf f ci ri vC vR vH sv w' :=
  ⟨own_of_block h.cells (fun g _ hl => hb.block g hl), own_of_block h.rules (fun g _ hl => hb.block g hl), h.hol.keep (fun g _ _ hl _ => hb.block g hl), fun i hi => (h.steps i hi).keep (fun g _ _ hl _ => hb.block g hl), h.low.trans (hb.mono h.low.size), h.res.of_block (hb.block _ h.res.lt), h.box.of_block (hb.block _ h.box.lt), h.bf⟩

theorem own_not_int {w : World} {B g size n : Nat} {e : TypeId} {v : Value} {xs : List Value} (h : w.ownsRow B e size v n xs) (he : e ≠ 3) {cur : Array Value} (hc : w.heap[g]? = some (.cells cur 3)) : v.ownBlock ≠ some g := fun e1 => by
  obtain ⟨c1, k1⟩ := own_type h e1
  rw [k1] at hc
  injection hc with hc
  injection hc with _ k3 _
  exact he k3
theorem row_not_int {w : World} {b N : Nat} {t : TypeId} {f : Nat → Value} (h : w.rowIs b t N f) (he : t ≠ 3) {g : Nat} {cur : Array Value} (hc : w.heap[g]? = some (.cells cur 3)) : g ≠ b := fun e1 => by
  subst e1
  obtain ⟨cs, h1, _⟩ := h
  rw [h1] at hc
  injection hc with hc
  injection hc with _ k3 _
  exact he k3

theorem LH.set {B b N : Nat} {w : World} {v : Value} {x : Int} {l : List Int} {f : Nat → Value} (h : LH B w v x l) (hr : w.rowIs b 26 N f) (j : Nat) (u : Value) : LH B (w.setCell ⟨b, j, none⟩ u) v x l :=
  h.keep (fun g cur _ _ hc => Below.heap_setCell _ _ _ _ (row_not_int hr (by decide) hc))

theorem RW.addC {w : World} {bf : Nat} {f : Frm} {ci ri : Nat} {vC vR vH v' : Value} {sv : Nat → Value} {w5 w6 : World} {o : Obj} (h : RW w bf f ci ri vC vR vH sv w5)
    (hown : w6.ownsRow (w.heap.size + 1) 46 5 v' (ci + 1) (cells5 f.C ci ++ [.int .i64 (f.C ci).kind, .int .i64 (f.C ci).a, .int .i64 (f.C ci).b, .int .i64 (f.C ci).c, .int .i64 (f.C ci).k]))
    (hg : (w5.alloc o).grownBy w6 vC.ownBlock) : RW w bf f (ci + 1) ri v' vR vH sv (w6.setCell ⟨bf, 0, none⟩ v') := by
  have far : ∀ g, g < w5.heap.size → vC.ownBlock ≠ some g → w6.heap[g]? = w5.heap[g]? := fun g hl hn => ev_far0 w5 _ hg hl hn
  have rb : w6.rowIs bf 26 4 _ := h.box.of_block (far _ h.box.lt (own_ne_row h.cells h.box (by decide)))
  have rr : w6.rowIs w.heap.size 26 4 _ := h.res.of_block (far _ h.res.lt (own_ne_row h.cells h.res (by decide)))
  have hbf := h.bf
  have gb : Below w.heap.size w5 w6 := grow_below0 hg h.low.size (fun g hg' => by have := own_base h.cells hg'; omega)
  have ints6 : ∀ v x l, LH (w.heap.size + 1) w5 v x l → LH (w.heap.size + 1) w6 v x l := fun v x l hl => hl.keep (fun g cur _ hlt hc => far g hlt (own_not_int h.cells (by decide) hc))
  refine ⟨?_, ?_, (ints6 _ _ _ h.hol).set rb _ _, fun i hi => (ints6 _ _ _ (h.steps i hi)).set rb _ _, (h.low.trans gb).setCell (by show _ ≤ bf; omega) _, rr.setOther (by show _ ≠ bf; omega) _, (rb.set 0 _).congr (fun j hj => ?_), hbf⟩
  · rw [cells5_more]
    exact own_not_row hown rb (by decide) _ _
  · exact own_not_row (own_of_block h.rules (fun g hg hl => far g hl (own_apart h.rules h.cells (by decide) hg))) rb (by decide) _ _
  · have : j = 0 ∨ j = 1 ∨ j = 2 ∨ j = 3 := by omega
    rcases this with rfl | rfl | rfl | rfl <;> rfl

theorem RW.addR {w : World} {bf : Nat} {f : Frm} {ci ri : Nat} {vC vR vH v' u : Value} {sv : Nat → Value} {w5 w6 : World} {o : Obj} (h : RW w bf f ci ri vC vR vH sv w5) (hu : LH (w.heap.size + 1) w5 u (f.R ri).guard (f.R ri).steps)
    (hown : w6.ownsRow (w.heap.size + 1) 44 2 v' (ri + 1) (rules2 f.R sv ri ++ [.int .i64 (f.R ri).guard, u]))
    (hg : ((w5.alloc o).drew).grownBy w6 vR.ownBlock) : RW w bf f ci (ri + 1) vC v' vH (upd sv ri u) (w6.setCell ⟨bf, 1, none⟩ v') := by
  have far : ∀ g, g < w5.heap.size → vR.ownBlock ≠ some g → w6.heap[g]? = w5.heap[g]? := fun g hl hn => ev_far w5 _ hg hl hn
  have rb : w6.rowIs bf 26 4 _ := h.box.of_block (far _ h.box.lt (own_ne_row h.rules h.box (by decide)))
  have rr : w6.rowIs w.heap.size 26 4 _ := h.res.of_block (far _ h.res.lt (own_ne_row h.rules h.res (by decide)))
  have hbf := h.bf
  have gb : Below w.heap.size w5 w6 := ⟨hg.os, hg.tape, hg.output, by have := hg.size; simp at this; omega, fun j hj => far j (by have := h.low.size; omega) (fun e => by have := own_base h.rules e; omega)⟩
  have ints6 : ∀ v x l, LH (w.heap.size + 1) w5 v x l → LH (w.heap.size + 1) w6 v x l := fun v x l hl => hl.keep (fun g cur _ hlt hc => far g hlt (own_not_int h.rules (by decide) hc))
  refine ⟨?_, ?_, (ints6 _ _ _ h.hol).set rb _ _, fun i hi => ?_, (h.low.trans gb).setCell (by show _ ≤ bf; omega) _, rr.setOther (by show _ ≠ bf; omega) _, (rb.set 1 _).congr (fun j hj => ?_), hbf⟩
  · exact own_not_row (own_of_block h.cells (fun g hg hl => far g hl (own_apart h.cells h.rules (by decide) hg))) rb (by decide) _ _
  · rw [rules2_more]
    exact own_not_row hown rb (by decide) _ _
  · by_cases e : i = ri
    · subst e
      rw [upd_same]
      exact (ints6 _ _ _ hu).set rb _ _
    · rw [upd_other _ _ e]
      exact (ints6 _ _ _ (h.steps i (by omega))).set rb _ _
  · have : j = 0 ∨ j = 1 ∨ j = 2 ∨ j = 3 := by omega
    rcases this with rfl | rfl | rfl | rfl <;> rfl

/-- What was read, wherever the blocks from B on stand. -/
def FHeld (B : Nat) (w' : World) (f : Frm) (aC aR aH : Option Addr) (cH : Nat) : Prop := ∀ W : World, w'.heap.size ≤ W.heap.size → (∀ b, B ≤ b → b < w'.heap.size → W.heap[b]? = w'.heap[b]?) → CAt W aC f.n f.C ∧ RAt W aR f.k f.R ∧ IntsAt W (.slice aH f.hol.length cH) f.hol

theorem own_rulesL {w : World} {base B : Nat} {v : Value} {R : Nat → Rul} {sv : Nat → Value} {m : Nat} (h : w.ownsRow base 44 2 v m (rules2 R sv m)) (hs : ∀ i, i < m → LH B w (sv i) (R i).guard (R i).steps) (hl : ∀ i, i < m → (R i).steps.length ≤ 1000000000) : ∃ a c, v = .slice a m c ∧ RAt w a m R := by
  obtain ⟨a, c, rfl, h2⟩ := own_at h
  refine ⟨a, c, rfl, ?_⟩
  rcases h2 with h2 | ⟨g, rfl, hg, hc⟩
  · exact Or.inl h2
  · refine Or.inr ⟨g, 0, rfl, hg, fun i hi => ?_⟩
    have at' : ∀ j, j < m * 2 → w.cell? ⟨g, j, none⟩ = some (rulV R sv j) := fun j hj => by rw [hc j hj]; simp [rules2, hj]
    obtain ⟨as', cs', e1, e2⟩ := (hs i hi).at
    rw [Nat.zero_add]
    refine ⟨?_, as', cs', ?_, by rw [← e1]; exact e2, hl i hi⟩
    · rw [at' _ (by omega)]; unfold rulV; rw [if_pos (by omega), show i * 2 / 2 = i by omega]
    · rw [at' _ (by omega)]; unfold rulV; rw [if_neg (by omega), show (i * 2 + 1) / 2 = i by omega, e1]

theorem RW.held {w : World} {bf : Nat} {f : Frm} {vC vR vH : Value} {sv : Nat → Value} {wr : World} (h : RW w bf f f.n f.k vC vR vH sv wr) (hl : ∀ i, i < f.k → (f.R i).steps.length ≤ 1000000000) : ∃ aC cC aR cR aH cH, vC = .slice aC f.n cC ∧ vR = .slice aR f.k cR ∧ vH = .slice aH f.hol.length cH ∧ FHeld (w.heap.size + 1) wr f aC aR aH cH := by
  obtain ⟨aC, cC, eC, _⟩ := own_cells h.cells
  obtain ⟨aR, cR, eR, _⟩ := own_rulesL h.rules h.steps hl
  obtain ⟨aH, cH, eH, _⟩ := h.hol.at
  refine ⟨aC, cC, aR, cR, aH, cH, eC, eR, eH, fun W hW hb => ?_⟩
  have kL : ∀ v x l, LH (w.heap.size + 1) wr v x l → LH (w.heap.size + 1) W v x l := fun v x l hl => hl.keep (fun g cur hB hlt _ => hb g hB hlt)
  obtain ⟨aC', cC', eC', h1⟩ := own_cells (own_of_block h.cells (w' := W) (fun g hg hl => hb g (own_base h.cells hg) hl))
  obtain ⟨aR', cR', eR', h2⟩ := own_rulesL (own_of_block h.rules (w' := W) (fun g hg hl => hb g (own_base h.rules hg) hl)) (fun i hi => kL _ _ _ (h.steps i hi)) hl
  obtain ⟨aH', cH', eH', h3⟩ := (kL _ _ _ h.hol).at
  rw [eC] at eC'
  rw [eR] at eR'
  rw [eH] at h3
  injection eC' with q1 _ _
  injection eR' with q2 _ _
  rw [q1, q2]
  exact ⟨h1, h2, h3⟩

end Go.Proofs.YtcondcffllaaoaaDoor
