/-
  MEMORY: copy, as a law on rows; a list with spare room.
-/
import Derived.Test.YtcondcffllaaoaaDoorGW18
import Derived.Laws.CopyOwn
import Derived.Deep.Cut
set_option linter.unusedVariables false
set_option linter.unusedSimpArgs false
namespace Go.Proofs.YtcondcffllaaoaaDoor

open Go.RowKit

/-- copy from the start of a row's own room on: sLen elements of sz cells each. -/
theorem run_copy_is {P : Program} (w : World) (dT sT ty elem : TypeId) (sz g dLen dCap N : Nat) (t : TypeId) (f : Nat → Value) (sp : Option Addr) (sLen sCap : Nat) (h : Nat → Value)
    (hu : P.underlying dT = some (.slice elem)) (hs : (P.info? elem).map (·.size) = some sz) (hrow : w.rowIs g t N f) (hle : sLen ≤ dLen) (hfit : sLen * sz ≤ N)
    (hsrc : sLen * sz = 0 ∨ ∃ b o, sp = some ⟨b, o, none⟩ ∧ ∀ j, j < sLen * sz → w.cell? ⟨b, o + j, none⟩ = some (h j)) (h1 : ∀ j, j < sLen * sz → (h j).oneCell' = true) :
    ∃ w', (Builtin.copy_ #[dT, sT] ty #[.slice (some ⟨g, 0, none⟩) dLen dCap, .slice sp sLen sCap]).run P w = .ok (goInt sLen) w' ∧ w'.rowIs g t N (fun j => if j < sLen * sz then h j else f j) ∧ w'.heap.size = w.heap.size ∧ w'.os = w.os ∧ w'.tape = w.tape ∧ w'.output = w.output ∧ ∀ k, k ≠ g → w'.heap[k]? = w.heap[k]? := by
  obtain ⟨cur, hg, hcn, hcf⟩ := hrow
  cases hq : P.info? elem with
  | none => simp [hq] at hs
  | some i =>
    have hi : i.size = sz := by simpa [hq] using hs
    have hmin : Nat.min sLen dLen = sLen := Nat.min_eq_left hle
    by_cases h0 : sLen * sz = 0
    · refine ⟨w, ?_, ⟨cur, hg, hcn, fun j hj => by simp only [h0, Nat.not_lt_zero, if_false]; exact hcf j hj⟩, rfl, rfl, rfl, rfl, fun _ _ => rfl⟩
      have hl : ∀ (x : Addr), (loadCells x 0).run P w = .ok #[] w := fun x => by simpa using run_loadCells_list (P := P) w x [] (by simp)
      have h0' : sz * sLen = 0 := by rw [Nat.mul_comm]; exact h0
      cases sp <;> simp [Builtin.copy_, run_underlying hu, Builtin.lenOf, Builtin.firstCells, sizeOf, typeInfo, hq, hi, hmin, storeCells, hl, h0, h0']
    · obtain ⟨b, o, rfl, hsc⟩ : ∃ b o, sp = some ⟨b, o, none⟩ ∧ ∀ j, j < sLen * sz → w.cell? ⟨b, o + j, none⟩ = some (h j) := by
        rcases hsrc with e | e
        · exact (h0 e).elim
        · exact e
      let cs : List Value := (List.range (sLen * sz)).map h
      have hcl : cs.length = sLen * sz := by simp [cs]
      have hadd : ∀ j, (⟨b, o, none⟩ : Addr).add j = ⟨b, o + j, none⟩ := fun j => by unfold Addr.add; split <;> simp_all
      have hl := run_loadCells_list (P := P) w ⟨b, o, none⟩ cs (fun j v hv => by
        have hj : j < sLen * sz := by
          obtain ⟨hj, _⟩ := List.getElem?_eq_some_iff.1 hv
          rw [hcl] at hj; exact hj
        rw [hadd, hsc j hj]
        simp [cs, hj] at hv
        rw [hv])
      have hst := run_storeCells_at P g 0 t cs 0 cur w hg (by rw [hcl, hcn]; omega) (fun v hv => by
        obtain ⟨j, hj, rfl⟩ := List.mem_map.1 hv
        exact h1 j (List.mem_range.1 hj))
      simp only [Nat.zero_add, List.take_zero, List.nil_append] at hst
      generalize hX : (cs ++ cur.toList.drop cs.length).toArray = X at *
      refine ⟨w.setRow g X, ?_, ⟨X, setRow_heap w g cur X t _ hg, ?_, fun j hj => ?_⟩, by simp, rfl, rfl, rfl, fun k hk => setRow_other w g k _ hk⟩
      · rw [hcl] at hl
        have hl' : (loadCells ⟨b, o, none⟩ (sz * sLen)).run P w = .ok cs.toArray w := by rw [Nat.mul_comm]; exact hl
        simp [Builtin.copy_, run_underlying hu, Builtin.lenOf, Builtin.firstCells, sizeOf, typeInfo, hq, hi, hmin, hl, hl', hst]
      · rw [← hX]; simp [hcl, hcn]; omega
      · rw [← hX]; simp only [List.getElem?_toArray]
        by_cases hj2 : j < sLen * sz
        · rw [List.getElem?_append_left (by rw [hcl]; exact hj2), if_pos hj2]; simp [cs, hj2]
        · rw [List.getElem?_append_right (by rw [hcl]; omega), if_neg hj2, hcl, List.getElem?_drop, show sLen * sz + (j - sLen * sz) = j by omega]
          have := hcf j hj
          simpa using this

/-- A row of numbers with eight marked places behind it. -/
def intSp (l : List Int) (j : Nat) : Value := .int .i64 (if j < l.length then l.getD j 0 else -5)

/-- What ints answers. -/
def IntsPost (l : List Int) (w : World) (e : Ending) (w' : World) : Prop :=
  ∃ b, e = .returned (.slice (some ⟨b, 0, none⟩) l.length (l.length + 8)) ∧ w.heap.size ≤ b ∧ w'.rowIs b 3 (l.length + 8) (intSp l) ∧ Below w.heap.size w w'

theorem size3 : (Tryd.prog.info? 3).map (·.size) = some 1 := by kernel_rfl

set_option maxHeartbeats 800000 in
theorem ints_any (l : List Int) (a : Option Addr) (cap : Nat) (w : World) (hl : l.length ≤ 1000000000) (hc : IntsAt w (.slice a l.length cap) l) :
    Calls Tryd.prog 15 #[.slice a l.length cap] w fun e w' => IntsPost l w e w' := by
  have HC := (show Hid _ from IntsAt.cases hc)
  clear hc
  have mk3 := run_make_row' (P := Tryd.prog) 24 3 (.int .i64 0) 8 Tryd.underlying24 info3 rfl .i64 .i64 (l.length + 8) (by omega) (by omega)
  have mkc : (((l.length + 8 : Nat)) : Int) = (l.length : Int) + 8 := by omega
  rw [mkc] at mk3
  clear mkc
  obtain ⟨W2, hrun, hrow, hsz, ho1, ho2, ho3, hoth⟩ := run_copy_is (P := Tryd.prog) (w.alloc (.cells (madeCells #[.int .i64 0] (l.length + 8)) 3)) 24 24 3 3 1 w.heap.size (l.length + 8) (l.length + 8) (l.length + 8) 3 (fun _ => .int .i64 0) a l.length cap (fun j => .int .i64 (l.getD j 0))
    Tryd.underlying24 size3 (World.rowIs_made _ _ _ _) (by omega) (by omega) (by
      rcases HC.out with h0 | ⟨b, off, rfl, hb, hcell⟩
      · exact Or.inl (by omega)
      · exact Or.inr ⟨b, off, rfl, fun j hj => by rw [World.cell?_alloc_lt (h := hb)]; exact hcell j (by omega)⟩) (fun j _ => rfl)
  have HROW : Hid (W2.rowIs w.heap.size 3 (l.length + 8) (fun j => .int .i64 (if j < l.length then l.getD j 0 else 0))) := hrow.congr (fun j _ => by rw [Nat.mul_one]; split <;> rfl)
  have HBEL : Hid (Below w.heap.size w W2) := ((Below.refl _ _).alloc (Nat.le_refl _) _).trans ⟨ho1, ho2, ho3, by omega, fun k hk => hoth k (by omega)⟩
  clear hrow hsz ho1 ho2 ho3 hoth
  go_enter Tryd.func15, Tryd.ntmps15
  go_wp2
  clear mk3 hrun
  go_loopw [5] (fun t wr => ∃ k : Nat, l.length ≤ k ∧ k ≤ l.length + 8 ∧ t = .int .i64 k ∧ Hid (wr.rowIs w.heap.size 3 (l.length + 8) (fun j => .int .i64 (if j < l.length then l.getD j 0 else if j < k then -5 else 0))) ∧ Hid (Below w.heap.size w wr)) (fun t _ => l.length + 8 - (intOf t).toNat)
  case atStart => exact ⟨l.length, by omega, by omega, rfl, HROW.out.congr (fun j _ => by by_cases e : j < l.length <;> simp only [e, if_true, if_false]), HBEL⟩
  case round =>
    obtain ⟨k, k1, k2, rfl, hr, hb⟩ := hrel
    by_cases hlt : k < l.length + 8
    · have c0 := hr.out.cell hlt
      have c1 := hr.out.frozen k
      have R : Hid ((wr.setCell ⟨w.heap.size, k, none⟩ (.int .i64 (-5))).rowIs w.heap.size 3 (l.length + 8) (fun j => .int .i64 (if j < l.length then l.getD j 0 else if j < k + 1 then -5 else 0))) := (hr.out.set k _).congr (fun j _ => by
        by_cases e : j = k
        · subst e; simp only [if_true]; rw [if_neg (by omega), if_pos (by omega)]
        · simp only [e, if_false]
          by_cases e2 : j < l.length
          · simp only [e2, if_true]
          · simp only [e2, if_false]
            by_cases e3 : j < k
            · rw [if_pos e3, if_pos (by omega)]
            · rw [if_neg e3, if_neg (by omega)])
      have RB : Hid (Below w.heap.size w (wr.setCell ⟨w.heap.size, k, none⟩ (.int .i64 (-5)))) := hb.out.setCell (Nat.le_refl _) _
      have lt' : (k : Int) < (l.length : Int) + 8 := by omega
      go_wp2
      go_roundw
      case rel => exact ⟨k + 1, by omega, by omega, by go_num, R, RB⟩
      case measure => simp [intOf]; omega
    · obtain rfl : k = l.length + 8 := by omega
      go_wp2
      go_ret
      exact ⟨w.heap.size, rfl, by omega, hr.out.congr (fun j hj => by unfold intSp; by_cases e : j < l.length <;> simp only [e, if_true, if_false, hj]), hb.out⟩

end Go.Proofs.YtcondcffllaaoaaDoor

/-
  MEMORY: what is handed in.
-/
set_option linter.unusedVariables false
set_option linter.unusedSimpArgs false
namespace Go.Proofs.YtcondcffllaaoaaDoor

open Go.RowKit Go.Deep

theorem info76 : (Tryd.prog.info? 46).map (fun i => (i.zero, i.size, i.bytes)) = some (some (.agg #[.int .i64 0, .int .i64 0, .int .i64 0, .int .i64 0, .int .i64 0]), 5, 40) := by kernel_rfl

theorem info80 : (Tryd.prog.info? 44).map (fun i => (i.zero, i.size, i.bytes)) = some (some (.agg #[.int .i64 0, .slice none 0 0]), 2, 32) := by kernel_rfl

theorem size76 : (Tryd.prog.info? 46).map (·.size) = some 5 := by kernel_rfl

/-- make of n structs of sz cells. -/
theorem run_make_is {P : Program} (t e : TypeId) (z : Value) (sz bytes : Nat) (ht : P.underlying t = some (.slice e)) (hinfo : (P.info? e).map (fun i => (i.zero, i.size, i.bytes)) = some (some z, sz, bytes)) (n : Nat) (hb : bytes * n ≤ 281474976710656) (h63 : n ≤ 9223372036854775807) (w : World) :
    (Instr.makeSlice t (.int .i64 (n : Int)) (.int .i64 (n : Int))).run P w = .ok (.slice (some ⟨w.heap.size, 0, none⟩) n n) (w.alloc (.cells (madeCells z.cells (n * sz)) e)) := by
  obtain ⟨i, hi, hzz⟩ := Option.map_eq_some_iff.1 hinfo
  simp only [Prod.mk.injEq] at hzz
  obtain ⟨hz, hs, hb'⟩ := hzz
  have hbb : (i.bytes : Int) * (n : Int) ≤ 281474976710656 := by
    have h : ((i.bytes * n : Nat) : Int) ≤ 281474976710656 := by rw [hb']; omega
    rwa [Int.natCast_mul] at h
  have hr := run_make (P := P) w t e i z ht hi hz .i64 .i64 n n (by omega) (Int.le_refl _) hbb (by omega)
  simp only [Int.toNat_natCast, hs] at hr
  exact hr

theorem row_made {w : World} {z : Value} {n sz : Nat} {e : TypeId} {b : Nat} (hb : b = w.heap.size) (f : Nat → Value) (hf : ∀ j, j < n * sz → z.cells[j % z.cells.size]! = f j) : (w.alloc (.cells (madeCells z.cells (n * sz)) e)).rowIs b e (n * sz) f := by
  subst hb
  refine ⟨_, blk_alloc_new _ _, size_madeCells _ _, fun i hi => ?_⟩
  have : (madeCells z.cells (n * sz))[i]? = some (z.cells[i % z.cells.size]!) := by simp [madeCells, hi]
  rw [this, hf i hi]

/-- The cells of the list that is handed in, and its spare room: i of its places are marked. -/
def cellSt (C : Nat → Cel) (n i j : Nat) : Value := if j < n * 5 then cellf C j else if j < (n + i) * 5 then .int .i64 (-5) else .int .i64 0

def ruleOf (R : Nat → Rul) (bs : Nat → Nat) (j : Nat) : Value := if j % 2 = 0 then .int .i64 (R (j / 2)).guard else .slice (some ⟨bs (j / 2), 0, none⟩) (R (j / 2)).steps.length ((R (j / 2)).steps.length + 8)

def ruleZ (j : Nat) : Value := if j % 2 = 0 then .int .i64 0 else .slice none 0 0

def ruleS (j : Nat) : Value := if j % 2 = 0 then .int .i64 (-5) else .slice none 0 0

/-- The rules of it: m are laid, i of its spare places are marked. -/
def ruleSt (R : Nat → Rul) (bs : Nat → Nat) (m i j : Nat) : Value := if j < m * 2 then ruleOf R bs j else if j < (m + i) * 2 then ruleS j else ruleZ j

theorem cellf_one {C : Nat → Cel} {n : Nat} (j : Nat) (_ : j < n * 5) : (cellf C j).oneCell' = true := by
  unfold cellf; repeat' split
  all_goals rfl

theorem cellSt_start {C : Nat → Cel} {n : Nat} (j : Nat) : (if j < n * 5 then cellf C j else .int .i64 0) = cellSt C n 0 j := by
  unfold cellSt
  by_cases e : j < n * 5
  · rw [if_pos e, if_pos e]
  · rw [if_neg e, if_neg e, if_neg (by omega)]

theorem ruleSt_next (R : Nat → Rul) (bs : Nat → Nat) (m b j : Nat) {bs' : Nat → Nat} (hb : upd bs m b = bs') : (if j = m * 2 + 1 then Value.slice (some ⟨b, 0, none⟩) (R m).steps.length ((R m).steps.length + 8) else if j = m * 2 then .int .i64 (R m).guard else ruleSt R bs m 0 j) = ruleSt R bs' (m + 1) 0 j := by
  subst hb
  unfold ruleSt
  by_cases h1 : j = m * 2 + 1
  · subst h1
    rw [if_pos rfl, if_pos (by omega)]
    unfold ruleOf
    rw [if_neg (by omega), show (m * 2 + 1) / 2 = m by omega, upd_same]
  · rw [if_neg h1]
    by_cases h2 : j = m * 2
    · subst h2
      rw [if_pos rfl, if_pos (by omega)]
      unfold ruleOf
      rw [if_pos (by omega), show (m * 2) / 2 = m by omega]
    · rw [if_neg h2]
      by_cases h3 : j < m * 2
      · rw [if_pos h3, if_pos (by omega)]
        unfold ruleOf
        rw [upd_other _ _ (by omega)]
      · rw [if_neg h3, if_neg (by omega), if_neg (by omega), if_neg (by omega)]

theorem ruleZ_made (Wc : World) (R : Nat → Rul) (k : Nat) : (Wc.alloc (.cells (madeCells #[.int .i64 0, .slice none 0 0] ((k + 8) * 2)) 44)).rowIs Wc.heap.size 44 ((k + 8) * 2) (ruleSt R (fun _ => 0) 0 0) := by
  have h := row_made (w := Wc) (z := .agg #[.int .i64 0, .slice none 0 0]) (n := k + 8) (sz := 2) (e := 44) rfl (ruleSt R (fun _ => 0) 0 0) (fun j _ => by
    have hs : ((Value.agg #[.int .i64 0, .slice none 0 0]).cells).size = 2 := rfl
    rw [hs]
    unfold ruleSt ruleZ
    rw [if_neg (by omega), if_neg (by omega)]
    by_cases e : j % 2 = 0
    · rw [if_pos e, e]; rfl
    · rw [if_neg e, show j % 2 = 1 by omega]; rfl)
  exact h

theorem cellSt_next {C : Nat → Cel} {n i : Nat} (j : Nat) : (if j = (n + i) * 5 + 4 then Value.int .i64 (-5) else if j = (n + i) * 5 + 3 then .int .i64 (-5) else if j = (n + i) * 5 + 2 then .int .i64 (-5) else if j = (n + i) * 5 + 1 then .int .i64 (-5) else if j = (n + i) * 5 then .int .i64 (-5) else cellSt C n i j) = cellSt C n (i + 1) j := by
  unfold cellSt
  by_cases h : j < (n + i) * 5
  · rw [if_neg (by omega), if_neg (by omega), if_neg (by omega), if_neg (by omega), if_neg (by omega)]
    by_cases h2 : j < n * 5
    · rw [if_pos h2, if_pos h2]
    · rw [if_neg h2, if_neg h2, if_pos h, if_pos (by omega)]
  · by_cases h3 : j < (n + (i + 1)) * 5
    · rw [if_neg (show ¬ j < n * 5 by omega), if_neg (show ¬ j < n * 5 by omega), if_pos h3]
      have hc : j = (n + i) * 5 + 4 ∨ j = (n + i) * 5 + 3 ∨ j = (n + i) * 5 + 2 ∨ j = (n + i) * 5 + 1 ∨ j = (n + i) * 5 := by omega
      repeat' split
      all_goals first | rfl | omega
    · rw [if_neg (by omega), if_neg (by omega), if_neg (by omega), if_neg (by omega), if_neg (by omega), if_neg (by omega), if_neg h, if_neg (by omega), if_neg h3]

theorem ruleSp_next {R : Nat → Rul} {bs : Nat → Nat} {m i : Nat} (j : Nat) : (if j = (m + i) * 2 + 1 then Value.slice none 0 0 else if j = (m + i) * 2 then .int .i64 (-5) else ruleSt R bs m i j) = ruleSt R bs m (i + 1) j := by
  unfold ruleSt
  by_cases h : j < (m + i) * 2
  · rw [if_neg (by omega), if_neg (by omega)]
    by_cases h2 : j < m * 2
    · rw [if_pos h2, if_pos h2]
    · rw [if_neg h2, if_neg h2, if_pos h, if_pos (by omega)]
  · by_cases h3 : j < (m + (i + 1)) * 2
    · rw [if_neg (show ¬ j < m * 2 by omega), if_neg (show ¬ j < m * 2 by omega), if_pos h3]
      unfold ruleS
      by_cases h4 : j = (m + i) * 2 + 1
      · rw [if_pos h4, if_neg (by omega)]
      · rw [if_neg h4, if_pos (by omega), if_pos (by omega)]
    · rw [if_neg (by omega), if_neg (by omega), if_neg (by omega), if_neg h, if_neg (by omega), if_neg h3]

theorem five_row {wr : World} {b n i N q : Nat} {C : Nat → Cel} (hq : q = (n + i) * 5) (h : wr.rowIs b 46 N (cellSt C n i)) : (((((wr.setCell ⟨b, q, none⟩ (.int .i64 (-5))).setCell ⟨b, q + 1, none⟩ (.int .i64 (-5))).setCell ⟨b, q + 2, none⟩ (.int .i64 (-5))).setCell ⟨b, q + 3, none⟩ (.int .i64 (-5))).setCell ⟨b, q + 4, none⟩ (.int .i64 (-5))).rowIs b 46 N (cellSt C n (i + 1)) := by
  subst hq
  exact (((((h.set _ _).set _ _).set _ _).set _ _).set _ _).congr (fun j _ => cellSt_next j)

theorem five_below {w0 wr : World} {B b q : Nat} (hB : B ≤ b) (h : Below B w0 wr) : Below B w0 (((((wr.setCell ⟨b, q, none⟩ (.int .i64 (-5))).setCell ⟨b, q + 1, none⟩ (.int .i64 (-5))).setCell ⟨b, q + 2, none⟩ (.int .i64 (-5))).setCell ⟨b, q + 3, none⟩ (.int .i64 (-5))).setCell ⟨b, q + 4, none⟩ (.int .i64 (-5))) :=
  ((((h.setCell hB _).setCell hB _).setCell hB _).setCell hB _).setCell hB _

theorem five_other {wr : World} {b q b' t l : Nat} {f : Nat → Value} (hb : b' ≠ b) (g : wr.rowIs b' t l f) : (((((wr.setCell ⟨b, q, none⟩ (.int .i64 (-5))).setCell ⟨b, q + 1, none⟩ (.int .i64 (-5))).setCell ⟨b, q + 2, none⟩ (.int .i64 (-5))).setCell ⟨b, q + 3, none⟩ (.int .i64 (-5))).setCell ⟨b, q + 4, none⟩ (.int .i64 (-5))).rowIs b' t l f :=
  ((((g.setOther hb _).setOther hb _).setOther hb _).setOther hb _).setOther hb _

theorem two_row {W5 : World} {b m i q : Nat} {R : Nat → Rul} {bs : Nat → Nat} (hq : q = (m + i) * 2) (h : W5.rowIs b 44 ((m + 8) * 2) (ruleSt R bs m i)) : ((W5.setCell ⟨b, q, none⟩ (.int .i64 (-5))).setCell ⟨b, q + 1, none⟩ (.slice none 0 0)).rowIs b 44 ((m + 8) * 2) (ruleSt R bs m (i + 1)) := by
  subst hq
  exact ((h.set _ _).set _ _).congr (fun j _ => ruleSp_next j)

theorem two_below {w0 wr : World} {B b q : Nat} {x y : Value} (hB : B ≤ b) (h : Below B w0 wr) : Below B w0 ((wr.setCell ⟨b, q, none⟩ x).setCell ⟨b, q + 1, none⟩ y) := (h.setCell hB _).setCell hB _

theorem two_other {wr : World} {b q b' t l : Nat} {f : Nat → Value} {x y : Value} (hb : b' ≠ b) (g : wr.rowIs b' t l f) : ((wr.setCell ⟨b, q, none⟩ x).setCell ⟨b, q + 1, none⟩ y).rowIs b' t l f := (g.setOther hb _).setOther hb _

theorem two_next {w1 : World} {b m b1 k : Nat} {R : Nat → Rul} {bs : Nat → Nat} (h : w1.rowIs b 44 k (ruleSt R bs m 0)) : ((w1.setCell ⟨b, m * 2, none⟩ (.int .i64 (R m).guard)).setCell ⟨b, m * 2 + 1, none⟩ (.slice (some ⟨b1, 0, none⟩) (R m).steps.length ((R m).steps.length + 8))).rowIs b 44 k (ruleSt R (upd bs m b1) (m + 1) 0) := ((h.set _ _).set _ _).congr (fun j _ => ruleSt_next R bs m b1 j rfl)

def gf (week : Int) (j : Nat) : Value := if j = 2 then .int .i64 week else .slice none 0 0

theorem g_row {w wr : World} {o1 : Obj} {week : Int} (h : Below (w.heap.size + 1 + 1 + 1) (((w.alloc o1).alloc (.cells #[.slice none 0 0, .slice none 0 0, .int .i64 0, .slice none 0 0] 26)).alloc (.cells #[.slice none 0 0, .slice none 0 0, .int .i64 week, .slice none 0 0] 26)) wr) : wr.rowIs (w.heap.size + 1 + 1) 26 4 (gf week) := by
  have h1 := World.rowIs_alloc ((w.alloc o1).alloc (.cells #[.slice none 0 0, .slice none 0 0, .int .i64 0, .slice none 0 0] 26)) #[.slice none 0 0, .slice none 0 0, .int .i64 week, .slice none 0 0] 26 (gf week) (fun i hi => by
    have hi' : i = 0 ∨ i = 1 ∨ i = 2 ∨ i = 3 := by simp at hi; omega
    rcases hi' with rfl | rfl | rfl | rfl <;> rfl)
  simp only [World.size_alloc] at h1
  exact h1.of_block (h.block _ (by omega))

theorem r_row {w wr : World} {o1 o3 : Obj} (h : Below (w.heap.size + 1 + 1 + 1) (((w.alloc o1).alloc (.cells #[.slice none 0 0, .slice none 0 0, .int .i64 0, .slice none 0 0] 26)).alloc o3) wr) : wr.rowIs (w.heap.size + 1) 26 4 (gf 0) := by
  have h1 := World.rowIs_alloc (w.alloc o1) #[.slice none 0 0, .slice none 0 0, .int .i64 0, .slice none 0 0] 26 (gf 0) (fun i hi => by
    have hi' : i = 0 ∨ i = 1 ∨ i = 2 ∨ i = 3 := by simp at hi; omega
    rcases hi' with rfl | rfl | rfl | rfl <;> rfl)
  simp only [World.size_alloc] at h1
  exact (h1.alloc o3).of_block (h.block _ (by omega))

theorem set2_other {wr : World} {b o1 o2 b' t l : Nat} {f : Nat → Value} {x y : Value} (hb : b' ≠ b) (g : wr.rowIs b' t l f) : ((wr.setCell ⟨b, o1, none⟩ x).setCell ⟨b, o2, none⟩ y).rowIs b' t l f := (g.setOther hb _).setOther hb _

theorem set2_below {w0 wr : World} {B b o1 o2 : Nat} {x y : Value} (hB : B ≤ b) (h : Below B w0 wr) : Below B w0 ((wr.setCell ⟨b, o1, none⟩ x).setCell ⟨b, o2, none⟩ y) := (h.setCell hB _).setCell hB _

theorem set5_other {c1 c2 o1 o2 o3 o4 o5 : Nat} {v1 v2 v3 v4 v5 : Value} (w1 : World) : ∀ b t l f, b ≠ c1 → b ≠ c2 → w1.rowIs b t l f → (((((w1.setCell ⟨c1, o1, none⟩ v1).setCell ⟨c2, o2, none⟩ v2).setCell ⟨c2, o3, none⟩ v3).setCell ⟨c2, o4, none⟩ v4).setCell ⟨c2, o5, none⟩ v5).rowIs b t l f := fun b t l f h1 h2 g => ((((g.setOther h1 _).setOther h2 _).setOther h2 _).setOther h2 _).setOther h2 _

/-- What handed answers: lists of its own, with marked spare room. -/
def HandPost (C : Nat → Cel) (n : Nat) (R : Nat → Rul) (k : Nat) (hol : List Int) (week : Int) (w : World) (e : Ending) (w' : World) : Prop :=
  ∃ bc br bh bs, e = .returned (.agg #[.slice (some ⟨bc, 0, none⟩) n (n + 8), .slice (some ⟨br, 0, none⟩) k (k + 8), .int .i64 week, .slice (some ⟨bh, 0, none⟩) hol.length (hol.length + 8)]) ∧ w.heap.size ≤ bc ∧ bc < br ∧ br < bh ∧
    (∀ x, x < k → br < bs x ∧ bs x < bh ∧ w'.rowIs (bs x) 3 ((R x).steps.length + 8) (intSp (R x).steps)) ∧ w'.rowIs bc 46 ((n + 8) * 5) (cellSt C n 8) ∧ w'.rowIs br 44 ((k + 8) * 2) (ruleSt R bs k 8) ∧ w'.rowIs bh 3 (hol.length + 8) (intSp hol) ∧ Below w.heap.size w w'

theorem three_below {w wr : World} {o1 o2 o3 : Obj} (h : Below (w.heap.size + 1 + 1 + 1) (((w.alloc o1).alloc o2).alloc o3) wr) : Below (w.heap.size + 1) (w.alloc o1) wr :=
  (((Below.refl _ _).alloc (by simp) _).alloc (by simp) _).trans (h.mono (by omega))

set_option maxRecDepth 100000 in
set_option maxHeartbeats 1000000 in
theorem handed_any (C : Nat → Cel) (R : Nat → Rul) (hol : List Int) (aC aR aH : Option Addr) (n cC k cR cH : Nat) (week : Int) (w : World) (hn : n ≤ 1000000000) (hk : k ≤ 1000000000) (hhl : hol.length ≤ 1000000000)
    (hcs : CAt w aC n C) (hrs : RAt w aR k R) (hhs : IntsAt w (.slice aH hol.length cH) hol) :
    Calls Tryd.prog 6 #[.agg #[.slice aC n cC, .slice aR k cR, .int .i64 week, .slice aH hol.length cH]] w fun e w' => HandPost C n R k hol week w e w' := by
  have HRS := hid hrs
  have HHS := hid hhs
  have mk1 := run_make_is (P := Tryd.prog) 22 46 _ 5 40 Tryd.underlying22 info76 (n + 8) (by omega) (by omega)
  have mk2 := run_make_is (P := Tryd.prog) 23 44 _ 2 32 Tryd.underlying23 info80 (k + 8) (by omega) (by omega)
  rw [show (((n + 8 : Nat)) : Int) = (n : Int) + 8 by omega] at mk1
  rw [show (((k + 8 : Nat)) : Int) = (k : Int) + 8 by omega] at mk2
  have HB4 : Hid (Below w.heap.size w ((((w.alloc (.cells #[.slice aC n cC, .slice aR k cR, .int .i64 week, .slice aH hol.length cH] 26)).alloc (.cells #[.slice none 0 0, .slice none 0 0, .int .i64 0, .slice none 0 0] 26)).alloc (.cells #[.slice none 0 0, .slice none 0 0, .int .i64 week, .slice none 0 0] 26)).alloc (.cells (madeCells #[.int .i64 0, .int .i64 0, .int .i64 0, .int .i64 0, .int .i64 0] ((n + 8) * 5)) 46))) := ((((Below.refl _ _).alloc (Nat.le_refl _) _).alloc (by simp) _).alloc (by simp; omega) _).alloc (by simp; omega) _
  obtain ⟨Wc, hrun, hrow, hsz, ho1, ho2, ho3, hoth⟩ := run_copy_is (P := Tryd.prog) ((((w.alloc (.cells #[.slice aC n cC, .slice aR k cR, .int .i64 week, .slice aH hol.length cH] 26)).alloc (.cells #[.slice none 0 0, .slice none 0 0, .int .i64 0, .slice none 0 0] 26)).alloc (.cells #[.slice none 0 0, .slice none 0 0, .int .i64 week, .slice none 0 0] 26)).alloc (.cells (madeCells #[.int .i64 0, .int .i64 0, .int .i64 0, .int .i64 0, .int .i64 0] ((n + 8) * 5)) 46)) 22 22 3 46 5 (w.heap.size + 1 + 1 + 1) (n + 8) (n + 8) ((n + 8) * 5) 46 (fun _ => .int .i64 0) aC n cC (cellf C)
    Tryd.underlying22 size76 (row_made (z := .agg #[.int .i64 0, .int .i64 0, .int .i64 0, .int .i64 0, .int .i64 0]) (by simp) _ (fun j _ => by
      have h5 : j % 5 < 5 := Nat.mod_lt _ (by omega)
      have hs : ((Value.agg #[.int .i64 0, .int .i64 0, .int .i64 0, .int .i64 0, .int .i64 0]).cells).size = 5 := rfl
      rw [hs]
      have hc : j % 5 = 0 ∨ j % 5 = 1 ∨ j % 5 = 2 ∨ j % 5 = 3 ∨ j % 5 = 4 := by omega
      rcases hc with e | e | e | e | e <;> rw [e] <;> rfl)) (by omega) (by omega) (by
      rcases hcs with h0 | ⟨b, off, rfl, hb, hcell⟩
      · exact Or.inl (by omega)
      · refine Or.inr ⟨b, off, rfl, fun j hj => ?_⟩
        rw [HB4.out.cell (p := ⟨b, off + j, none⟩) hb]
        obtain ⟨g0, g1, g2, g3, g4⟩ := hcell (j / 5) (by omega)
        have hc : j = j / 5 * 5 ∨ j = j / 5 * 5 + 1 ∨ j = j / 5 * 5 + 2 ∨ j = j / 5 * 5 + 3 ∨ j = j / 5 * 5 + 4 := by omega
        generalize j / 5 = m at *
        rcases hc with rfl | rfl | rfl | rfl | rfl
        · rw [g0, cellf0]
        · rw [← Nat.add_assoc, g1, cellf1]
        · rw [← Nat.add_assoc, g2, cellf2]
        · rw [← Nat.add_assoc, g3, cellf3]
        · rw [← Nat.add_assoc, g4, cellf4]) cellf_one
  have HROW : Hid (Wc.rowIs (w.heap.size + 1 + 1 + 1) 46 ((n + 8) * 5) (cellSt C n 0)) := hrow.congr (fun j _ => cellSt_start j)
  have HSZ : Hid (Wc.heap.size = w.heap.size + 1 + 1 + 1 + 1) := by show Wc.heap.size = _; rw [hsz]; simp
  have HBC : Hid (Below (w.heap.size + 1 + 1 + 1) (((w.alloc (.cells #[.slice aC n cC, .slice aR k cR, .int .i64 week, .slice aH hol.length cH] 26)).alloc (.cells #[.slice none 0 0, .slice none 0 0, .int .i64 0, .slice none 0 0] 26)).alloc (.cells #[.slice none 0 0, .slice none 0 0, .int .i64 week, .slice none 0 0] 26)) Wc) := ((Below.refl _ _).alloc (by simp) _).trans ⟨ho1, ho2, ho3, by omega, fun k hk => hoth k (by omega)⟩
  clear hrow ho1 ho2 ho3 hoth hcs
  clear hsz
  have hgt : w.heap.size + 1 + 1 + 1 < Wc.heap.size := by rw [HSZ.out]; omega
  have q1 := boxed (three_below HBC.out) 1
  simp at q1
  have RZ := hid (ruleZ_made Wc R k)
  have RB : Hid (Below (w.heap.size + 1 + 1 + 1) (((w.alloc (.cells #[.slice aC n cC, .slice aR k cR, .int .i64 week, .slice aH hol.length cH] 26)).alloc (.cells #[.slice none 0 0, .slice none 0 0, .int .i64 0, .slice none 0 0] 26)).alloc (.cells #[.slice none 0 0, .slice none 0 0, .int .i64 week, .slice none 0 0] 26)) (Wc.alloc (.cells (madeCells #[.int .i64 0, .slice none 0 0] ((k + 8) * 2)) 44))) := HBC.out.alloc (by omega) _
  have RC : Hid ((Wc.alloc (.cells (madeCells #[.int .i64 0, .slice none 0 0] ((k + 8) * 2)) 44)).rowIs (w.heap.size + 1 + 1 + 1) 46 ((n + 8) * 5) (cellSt C n 0)) := HROW.out.alloc _
  go_enter Tryd.func6, Tryd.ntmps6
  go_wp2_with fail
  clear mk1 mk2 hrun q1
  go_loopw [8] (fun t wr => ∃ (m : Nat) (bs : Nat → Nat), m ≤ k ∧ t = .int .i64 m ∧ Hid (Below (w.heap.size + 1 + 1 + 1) (((w.alloc (.cells #[.slice aC n cC, .slice aR k cR, .int .i64 week, .slice aH hol.length cH] 26)).alloc (.cells #[.slice none 0 0, .slice none 0 0, .int .i64 0, .slice none 0 0] 26)).alloc (.cells #[.slice none 0 0, .slice none 0 0, .int .i64 week, .slice none 0 0] 26)) wr) ∧ Hid (wr.rowIs (w.heap.size + 1 + 1 + 1) 46 ((n + 8) * 5) (cellSt C n 0)) ∧ Hid (wr.rowIs (Wc.heap.size) 44 ((k + 8) * 2) (ruleSt R bs m 0)) ∧ Hid (∀ i, i < m → Wc.heap.size < bs i ∧ wr.rowIs (bs i) 3 ((R i).steps.length + 8) (intSp (R i).steps))) (fun t _ => k - (intOf t).toNat)
  case atStart => exact ⟨0, fun _ => 0, by omega, rfl, RB, RC, RZ, fun i hi => by omega⟩
  case round =>
    obtain ⟨m, bs, m1, rfl, hb, hcr, hrr, hst⟩ := hrel
    have q1 := boxed (three_below hb.out) 1
    simp at q1
    by_cases hmt : m < k
    · rcases HRS.out with h0 | ⟨bR, oR, rfl, hbr, hru⟩
      · omega
      have hbw := hid (boxed_below (three_below hb.out))
      obtain ⟨u0, ast, caps, u1, u2, u3⟩ := (hru m hmt).below hbw.out hbr (Nat.le_refl _)
      have HU2 := hid u2
      have lt' : (m : Int) < (k : Int) := by omega
      clear u2 hru
      go_wp2_with fail
      refine (ints_any (R m).steps ast caps _ u3 HU2.out).mono ?_
      rintro e w1 ⟨b1, rfl, hb1, hrow1, hbel1⟩
      have HROW1 := hid hrow1
      have hlt4 := hrr.out.lt
      have HB1 : Hid (Below (w.heap.size + 1 + 1 + 1) (((w.alloc (.cells #[.slice aC n cC, .slice (some ⟨bR, oR, none⟩) k cR, .int .i64 week, .slice aH hol.length cH] 26)).alloc (.cells #[.slice none 0 0, .slice none 0 0, .int .i64 0, .slice none 0 0] 26)).alloc (.cells #[.slice none 0 0, .slice none 0 0, .int .i64 week, .slice none 0 0] 26)) w1) := hb.out.trans (hbel1.mono (by omega))
      have HC1 := hid (hcr.out.of_block (hbel1.block _ hcr.out.lt))
      have HR1 := hid (hrr.out.of_block (hbel1.block _ hrr.out.lt))
      have HS1 : Hid (∀ i, i < m → Wc.heap.size < bs i ∧ w1.rowIs (bs i) 3 ((R i).steps.length + 8) (intSp (R i).steps)) := fun i hi => ⟨(hst.out i hi).1, (hst.out i hi).2.of_block (hbel1.block _ (hst.out i hi).2.lt)⟩
      have p1 := boxed (three_below HB1.out) 1
      simp at p1
      have hbw1 := hid (boxed_below (three_below HB1.out))
      have v0 : w1.cell? ⟨bR, oR + m * 2, none⟩ = some (.int .i64 (R m).guard) := by rw [hbw1.out.cell (p := ⟨bR, oR + m * 2, none⟩) hbr, ← hbw.out.cell (p := ⟨bR, oR + m * 2, none⟩) hbr]; exact u0
      have s0 := HR1.out.cell (i := m * 2) (by omega)
      have s1 := HR1.out.frozen (m * 2)
      have s2 : ∀ x, (w1.setCell ⟨Wc.heap.size, m * 2, none⟩ x).cell? ⟨Wc.heap.size, m * 2 + 1, none⟩ = some (ruleSt R bs m 0 (m * 2 + 1)) := fun x => cell_no (by omega) (HR1.out.cell (by omega))
      have s3 := HR1.out.frozen (m * 2 + 1)
      clear hrow1 hbel1 q1 u0 u1
      have R2 : Hid (((w1.setCell ⟨Wc.heap.size, m * 2, none⟩ (.int .i64 (R m).guard)).setCell ⟨Wc.heap.size, m * 2 + 1, none⟩ (.slice (some ⟨b1, 0, none⟩) (R m).steps.length ((R m).steps.length + 8))).rowIs Wc.heap.size 44 ((k + 8) * 2) (ruleSt R (upd bs m b1) (m + 1) 0)) := two_next HR1.out
      have B2 : Hid (Below (w.heap.size + 1 + 1 + 1) (((w.alloc (.cells #[.slice aC n cC, .slice (some ⟨bR, oR, none⟩) k cR, .int .i64 week, .slice aH hol.length cH] 26)).alloc (.cells #[.slice none 0 0, .slice none 0 0, .int .i64 0, .slice none 0 0] 26)).alloc (.cells #[.slice none 0 0, .slice none 0 0, .int .i64 week, .slice none 0 0] 26)) ((w1.setCell ⟨Wc.heap.size, m * 2, none⟩ (.int .i64 (R m).guard)).setCell ⟨Wc.heap.size, m * 2 + 1, none⟩ (.slice (some ⟨b1, 0, none⟩) (R m).steps.length ((R m).steps.length + 8)))) := two_below (by omega) HB1.out
      have C2 : Hid (((w1.setCell ⟨Wc.heap.size, m * 2, none⟩ (.int .i64 (R m).guard)).setCell ⟨Wc.heap.size, m * 2 + 1, none⟩ (.slice (some ⟨b1, 0, none⟩) (R m).steps.length ((R m).steps.length + 8))).rowIs (w.heap.size + 1 + 1 + 1) 46 ((n + 8) * 5) (cellSt C n 0)) := two_other (by omega) HC1.out
      have S2 : Hid (∀ i, i < m + 1 → Wc.heap.size < upd bs m b1 i ∧ ((w1.setCell ⟨Wc.heap.size, m * 2, none⟩ (.int .i64 (R m).guard)).setCell ⟨Wc.heap.size, m * 2 + 1, none⟩ (.slice (some ⟨b1, 0, none⟩) (R m).steps.length ((R m).steps.length + 8))).rowIs (upd bs m b1 i) 3 ((R i).steps.length + 8) (intSp (R i).steps)) := fun i hi => by
        by_cases e : i = m
        · subst e
          rw [upd_same]
          exact ⟨by omega, two_other (by omega) HROW1.out⟩
        · rw [upd_other _ _ e]
          obtain ⟨y1, y2⟩ := HS1.out i (by omega)
          exact ⟨y1, two_other (by omega) y2⟩
      go_wp2
      go_roundw
      case rel => exact ⟨m + 1, upd bs m b1, by omega, by go_num, B2, C2, R2, S2⟩
      case measure => simp [intOf]; omega
    · obtain rfl : m = k := by omega
      go_wp2
      go_loopw [10] (fun t wr => ∃ i : Nat, i ≤ 8 ∧ t = .int .i64 i ∧ Hid (Below (w.heap.size + 1 + 1 + 1) (((w.alloc (.cells #[.slice aC n cC, .slice aR m cR, .int .i64 week, .slice aH hol.length cH] 26)).alloc (.cells #[.slice none 0 0, .slice none 0 0, .int .i64 0, .slice none 0 0] 26)).alloc (.cells #[.slice none 0 0, .slice none 0 0, .int .i64 week, .slice none 0 0] 26)) wr) ∧ Hid (wr.rowIs (w.heap.size + 1 + 1 + 1) 46 ((n + 8) * 5) (cellSt C n i)) ∧ Hid (wr.rowIs Wc.heap.size 44 ((m + 8) * 2) (ruleSt R bs m i)) ∧ Hid (∀ i, i < m → Wc.heap.size < bs i ∧ wr.rowIs (bs i) 3 ((R i).steps.length + 8) (intSp (R i).steps))) (fun t _ => 8 - (intOf t).toNat)
      case atStart => exact ⟨0, by omega, rfl, hb, hcr, hrr, hst⟩
      case round =>
        clear hb hcr hrr hst q1
        obtain ⟨i, i1, rfl, hb, hcr, hrr, hst⟩ := hrel
        by_cases hit : i < 8
        · have a0 := hcr.out.cell (i := (n + i) * 5) (by omega)
          have a1 := hcr.out.cell (i := (n + i) * 5 + 1) (by omega)
          have a2 := hcr.out.cell (i := (n + i) * 5 + 2) (by omega)
          have a3 := hcr.out.cell (i := (n + i) * 5 + 3) (by omega)
          have a4 := hcr.out.cell (i := (n + i) * 5 + 4) (by omega)
          have fz : ∀ j, wr.frozen? ⟨w.heap.size + 1 + 1 + 1, j, none⟩ = false := fun j => hcr.out.frozen j
          have fy : ∀ j, wr.frozen? ⟨Wc.heap.size, j, none⟩ = false := fun j => hrr.out.frozen j
          go_upto_region 16 with (fail)
          clear a0 a1 a2 a3 a4
          have C5 : (((((wr.setCell ⟨w.heap.size + 1 + 1 + 1, (n + i) * 5, none⟩ (.int .i64 (-5))).setCell ⟨w.heap.size + 1 + 1 + 1, (n + i) * 5 + 1, none⟩ (.int .i64 (-5))).setCell ⟨w.heap.size + 1 + 1 + 1, (n + i) * 5 + 2, none⟩ (.int .i64 (-5))).setCell ⟨w.heap.size + 1 + 1 + 1, (n + i) * 5 + 3, none⟩ (.int .i64 (-5))).setCell ⟨w.heap.size + 1 + 1 + 1, (n + i) * 5 + 4, none⟩ (.int .i64 (-5))).rowIs (w.heap.size + 1 + 1 + 1) 46 ((n + 8) * 5) (cellSt C n (i + 1)) := five_row rfl hcr.out
          have B5 : Below (w.heap.size + 1 + 1 + 1) (((w.alloc (.cells #[.slice aC n cC, .slice aR m cR, .int .i64 week, .slice aH hol.length cH] 26)).alloc (.cells #[.slice none 0 0, .slice none 0 0, .int .i64 0, .slice none 0 0] 26)).alloc (.cells #[.slice none 0 0, .slice none 0 0, .int .i64 week, .slice none 0 0] 26)) (((((wr.setCell ⟨w.heap.size + 1 + 1 + 1, (n + i) * 5, none⟩ (.int .i64 (-5))).setCell ⟨w.heap.size + 1 + 1 + 1, (n + i) * 5 + 1, none⟩ (.int .i64 (-5))).setCell ⟨w.heap.size + 1 + 1 + 1, (n + i) * 5 + 2, none⟩ (.int .i64 (-5))).setCell ⟨w.heap.size + 1 + 1 + 1, (n + i) * 5 + 3, none⟩ (.int .i64 (-5))).setCell ⟨w.heap.size + 1 + 1 + 1, (n + i) * 5 + 4, none⟩ (.int .i64 (-5))) := five_below (Nat.le_refl _) hb.out
          have R5 : Hid ((((((wr.setCell ⟨w.heap.size + 1 + 1 + 1, (n + i) * 5, none⟩ (.int .i64 (-5))).setCell ⟨w.heap.size + 1 + 1 + 1, (n + i) * 5 + 1, none⟩ (.int .i64 (-5))).setCell ⟨w.heap.size + 1 + 1 + 1, (n + i) * 5 + 2, none⟩ (.int .i64 (-5))).setCell ⟨w.heap.size + 1 + 1 + 1, (n + i) * 5 + 3, none⟩ (.int .i64 (-5))).setCell ⟨w.heap.size + 1 + 1 + 1, (n + i) * 5 + 4, none⟩ (.int .i64 (-5))).rowIs Wc.heap.size 44 ((m + 8) * 2) (ruleSt R bs m i)) := five_other (by omega) hrr.out
          have S5 : Hid (∀ x, x < m → Wc.heap.size < bs x ∧ (((((wr.setCell ⟨w.heap.size + 1 + 1 + 1, (n + i) * 5, none⟩ (.int .i64 (-5))).setCell ⟨w.heap.size + 1 + 1 + 1, (n + i) * 5 + 1, none⟩ (.int .i64 (-5))).setCell ⟨w.heap.size + 1 + 1 + 1, (n + i) * 5 + 2, none⟩ (.int .i64 (-5))).setCell ⟨w.heap.size + 1 + 1 + 1, (n + i) * 5 + 3, none⟩ (.int .i64 (-5))).setCell ⟨w.heap.size + 1 + 1 + 1, (n + i) * 5 + 4, none⟩ (.int .i64 (-5))).rowIs (bs x) 3 ((R x).steps.length + 8) (intSp (R x).steps)) := fun x hx => ⟨(hst.out x hx).1, five_other (by have := (hst.out x hx).1; omega) (hst.out x hx).2⟩
          have HC5 := hid C5
          have HB5 := hid B5
          clear C5 B5 fz fy hb hcr hrr hst
          generalize (((((wr.setCell ⟨w.heap.size + 1 + 1 + 1, (n + i) * 5, none⟩ (.int .i64 (-5))).setCell ⟨w.heap.size + 1 + 1 + 1, (n + i) * 5 + 1, none⟩ (.int .i64 (-5))).setCell ⟨w.heap.size + 1 + 1 + 1, (n + i) * 5 + 2, none⟩ (.int .i64 (-5))).setCell ⟨w.heap.size + 1 + 1 + 1, (n + i) * 5 + 3, none⟩ (.int .i64 (-5))).setCell ⟨w.heap.size + 1 + 1 + 1, (n + i) * 5 + 4, none⟩ (.int .i64 (-5))) = W5 at *
          have b0 := R5.out.cell (i := (m + i) * 2) (by omega)
          have b1 : ∀ x, (W5.setCell ⟨Wc.heap.size, (m + i) * 2, none⟩ x).cell? ⟨Wc.heap.size, (m + i) * 2 + 1, none⟩ = some (ruleSt R bs m i ((m + i) * 2 + 1)) := fun x => cell_no (by omega) (R5.out.cell (by omega))
          have fy : ∀ j, W5.frozen? ⟨Wc.heap.size, j, none⟩ = false := fun j => R5.out.frozen j
          have R6 : Hid (((W5.setCell ⟨Wc.heap.size, (m + i) * 2, none⟩ (.int .i64 (-5))).setCell ⟨Wc.heap.size, (m + i) * 2 + 1, none⟩ (.slice none 0 0)).rowIs Wc.heap.size 44 ((m + 8) * 2) (ruleSt R bs m (i + 1))) := two_row rfl R5.out
          have B6 : Hid (Below (w.heap.size + 1 + 1 + 1) (((w.alloc (.cells #[.slice aC n cC, .slice aR m cR, .int .i64 week, .slice aH hol.length cH] 26)).alloc (.cells #[.slice none 0 0, .slice none 0 0, .int .i64 0, .slice none 0 0] 26)).alloc (.cells #[.slice none 0 0, .slice none 0 0, .int .i64 week, .slice none 0 0] 26)) ((W5.setCell ⟨Wc.heap.size, (m + i) * 2, none⟩ (.int .i64 (-5))).setCell ⟨Wc.heap.size, (m + i) * 2 + 1, none⟩ (.slice none 0 0))) := two_below (by omega) HB5.out
          have C6 : Hid (((W5.setCell ⟨Wc.heap.size, (m + i) * 2, none⟩ (.int .i64 (-5))).setCell ⟨Wc.heap.size, (m + i) * 2 + 1, none⟩ (.slice none 0 0)).rowIs (w.heap.size + 1 + 1 + 1) 46 ((n + 8) * 5) (cellSt C n (i + 1))) := two_other (by omega) HC5.out
          have S6 : Hid (∀ i', i' < m → Wc.heap.size < bs i' ∧ ((W5.setCell ⟨Wc.heap.size, (m + i) * 2, none⟩ (.int .i64 (-5))).setCell ⟨Wc.heap.size, (m + i) * 2 + 1, none⟩ (.slice none 0 0)).rowIs (bs i') 3 ((R i').steps.length + 8) (intSp (R i').steps)) := fun i' hi => by
            obtain ⟨y1, y2⟩ := S5.out i' hi
            exact ⟨y1, two_other (by omega) y2⟩
          go_wp2
          go_roundw
          case rel => exact ⟨i + 1, by omega, by go_num, B6, C6, R6, S6⟩
          case measure => simp [intOf]; omega
        · obtain rfl : i = 8 := by omega
          have e3 := boxed (three_below hb.out) 3
          simp at e3
          have hbw := hid (boxed_below (three_below hb.out))
          have zz := hcr.out.lt
          have zr := hrr.out.lt
          have GR := hid (g_row (hb.out))
          have RR := hid (r_row (hb.out))
          have d0 := GR.out.cell (i := 0) (by omega)
          have d1 := GR.out.cell (i := 1) (by omega)
          have d2 := GR.out.cell (i := 2) (by omega)
          have d3 := GR.out.cell (i := 3) (by omega)
          have dz : ∀ j, wr.frozen? ⟨w.heap.size + 1 + 1, j, none⟩ = false := fun j => GR.out.frozen j
          simp [gf] at d0 d1 d2 d3
          go_wp2_with fail
          have GG : ((wr.setCell ⟨w.heap.size + 1 + 1, 0, none⟩ (.slice (some ⟨w.heap.size + 1 + 1 + 1, 0, none⟩) n (n + 8))).setCell ⟨w.heap.size + 1 + 1, 1, none⟩ (.slice (some ⟨Wc.heap.size, 0, none⟩) m (m + 8))).rowIs (w.heap.size + 1 + 1) 26 4 (fun j => if j = 1 then .slice (some ⟨Wc.heap.size, 0, none⟩) m (m + 8) else if j = 0 then .slice (some ⟨w.heap.size + 1 + 1 + 1, 0, none⟩) n (n + 8) else gf week j) := (GR.out.set _ _).set _ _
          have GRR : ((wr.setCell ⟨w.heap.size + 1 + 1, 0, none⟩ (.slice (some ⟨w.heap.size + 1 + 1 + 1, 0, none⟩) n (n + 8))).setCell ⟨w.heap.size + 1 + 1, 1, none⟩ (.slice (some ⟨Wc.heap.size, 0, none⟩) m (m + 8))).rowIs (w.heap.size + 1) 26 4 (gf 0) := set2_other (by omega) RR.out
          have GC : ((wr.setCell ⟨w.heap.size + 1 + 1, 0, none⟩ (.slice (some ⟨w.heap.size + 1 + 1 + 1, 0, none⟩) n (n + 8))).setCell ⟨w.heap.size + 1 + 1, 1, none⟩ (.slice (some ⟨Wc.heap.size, 0, none⟩) m (m + 8))).rowIs (w.heap.size + 1 + 1 + 1) 46 ((n + 8) * 5) (cellSt C n 8) := set2_other (by omega) hcr.out
          have GU : ((wr.setCell ⟨w.heap.size + 1 + 1, 0, none⟩ (.slice (some ⟨w.heap.size + 1 + 1 + 1, 0, none⟩) n (n + 8))).setCell ⟨w.heap.size + 1 + 1, 1, none⟩ (.slice (some ⟨Wc.heap.size, 0, none⟩) m (m + 8))).rowIs Wc.heap.size 44 ((m + 8) * 2) (ruleSt R bs m 8) := set2_other (by omega) hrr.out
          have GS : ∀ x, x < m → Wc.heap.size < bs x ∧ ((wr.setCell ⟨w.heap.size + 1 + 1, 0, none⟩ (.slice (some ⟨w.heap.size + 1 + 1 + 1, 0, none⟩) n (n + 8))).setCell ⟨w.heap.size + 1 + 1, 1, none⟩ (.slice (some ⟨Wc.heap.size, 0, none⟩) m (m + 8))).rowIs (bs x) 3 ((R x).steps.length + 8) (intSp (R x).steps) := fun x hx => ⟨(hst.out x hx).1, set2_other (by have := (hst.out x hx).1; omega) (hst.out x hx).2⟩
          have GB : Below w.heap.size w ((wr.setCell ⟨w.heap.size + 1 + 1, 0, none⟩ (.slice (some ⟨w.heap.size + 1 + 1 + 1, 0, none⟩) n (n + 8))).setCell ⟨w.heap.size + 1 + 1, 1, none⟩ (.slice (some ⟨Wc.heap.size, 0, none⟩) m (m + 8))) := set2_below (by omega) hbw.out
          have HGG := hid GG
          have HGRR := hid GRR
          have HGC := hid GC
          have HGU := hid GU
          have HGS := hid GS
          have HGB := hid GB
          clear GG GRR GC GU GS GB GR RR hb hcr hrr hst hbw d0 d1 d2 d3 dz e3 zz zr
          generalize ((wr.setCell ⟨w.heap.size + 1 + 1, 0, none⟩ (.slice (some ⟨w.heap.size + 1 + 1 + 1, 0, none⟩) n (n + 8))).setCell ⟨w.heap.size + 1 + 1, 1, none⟩ (.slice (some ⟨Wc.heap.size, 0, none⟩) m (m + 8))) = G2 at *
          have zc := HGC.out.lt
          have zu := HGU.out.lt
          refine (ints_any hol aH cH G2 hhl (SlAt.below HHS.out HGB.out (Nat.le_refl _))).mono ?_
          rintro e w1 ⟨b1, rfl, hb1, hrow1, hbel1⟩
          have I0 := hid hrow1
          have I1 := hid (HGG.out.of_block (hbel1.block _ HGG.out.lt))
          have I2 := hid (HGRR.out.of_block (hbel1.block _ HGRR.out.lt))
          have I3 := hid (HGC.out.of_block (hbel1.block _ HGC.out.lt))
          have I4 := hid (HGU.out.of_block (hbel1.block _ HGU.out.lt))
          have I5 : Hid (∀ x, x < m → Wc.heap.size < bs x ∧ bs x < b1 ∧ w1.rowIs (bs x) 3 ((R x).steps.length + 8) (intSp (R x).steps)) := fun x hx => ⟨(HGS.out x hx).1, by have := (HGS.out x hx).2.lt; omega, (HGS.out x hx).2.of_block (hbel1.block _ (HGS.out x hx).2.lt)⟩
          have I6 : Hid (Below w.heap.size w w1) := HGB.out.trans (hbel1.mono (by have := HGB.out.size; omega))
          clear hrow1 hbel1 HGG HGRR HGC HGU HGS HGB
          have d0 := I1.out.cell (i := 0) (by omega)
          have d1 := I1.out.cell (i := 1) (by omega)
          have d2 := I1.out.cell (i := 2) (by omega)
          have d3 := I1.out.cell (i := 3) (by omega)
          have dz : ∀ j, w1.frozen? ⟨w.heap.size + 1 + 1, j, none⟩ = false := fun j => I1.out.frozen j
          have r0 := I2.out.cell (i := 0) (by omega)
          have r1 := I2.out.cell (i := 1) (by omega)
          have r2 := I2.out.cell (i := 2) (by omega)
          have r3 := I2.out.cell (i := 3) (by omega)
          have rz : ∀ j, w1.frozen? ⟨w.heap.size + 1, j, none⟩ = false := fun j => I2.out.frozen j
          simp [gf] at d0 d1 d2 d3 r0 r1 r2 r3
          have P0 : Hid ((((((w1.setCell ⟨w.heap.size + 1 + 1, 3, none⟩ (.slice (some ⟨b1, 0, none⟩) hol.length (hol.length + 8))).setCell ⟨w.heap.size + 1, 0, none⟩ (.slice (some ⟨w.heap.size + 1 + 1 + 1, 0, none⟩) n (n + 8))).setCell ⟨w.heap.size + 1, 1, none⟩ (.slice (some ⟨Wc.heap.size, 0, none⟩) m (m + 8))).setCell ⟨w.heap.size + 1, 2, none⟩ (.int .i64 week)).setCell ⟨w.heap.size + 1, 3, none⟩ (.slice (some ⟨b1, 0, none⟩) hol.length (hol.length + 8))).rowIs (w.heap.size + 1) 26 4 (fun j => if j = 3 then .slice (some ⟨b1, 0, none⟩) hol.length (hol.length + 8) else if j = 2 then .int .i64 week else if j = 1 then .slice (some ⟨Wc.heap.size, 0, none⟩) m (m + 8) else if j = 0 then .slice (some ⟨w.heap.size + 1 + 1 + 1, 0, none⟩) n (n + 8) else gf 0 j)) := ((((I2.out.setOther (by show _ ≠ w.heap.size + 1 + 1; omega) _).set _ _).set _ _).set _ _).set _ _
          have P1 := hid (set5_other (o1 := 3) (o2 := 0) (o3 := 1) (o4 := 2) (o5 := 3) (v1 := .slice (some ⟨b1, 0, none⟩) hol.length (hol.length + 8)) (v2 := .slice (some ⟨w.heap.size + 1 + 1 + 1, 0, none⟩) n (n + 8)) (v3 := .slice (some ⟨Wc.heap.size, 0, none⟩) m (m + 8)) (v4 := .int .i64 week) (v5 := .slice (some ⟨b1, 0, none⟩) hol.length (hol.length + 8)) (c1 := w.heap.size + 1 + 1) (c2 := w.heap.size + 1) w1)
          have P2 : Hid (Below w.heap.size w (((((w1.setCell ⟨w.heap.size + 1 + 1, 3, none⟩ (.slice (some ⟨b1, 0, none⟩) hol.length (hol.length + 8))).setCell ⟨w.heap.size + 1, 0, none⟩ (.slice (some ⟨w.heap.size + 1 + 1 + 1, 0, none⟩) n (n + 8))).setCell ⟨w.heap.size + 1, 1, none⟩ (.slice (some ⟨Wc.heap.size, 0, none⟩) m (m + 8))).setCell ⟨w.heap.size + 1, 2, none⟩ (.int .i64 week)).setCell ⟨w.heap.size + 1, 3, none⟩ (.slice (some ⟨b1, 0, none⟩) hol.length (hol.length + 8)))) := ((((I6.out.setCell (by show _ ≤ w.heap.size + 1 + 1; omega) _).setCell (by show _ ≤ w.heap.size + 1; omega) _).setCell (by show _ ≤ w.heap.size + 1; omega) _).setCell (by show _ ≤ w.heap.size + 1; omega) _).setCell (by show _ ≤ w.heap.size + 1; omega) _
          go_wp2
          have x0 := P0.out.cell (i := 0) (by omega)
          have x1 := P0.out.cell (i := 1) (by omega)
          have x2 := P0.out.cell (i := 2) (by omega)
          have x3 := P0.out.cell (i := 3) (by omega)
          simp at x0 x1 x2 x3
          have Q : HandPost C n R m hol week w (.returned (.agg #[.slice (some ⟨w.heap.size + 1 + 1 + 1, 0, none⟩) n (n + 8), .slice (some ⟨Wc.heap.size, 0, none⟩) m (m + 8), .int .i64 week, .slice (some ⟨b1, 0, none⟩) hol.length (hol.length + 8)])) (((((w1.setCell ⟨w.heap.size + 1 + 1, 3, none⟩ (.slice (some ⟨b1, 0, none⟩) hol.length (hol.length + 8))).setCell ⟨w.heap.size + 1, 0, none⟩ (.slice (some ⟨w.heap.size + 1 + 1 + 1, 0, none⟩) n (n + 8))).setCell ⟨w.heap.size + 1, 1, none⟩ (.slice (some ⟨Wc.heap.size, 0, none⟩) m (m + 8))).setCell ⟨w.heap.size + 1, 2, none⟩ (.int .i64 week)).setCell ⟨w.heap.size + 1, 3, none⟩ (.slice (some ⟨b1, 0, none⟩) hol.length (hol.length + 8))) :=
            ⟨w.heap.size + 1 + 1 + 1, Wc.heap.size, b1, bs, rfl, by omega, by omega, by omega, fun x hx => ⟨(I5.out x hx).1, (I5.out x hx).2.1, P1.out _ _ _ _ (by have := (I5.out x hx).1; omega) (by have := (I5.out x hx).1; omega) (I5.out x hx).2.2⟩, P1.out _ _ _ _ (by omega) (by omega) I3.out, P1.out _ _ _ _ (by omega) (by omega) I4.out, P1.out _ _ _ _ (by omega) (by omega) I0.out, P2.out⟩
          have HQ := hid Q
          clear Q
          generalize (((((w1.setCell ⟨w.heap.size + 1 + 1, 3, none⟩ (.slice (some ⟨b1, 0, none⟩) hol.length (hol.length + 8))).setCell ⟨w.heap.size + 1, 0, none⟩ (.slice (some ⟨w.heap.size + 1 + 1 + 1, 0, none⟩) n (n + 8))).setCell ⟨w.heap.size + 1, 1, none⟩ (.slice (some ⟨Wc.heap.size, 0, none⟩) m (m + 8))).setCell ⟨w.heap.size + 1, 2, none⟩ (.int .i64 week)).setCell ⟨w.heap.size + 1, 3, none⟩ (.slice (some ⟨b1, 0, none⟩) hol.length (hol.length + 8))) = FW at *
          exact bodyPost_ret (v := .agg #[.slice (some ⟨w.heap.size + 1 + 1 + 1, 0, none⟩) n (n + 8), .slice (some ⟨Wc.heap.size, 0, none⟩) m (m + 8), .int .i64 week, .slice (some ⟨b1, 0, none⟩) hol.length (hol.length + 8)]) (by simp [results, Tryd.results6, go_sem, x0, x1, x2, x3]) rfl HQ.out

end Go.Proofs.YtcondcffllaaoaaDoor
