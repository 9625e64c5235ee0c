/-
  MEMORY: copy, as a law on rows; a list with spare room.
-/
import Derived.Test.YtmofidaojmiepaaGreatDoorGW18
import Derived.Laws.CopyOwn
import Derived.Deep.Cut
set_option linter.unusedVariables false
set_option linter.unusedSimpArgs false
namespace Go.Proofs.YtmofidaojmiepaaGreatDoor

open Go.RowKit

/-- copy from the start of a row's own room on: sLen elements of sz cells each. -/
theorem run_copy_is {P : Program} (w : World) (dT sT ty elem : TypeId) (sz g dLen dCap N : Nat) (t : TypeId) (f : Nat → Value) (sp : Option Addr) (sLen sCap : Nat) (h : Nat → Value)
    (hu : P.underlying dT = some (.slice elem)) (hs : (P.info? elem).map (·.size) = some sz) (hrow : w.rowIs g t N f) (hle : sLen ≤ dLen) (hfit : sLen * sz ≤ N)
    (hsrc : sLen * sz = 0 ∨ ∃ b o, sp = some ⟨b, o, none⟩ ∧ ∀ j, j < sLen * sz → w.cell? ⟨b, o + j, none⟩ = some (h j)) (h1 : ∀ j, j < sLen * sz → (h j).oneCell' = true) :
    ∃ w', (Builtin.copy_ #[dT, sT] ty #[.slice (some ⟨g, 0, none⟩) dLen dCap, .slice sp sLen sCap]).run P w = .ok (goInt sLen) w' ∧ w'.rowIs g t N (fun j => if j < sLen * sz then h j else f j) ∧ w'.heap.size = w.heap.size ∧ w'.os = w.os ∧ w'.tape = w.tape ∧ w'.output = w.output ∧ ∀ k, k ≠ g → w'.heap[k]? = w.heap[k]? := by
  obtain ⟨cur, hg, hcn, hcf⟩ := hrow
  cases hq : P.info? elem with
  | none => simp [hq] at hs
  | some i =>
    have hi : i.size = sz := by simpa [hq] using hs
    have hmin : Nat.min sLen dLen = sLen := Nat.min_eq_left hle
    by_cases h0 : sLen * sz = 0
    · refine ⟨w, ?_, ⟨cur, hg, hcn, fun j hj => by simp only [h0, Nat.not_lt_zero, if_false]; exact hcf j hj⟩, rfl, rfl, rfl, rfl, fun _ _ => rfl⟩
      have hl : ∀ (x : Addr), (loadCells x 0).run P w = .ok #[] w := fun x => by simpa using run_loadCells_list (P := P) w x [] (by simp)
      have h0' : sz * sLen = 0 := by rw [Nat.mul_comm]; exact h0
      cases sp <;> simp [Builtin.copy_, run_underlying hu, Builtin.lenOf, Builtin.firstCells, sizeOf, typeInfo, hq, hi, hmin, storeCells, hl, h0, h0']
    · obtain ⟨b, o, rfl, hsc⟩ : ∃ b o, sp = some ⟨b, o, none⟩ ∧ ∀ j, j < sLen * sz → w.cell? ⟨b, o + j, none⟩ = some (h j) := by
        rcases hsrc with e | e
        · exact (h0 e).elim
        · exact e
      let cs : List Value := (List.range (sLen * sz)).map h
      have hcl : cs.length = sLen * sz := by simp [cs]
      have hadd : ∀ j, (⟨b, o, none⟩ : Addr).add j = ⟨b, o + j, none⟩ := fun j => by unfold Addr.add; split <;> simp_all
      have hl := run_loadCells_list (P := P) w ⟨b, o, none⟩ cs (fun j v hv => by
        have hj : j < sLen * sz := by
          obtain ⟨hj, _⟩ := List.getElem?_eq_some_iff.1 hv
          rw [hcl] at hj; exact hj
        rw [hadd, hsc j hj]
        simp [cs, hj] at hv
        rw [hv])
      have hst := run_storeCells_at P g 0 t cs 0 cur w hg (by rw [hcl, hcn]; omega) (fun v hv => by
        obtain ⟨j, hj, rfl⟩ := List.mem_map.1 hv
        exact h1 j (List.mem_range.1 hj))
      simp only [Nat.zero_add, List.take_zero, List.nil_append] at hst
      generalize hX : (cs ++ cur.toList.drop cs.length).toArray = X at *
      refine ⟨w.setRow g X, ?_, ⟨X, setRow_heap w g cur X t _ hg, ?_, fun j hj => ?_⟩, by simp, rfl, rfl, rfl, fun k hk => setRow_other w g k _ hk⟩
      · rw [hcl] at hl
        have hl' : (loadCells ⟨b, o, none⟩ (sz * sLen)).run P w = .ok cs.toArray w := by rw [Nat.mul_comm]; exact hl
        simp [Builtin.copy_, run_underlying hu, Builtin.lenOf, Builtin.firstCells, sizeOf, typeInfo, hq, hi, hmin, hl, hl', hst]
      · rw [← hX]; simp [hcl, hcn]; omega
      · rw [← hX]; simp only [List.getElem?_toArray]
        by_cases hj2 : j < sLen * sz
        · rw [List.getElem?_append_left (by rw [hcl]; exact hj2), if_pos hj2]; simp [cs, hj2]
        · rw [List.getElem?_append_right (by rw [hcl]; omega), if_neg hj2, hcl, List.getElem?_drop, show sLen * sz + (j - sLen * sz) = j by omega]
          have := hcf j hj
          simpa using this

/-- A row of numbers with eight marked places behind it. -/
def intSp (l : List Int) (j : Nat) : Value := .int .i64 (if j < l.length then l.getD j 0 else -5)

/-- What ints answers. -/
def IntsPost (l : List Int) (w : World) (e : Ending) (w' : World) : Prop :=
  ∃ b, e = .returned (.slice (some ⟨b, 0, none⟩) l.length (l.length + 8)) ∧ w.heap.size ≤ b ∧ w'.rowIs b 3 (l.length + 8) (intSp l) ∧ Below w.heap.size w w'

theorem size3 : (Tryz.prog.info? 3).map (·.size) = some 1 := by kernel_rfl

end Go.Proofs.YtmofidaojmiepaaGreatDoor

/-
  MEMORY: what is handed in.
-/
set_option linter.unusedVariables false
set_option linter.unusedSimpArgs false
namespace Go.Proofs.YtmofidaojmiepaaGreatDoor

open Go.RowKit Go.Deep

theorem info76 : (Tryz.prog.info? 47).map (fun i => (i.zero, i.size, i.bytes)) = some (some (.agg #[.int .i64 0, .int .i64 0, .int .i64 0, .int .i64 0, .int .i64 0]), 5, 40) := by kernel_rfl

theorem info80 : (Tryz.prog.info? 51).map (fun i => (i.zero, i.size, i.bytes)) = some (some (.agg #[.int .i64 0, .slice none 0 0]), 2, 32) := by kernel_rfl

theorem size76 : (Tryz.prog.info? 47).map (·.size) = some 5 := by kernel_rfl

/-- make of n structs of sz cells. -/
theorem run_make_is {P : Program} (t e : TypeId) (z : Value) (sz bytes : Nat) (ht : P.underlying t = some (.slice e)) (hinfo : (P.info? e).map (fun i => (i.zero, i.size, i.bytes)) = some (some z, sz, bytes)) (n : Nat) (hb : bytes * n ≤ 281474976710656) (h63 : n ≤ 9223372036854775807) (w : World) :
    (Instr.makeSlice t (.int .i64 (n : Int)) (.int .i64 (n : Int))).run P w = .ok (.slice (some ⟨w.heap.size, 0, none⟩) n n) (w.alloc (.cells (madeCells z.cells (n * sz)) e)) := by
  obtain ⟨i, hi, hzz⟩ := Option.map_eq_some_iff.1 hinfo
  simp only [Prod.mk.injEq] at hzz
  obtain ⟨hz, hs, hb'⟩ := hzz
  have hbb : (i.bytes : Int) * (n : Int) ≤ 281474976710656 := by
    have h : ((i.bytes * n : Nat) : Int) ≤ 281474976710656 := by rw [hb']; omega
    rwa [Int.natCast_mul] at h
  have hr := run_make (P := P) w t e i z ht hi hz .i64 .i64 n n (by omega) (Int.le_refl _) hbb (by omega)
  simp only [Int.toNat_natCast, hs] at hr
  exact hr

theorem row_made {w : World} {z : Value} {n sz : Nat} {e : TypeId} {b : Nat} (hb : b = w.heap.size) (f : Nat → Value) (hf : ∀ j, j < n * sz → z.cells[j % z.cells.size]! = f j) : (w.alloc (.cells (madeCells z.cells (n * sz)) e)).rowIs b e (n * sz) f := by
  subst hb
  refine ⟨_, blk_alloc_new _ _, size_madeCells _ _, fun i hi => ?_⟩
  have : (madeCells z.cells (n * sz))[i]? = some (z.cells[i % z.cells.size]!) := by simp [madeCells, hi]
  rw [this, hf i hi]

/-- The cells of the list that is handed in, and its spare room: i of its places are marked. -/
def cellSt (C : Nat → Cel) (n i j : Nat) : Value := if j < n * 5 then cellf C j else if j < (n + i) * 5 then .int .i64 (-5) else .int .i64 0

def ruleOf (R : Nat → Rul) (bs : Nat → Nat) (j : Nat) : Value := if j % 2 = 0 then .int .i64 (R (j / 2)).guard else .slice (some ⟨bs (j / 2), 0, none⟩) (R (j / 2)).steps.length ((R (j / 2)).steps.length + 8)

def ruleZ (j : Nat) : Value := if j % 2 = 0 then .int .i64 0 else .slice none 0 0

def ruleS (j : Nat) : Value := if j % 2 = 0 then .int .i64 (-5) else .slice none 0 0

/-- The rules of it: m are laid, i of its spare places are marked. -/
def ruleSt (R : Nat → Rul) (bs : Nat → Nat) (m i j : Nat) : Value := if j < m * 2 then ruleOf R bs j else if j < (m + i) * 2 then ruleS j else ruleZ j

theorem cellf_one {C : Nat → Cel} {n : Nat} (j : Nat) (_ : j < n * 5) : (cellf C j).oneCell' = true := by
  unfold cellf; repeat' split
  all_goals rfl

theorem cellSt_start {C : Nat → Cel} {n : Nat} (j : Nat) : (if j < n * 5 then cellf C j else .int .i64 0) = cellSt C n 0 j := by
  unfold cellSt
  by_cases e : j < n * 5
  · rw [if_pos e, if_pos e]
  · rw [if_neg e, if_neg e, if_neg (by omega)]

theorem ruleSt_next (R : Nat → Rul) (bs : Nat → Nat) (m b j : Nat) {bs' : Nat → Nat} (hb : upd bs m b = bs') : (if j = m * 2 + 1 then Value.slice (some ⟨b, 0, none⟩) (R m).steps.length ((R m).steps.length + 8) else if j = m * 2 then .int .i64 (R m).guard else ruleSt R bs m 0 j) = ruleSt R bs' (m + 1) 0 j := by
  subst hb
  unfold ruleSt
  by_cases h1 : j = m * 2 + 1
  · subst h1
    rw [if_pos rfl, if_pos (by omega)]
    unfold ruleOf
    rw [if_neg (by omega), show (m * 2 + 1) / 2 = m by omega, upd_same]
  · rw [if_neg h1]
    by_cases h2 : j = m * 2
    · subst h2
      rw [if_pos rfl, if_pos (by omega)]
      unfold ruleOf
      rw [if_pos (by omega), show (m * 2) / 2 = m by omega]
    · rw [if_neg h2]
      by_cases h3 : j < m * 2
      · rw [if_pos h3, if_pos (by omega)]
        unfold ruleOf
        rw [upd_other _ _ (by omega)]
      · rw [if_neg h3, if_neg (by omega), if_neg (by omega), if_neg (by omega)]

theorem ruleZ_made (Wc : World) (R : Nat → Rul) (k : Nat) : (Wc.alloc (.cells (madeCells #[.int .i64 0, .slice none 0 0] ((k + 8) * 2)) 51)).rowIs Wc.heap.size 51 ((k + 8) * 2) (ruleSt R (fun _ => 0) 0 0) := by
  have h := row_made (w := Wc) (z := .agg #[.int .i64 0, .slice none 0 0]) (n := k + 8) (sz := 2) (e := 51) rfl (ruleSt R (fun _ => 0) 0 0) (fun j _ => by
    have hs : ((Value.agg #[.int .i64 0, .slice none 0 0]).cells).size = 2 := rfl
    rw [hs]
    unfold ruleSt ruleZ
    rw [if_neg (by omega), if_neg (by omega)]
    by_cases e : j % 2 = 0
    · rw [if_pos e, e]; rfl
    · rw [if_neg e, show j % 2 = 1 by omega]; rfl)
  exact h

theorem cellSt_next {C : Nat → Cel} {n i : Nat} (j : Nat) : (if j = (n + i) * 5 + 4 then Value.int .i64 (-5) else if j = (n + i) * 5 + 3 then .int .i64 (-5) else if j = (n + i) * 5 + 2 then .int .i64 (-5) else if j = (n + i) * 5 + 1 then .int .i64 (-5) else if j = (n + i) * 5 then .int .i64 (-5) else cellSt C n i j) = cellSt C n (i + 1) j := by
  unfold cellSt
  by_cases h : j < (n + i) * 5
  · rw [if_neg (by omega), if_neg (by omega), if_neg (by omega), if_neg (by omega), if_neg (by omega)]
    by_cases h2 : j < n * 5
    · rw [if_pos h2, if_pos h2]
    · rw [if_neg h2, if_neg h2, if_pos h, if_pos (by omega)]
  · by_cases h3 : j < (n + (i + 1)) * 5
    · rw [if_neg (show ¬ j < n * 5 by omega), if_neg (show ¬ j < n * 5 by omega), if_pos h3]
      have hc : j = (n + i) * 5 + 4 ∨ j = (n + i) * 5 + 3 ∨ j = (n + i) * 5 + 2 ∨ j = (n + i) * 5 + 1 ∨ j = (n + i) * 5 := by omega
      repeat' split
      all_goals first | rfl | omega
    · rw [if_neg (by omega), if_neg (by omega), if_neg (by omega), if_neg (by omega), if_neg (by omega), if_neg (by omega), if_neg h, if_neg (by omega), if_neg h3]

theorem ruleSp_next {R : Nat → Rul} {bs : Nat → Nat} {m i : Nat} (j : Nat) : (if j = (m + i) * 2 + 1 then Value.slice none 0 0 else if j = (m + i) * 2 then .int .i64 (-5) else ruleSt R bs m i j) = ruleSt R bs m (i + 1) j := by
  unfold ruleSt
  by_cases h : j < (m + i) * 2
  · rw [if_neg (by omega), if_neg (by omega)]
    by_cases h2 : j < m * 2
    · rw [if_pos h2, if_pos h2]
    · rw [if_neg h2, if_neg h2, if_pos h, if_pos (by omega)]
  · by_cases h3 : j < (m + (i + 1)) * 2
    · rw [if_neg (show ¬ j < m * 2 by omega), if_neg (show ¬ j < m * 2 by omega), if_pos h3]
      unfold ruleS
      by_cases h4 : j = (m + i) * 2 + 1
      · rw [if_pos h4, if_neg (by omega)]
      · rw [if_neg h4, if_pos (by omega), if_pos (by omega)]
    · rw [if_neg (by omega), if_neg (by omega), if_neg (by omega), if_neg h, if_neg (by omega), if_neg h3]

theorem five_row {wr : World} {b n i N q : Nat} {C : Nat → Cel} (hq : q = (n + i) * 5) (h : wr.rowIs b 47 N (cellSt C n i)) : (((((wr.setCell ⟨b, q, none⟩ (.int .i64 (-5))).setCell ⟨b, q + 1, none⟩ (.int .i64 (-5))).setCell ⟨b, q + 2, none⟩ (.int .i64 (-5))).setCell ⟨b, q + 3, none⟩ (.int .i64 (-5))).setCell ⟨b, q + 4, none⟩ (.int .i64 (-5))).rowIs b 47 N (cellSt C n (i + 1)) := by
  subst hq
  exact (((((h.set _ _).set _ _).set _ _).set _ _).set _ _).congr (fun j _ => cellSt_next j)

theorem five_below {w0 wr : World} {B b q : Nat} (hB : B ≤ b) (h : Below B w0 wr) : Below B w0 (((((wr.setCell ⟨b, q, none⟩ (.int .i64 (-5))).setCell ⟨b, q + 1, none⟩ (.int .i64 (-5))).setCell ⟨b, q + 2, none⟩ (.int .i64 (-5))).setCell ⟨b, q + 3, none⟩ (.int .i64 (-5))).setCell ⟨b, q + 4, none⟩ (.int .i64 (-5))) :=
  ((((h.setCell hB _).setCell hB _).setCell hB _).setCell hB _).setCell hB _

theorem five_other {wr : World} {b q b' t l : Nat} {f : Nat → Value} (hb : b' ≠ b) (g : wr.rowIs b' t l f) : (((((wr.setCell ⟨b, q, none⟩ (.int .i64 (-5))).setCell ⟨b, q + 1, none⟩ (.int .i64 (-5))).setCell ⟨b, q + 2, none⟩ (.int .i64 (-5))).setCell ⟨b, q + 3, none⟩ (.int .i64 (-5))).setCell ⟨b, q + 4, none⟩ (.int .i64 (-5))).rowIs b' t l f :=
  ((((g.setOther hb _).setOther hb _).setOther hb _).setOther hb _).setOther hb _

theorem two_row {W5 : World} {b m i q : Nat} {R : Nat → Rul} {bs : Nat → Nat} (hq : q = (m + i) * 2) (h : W5.rowIs b 51 ((m + 8) * 2) (ruleSt R bs m i)) : ((W5.setCell ⟨b, q, none⟩ (.int .i64 (-5))).setCell ⟨b, q + 1, none⟩ (.slice none 0 0)).rowIs b 51 ((m + 8) * 2) (ruleSt R bs m (i + 1)) := by
  subst hq
  exact ((h.set _ _).set _ _).congr (fun j _ => ruleSp_next j)

theorem two_below {w0 wr : World} {B b q : Nat} {x y : Value} (hB : B ≤ b) (h : Below B w0 wr) : Below B w0 ((wr.setCell ⟨b, q, none⟩ x).setCell ⟨b, q + 1, none⟩ y) := (h.setCell hB _).setCell hB _

theorem two_other {wr : World} {b q b' t l : Nat} {f : Nat → Value} {x y : Value} (hb : b' ≠ b) (g : wr.rowIs b' t l f) : ((wr.setCell ⟨b, q, none⟩ x).setCell ⟨b, q + 1, none⟩ y).rowIs b' t l f := (g.setOther hb _).setOther hb _

theorem two_next {w1 : World} {b m b1 k : Nat} {R : Nat → Rul} {bs : Nat → Nat} (h : w1.rowIs b 51 k (ruleSt R bs m 0)) : ((w1.setCell ⟨b, m * 2, none⟩ (.int .i64 (R m).guard)).setCell ⟨b, m * 2 + 1, none⟩ (.slice (some ⟨b1, 0, none⟩) (R m).steps.length ((R m).steps.length + 8))).rowIs b 51 k (ruleSt R (upd bs m b1) (m + 1) 0) := ((h.set _ _).set _ _).congr (fun j _ => ruleSt_next R bs m b1 j rfl)

def gf (week : Int) (j : Nat) : Value := if j = 2 then .int .i64 week else .slice none 0 0

theorem g_row {w wr : World} {o1 : Obj} {week : Int} (h : Below (w.heap.size + 1 + 1 + 1) (((w.alloc o1).alloc (.cells #[.slice none 0 0, .slice none 0 0, .int .i64 0, .slice none 0 0] 26)).alloc (.cells #[.slice none 0 0, .slice none 0 0, .int .i64 week, .slice none 0 0] 26)) wr) : wr.rowIs (w.heap.size + 1 + 1) 26 4 (gf week) := by
  have h1 := World.rowIs_alloc ((w.alloc o1).alloc (.cells #[.slice none 0 0, .slice none 0 0, .int .i64 0, .slice none 0 0] 26)) #[.slice none 0 0, .slice none 0 0, .int .i64 week, .slice none 0 0] 26 (gf week) (fun i hi => by
    have hi' : i = 0 ∨ i = 1 ∨ i = 2 ∨ i = 3 := by simp at hi; omega
    rcases hi' with rfl | rfl | rfl | rfl <;> rfl)
  simp only [World.size_alloc] at h1
  exact h1.of_block (h.block _ (by omega))

theorem r_row {w wr : World} {o1 o3 : Obj} (h : Below (w.heap.size + 1 + 1 + 1) (((w.alloc o1).alloc (.cells #[.slice none 0 0, .slice none 0 0, .int .i64 0, .slice none 0 0] 26)).alloc o3) wr) : wr.rowIs (w.heap.size + 1) 26 4 (gf 0) := by
  have h1 := World.rowIs_alloc (w.alloc o1) #[.slice none 0 0, .slice none 0 0, .int .i64 0, .slice none 0 0] 26 (gf 0) (fun i hi => by
    have hi' : i = 0 ∨ i = 1 ∨ i = 2 ∨ i = 3 := by simp at hi; omega
    rcases hi' with rfl | rfl | rfl | rfl <;> rfl)
  simp only [World.size_alloc] at h1
  exact (h1.alloc o3).of_block (h.block _ (by omega))

theorem set2_other {wr : World} {b o1 o2 b' t l : Nat} {f : Nat → Value} {x y : Value} (hb : b' ≠ b) (g : wr.rowIs b' t l f) : ((wr.setCell ⟨b, o1, none⟩ x).setCell ⟨b, o2, none⟩ y).rowIs b' t l f := (g.setOther hb _).setOther hb _

theorem set2_below {w0 wr : World} {B b o1 o2 : Nat} {x y : Value} (hB : B ≤ b) (h : Below B w0 wr) : Below B w0 ((wr.setCell ⟨b, o1, none⟩ x).setCell ⟨b, o2, none⟩ y) := (h.setCell hB _).setCell hB _

theorem set5_other {c1 c2 o1 o2 o3 o4 o5 : Nat} {v1 v2 v3 v4 v5 : Value} (w1 : World) : ∀ b t l f, b ≠ c1 → b ≠ c2 → w1.rowIs b t l f → (((((w1.setCell ⟨c1, o1, none⟩ v1).setCell ⟨c2, o2, none⟩ v2).setCell ⟨c2, o3, none⟩ v3).setCell ⟨c2, o4, none⟩ v4).setCell ⟨c2, o5, none⟩ v5).rowIs b t l f := fun b t l f h1 h2 g => ((((g.setOther h1 _).setOther h2 _).setOther h2 _).setOther h2 _).setOther h2 _

/-- What handed answers: lists of its own, with marked spare room. -/
def HandPost (C : Nat → Cel) (n : Nat) (R : Nat → Rul) (k : Nat) (hol : List Int) (week : Int) (w : World) (e : Ending) (w' : World) : Prop :=
  ∃ bc br bh bs, e = .returned (.agg #[.slice (some ⟨bc, 0, none⟩) n (n + 8), .slice (some ⟨br, 0, none⟩) k (k + 8), .int .i64 week, .slice (some ⟨bh, 0, none⟩) hol.length (hol.length + 8)]) ∧ w.heap.size ≤ bc ∧ bc < br ∧ br < bh ∧
    (∀ x, x < k → br < bs x ∧ bs x < bh ∧ w'.rowIs (bs x) 3 ((R x).steps.length + 8) (intSp (R x).steps)) ∧ w'.rowIs bc 47 ((n + 8) * 5) (cellSt C n 8) ∧ w'.rowIs br 51 ((k + 8) * 2) (ruleSt R bs k 8) ∧ w'.rowIs bh 3 (hol.length + 8) (intSp hol) ∧ Below w.heap.size w w'

theorem three_below {w wr : World} {o1 o2 o3 : Obj} (h : Below (w.heap.size + 1 + 1 + 1) (((w.alloc o1).alloc o2).alloc o3) wr) : Below (w.heap.size + 1) (w.alloc o1) wr :=
  (((Below.refl _ _).alloc (by simp) _).alloc (by simp) _).trans (h.mono (by omega))

end Go.Proofs.YtmofidaojmiepaaGreatDoor
