/-
  MEMORY: docketkeep's shaped.
-/
import Derived.Test.YtmofidaojmiepaaGreatDoorGE3
import Derived.Test.YtmofidaojmiepaaGreatDoorGH24
import Derived.Test.YtmofidaojmiepaaGreatDoorGK10
import Derived.Deep.RegionHeld3
set_option linter.unusedVariables false
set_option linter.unusedSimpArgs false
namespace Go.Proofs.YtmofidaojmiepaaGreatDoor

open Go.RowKit

attribute [local go_sem ↓] Go.wp_at_zero Go.wp_at_succ

/-- Cells, as a list of their numbers. -/
def cells5 (C : Nat → Cel) (n : Nat) : List Value := (List.range (n * 5)).map (cellf C)

theorem cells5_len (C : Nat → Cel) (n : Nat) : (cells5 C n).length = n * 5 := by simp [cells5]

theorem cells5_more (C : Nat → Cel) (n : Nat) : cells5 C (n + 1) = cells5 C n ++ [.int .i64 (C n).kind, .int .i64 (C n).a, .int .i64 (C n).b, .int .i64 (C n).c, .int .i64 (C n).k] := by
  unfold cells5
  rw [show (n + 1) * 5 = n * 5 + 1 + 1 + 1 + 1 + 1 by omega, List.range_succ, List.range_succ, List.range_succ, List.range_succ, List.range_succ]
  simp only [List.map_append, List.map_cons, List.map_nil, List.append_assoc, List.cons_append, List.nil_append]
  rw [show n * 5 + 1 + 1 = n * 5 + 2 by omega, show n * 5 + 2 + 1 = n * 5 + 3 by omega, show n * 5 + 3 + 1 = n * 5 + 4 by omega, cellf0, cellf1, cellf2, cellf3, cellf4]

theorem news5k (w : World) (a b c d e : Value) (t : TypeId) {N : Nat} (hN : N = w.heap.size) : ∀ j u, [a, b, c, d, e][j]? = some u → (w.alloc (.cells #[a, b, c, d, e] t)).cell? ((⟨N, 0, none⟩ : Addr).add j) = some u := by
  subst hN
  exact World.news_of_block (cs := #[a, b, c, d, e]) (t := t) (fr := (0, 0)) (by show (w.heap.push _)[w.heap.size]? = _; simp)

theorem news2k (w : World) (a b : Value) (t : TypeId) {N : Nat} (hN : N = w.heap.size) : ∀ j u, [a, b][j]? = some u → (w.alloc (.cells #[a, b] t)).cell? ((⟨N, 0, none⟩ : Addr).add j) = some u := by
  subst hN
  exact World.news_of_block (cs := #[a, b]) (t := t) (fr := (0, 0)) (by show (w.heap.push _)[w.heap.size]? = _; simp)

/-- A rule of the shaped form: its number, its steps in a list. -/
def rulV (R : Nat → Rul) (sv : Nat → Value) (j : Nat) : Value := if j % 2 = 0 then .int .i64 (R (j / 2)).guard else sv (j / 2)

def rules2 (R : Nat → Rul) (sv : Nat → Value) (m : Nat) : List Value := (List.range (m * 2)).map (rulV R sv)

theorem rules2_more (R : Nat → Rul) (sv : Nat → Value) (m : Nat) (x : Value) : rules2 R (upd sv m x) (m + 1) = rules2 R sv m ++ [.int .i64 (R m).guard, x] := by
  unfold rules2
  rw [show (m + 1) * 2 = m * 2 + 1 + 1 by omega, List.range_succ, List.range_succ, List.append_assoc, List.map_append]
  congr 1
  · refine List.map_congr_left (fun j hj => ?_)
    have hj' : j < m * 2 := List.mem_range.1 hj
    unfold rulV
    rw [upd_other _ _ (by omega)]
  · show [rulV R (upd sv m x) (m * 2), rulV R (upd sv m x) (m * 2 + 1)] = _
    unfold rulV
    rw [if_pos (by omega), if_neg (by omega), show m * 2 / 2 = m by omega, show (m * 2 + 1) / 2 = m by omega, upd_same]

theorem own_mono {w : World} {b1 b2 : Nat} {e : TypeId} {size : Nat} {v : Value} {n : Nat} {xs : List Value} (h : w.ownsRow b1 e size v n xs) (hb : b2 ≤ b1) : w.ownsRow b2 e size v n xs := by
  refine ⟨h.1, ?_⟩
  rcases h.2 with h2 | ⟨g, cap, cur, a1, a2, a3⟩
  · exact Or.inl h2
  · exact Or.inr ⟨g, cap, cur, a1, by omega, a3⟩

/-- Where a list lies that owns its room. -/
theorem own_at {w : World} {base : Nat} {e : TypeId} {size : Nat} {v : Value} {n : Nat} {xs : List Value} (h : w.ownsRow base e size v n xs) : ∃ a c, v = .slice a n c ∧ (n = 0 ∨ ∃ g, a = some ⟨g, 0, none⟩ ∧ g < w.heap.size ∧ ∀ j, j < n * size → w.cell? ⟨g, j, none⟩ = xs[j]?) := by
  obtain ⟨h1, h2⟩ := h
  rcases h2 with ⟨h2, rfl⟩ | ⟨g, cap, cur, h2, h3, h4, h5, h6, h7, h8⟩
  · exact ⟨none, 0, h2, Or.inl rfl⟩
  · refine ⟨some ⟨g, 0, none⟩, cap, h2, Or.inr ⟨g, rfl, ?_, fun j hj => ?_⟩⟩
    · rcases Nat.lt_or_ge g w.heap.size with h | h
      · exact h
      · rw [Array.getElem?_eq_none h] at h4; cases h4
    · have e1 : cur[j]? = xs[j]? := by rw [← h8, List.getElem?_take, if_pos hj]; simp
      simp [World.cell?, h4, e1]

theorem own_ints {w : World} {base : Nat} {v : Value} {l : List Int} (h : w.ownsRow base 3 1 v l.length (l.map (fun x => Value.int .i64 x))) : ∃ a c, v = .slice a l.length c ∧ IntsAt w (.slice a l.length c) l := by
  obtain ⟨a, c, rfl, h2⟩ := own_at h
  refine ⟨a, c, rfl, a, c, rfl, fun j hj => ?_⟩
  rcases h2 with h2 | ⟨g, rfl, hg, hc⟩
  · omega
  · have := hc j (by omega)
    rw [List.getElem?_map, show l[j]? = some (l.getD j 0) by simp [List.getD, show j < l.length by omega]] at this
    exact ⟨g, 0, rfl, hg, by rw [Nat.zero_add]; exact this⟩

theorem own_cells {w : World} {base : Nat} {v : Value} {C : Nat → Cel} {n : Nat} (h : w.ownsRow base 47 5 v n (cells5 C n)) : ∃ a c, v = .slice a n c ∧ CAt w a n C := by
  obtain ⟨a, c, rfl, h2⟩ := own_at h
  refine ⟨a, c, rfl, ?_⟩
  rcases h2 with h2 | ⟨g, rfl, hg, hc⟩
  · exact Or.inl h2
  · refine Or.inr ⟨g, 0, rfl, hg, fun m hm => ?_⟩
    have at' : ∀ j, j < n * 5 → w.cell? ⟨g, j, none⟩ = some (cellf C j) := fun j hj => by rw [hc j hj]; simp [cells5, hj]
    rw [Nat.zero_add]
    refine ⟨?_, ?_, ?_, ?_, ?_⟩
    · rw [at' _ (by omega), cellf0]
    · rw [at' _ (by omega), cellf1]
    · rw [at' _ (by omega), cellf2]
    · rw [at' _ (by omega), cellf3]
    · rw [at' _ (by omega), cellf4]

theorem own_rules {w : World} {base : Nat} {v : Value} {R : Nat → Rul} {sv : Nat → Value} {m : Nat} (h : w.ownsRow base 51 2 v m (rules2 R sv m)) (hs : ∀ i, i < m → w.ownsRow base 3 1 (sv i) (R i).steps.length ((R i).steps.map (fun x => Value.int .i64 x))) (hl : ∀ i, i < m → (R i).steps.length ≤ 1000000000) : ∃ a c, v = .slice a m c ∧ RAt w a m R := by
  obtain ⟨a, c, rfl, h2⟩ := own_at h
  refine ⟨a, c, rfl, ?_⟩
  rcases h2 with h2 | ⟨g, rfl, hg, hc⟩
  · exact Or.inl h2
  · refine Or.inr ⟨g, 0, rfl, hg, fun i hi => ?_⟩
    have at' : ∀ j, j < m * 2 → w.cell? ⟨g, j, none⟩ = some (rulV R sv j) := fun j hj => by rw [hc j hj]; simp [rules2, hj]
    obtain ⟨as', cs', e1, e2⟩ := own_ints (hs i hi)
    rw [Nat.zero_add]
    refine ⟨?_, as', cs', ?_, e2, hl i hi⟩
    · rw [at' _ (by omega)]; unfold rulV; rw [if_pos (by omega), show i * 2 / 2 = i by omega]
    · rw [at' _ (by omega)]; unfold rulV; rw [if_neg (by omega), show (i * 2 + 1) / 2 = i by omega, e1]

theorem own_type {w : World} {base : Nat} {e : TypeId} {size : Nat} {v : Value} {n : Nat} {xs : List Value} (h : w.ownsRow base e size v n xs) {g : Nat} (hg : v.ownBlock = some g) : ∃ cur, w.heap[g]? = some (.cells cur e) := by
  rcases h.2 with ⟨rfl, _⟩ | ⟨g', cap, cur, rfl, _, h4, _⟩
  · cases hg
  · have : g' = g := by simpa [Value.ownBlock] using hg
    subst this
    exact ⟨cur, h4⟩

/-- A list of other things stands where one thing more was put behind a list. -/
theorem own_far {w5 w6 : World} {b1 b2 : Nat} {e1 e2 : TypeId} {s1 s2 : Nat} {v1 v2 : Value} {n1 n2 : Nat} {x1 x2 : List Value} {o : Obj} (h1 : w5.ownsRow b1 e1 s1 v1 n1 x1) (h2 : w5.ownsRow b2 e2 s2 v2 n2 x2) (he : e1 ≠ e2) (hg : ((w5.alloc o).drew).grownBy w6 v2.ownBlock) : w6.ownsRow b1 e1 s1 v1 n1 x1 :=
  own_of_block h1 (fun g hv hlt => ev_far w5 _ hg hlt (fun e => by
    obtain ⟨c1, k1⟩ := own_type h1 hv
    obtain ⟨c2, k2⟩ := own_type h2 e
    rw [k1] at k2
    injection k2 with k2
    injection k2 with _ k3 _
    exact he k3))

/-- The numbers of a raw form are numbers of 64 bits. -/
structure Raw64 (C : Nat → Cel) (n : Nat) (R : Nat → Rul) (k : Nat) (week : Int) (hol : List Int) : Prop where
  cel : ∀ i, i < n → I64k (C i).kind ∧ I64k (C i).a ∧ I64k (C i).b ∧ I64k (C i).c ∧ I64k (C i).k
  grd : ∀ i, i < k → I64k (R i).guard
  stp : ∀ i, i < k → ∀ j, j < (R i).steps.length → I64k ((R i).steps.getD j 0)
  wk : I64k week
  hol : ∀ j, j < hol.length → I64k (hol.getD j 0)

theorem fat_of {w : World} {base : Nat} {f : Frm} {vC vR vH : Value} {sv : Nat → Value} (hC : w.ownsRow base 47 5 vC f.n (cells5 f.C f.n)) (hR : w.ownsRow base 51 2 vR f.k (rules2 f.R sv f.k)) (hS : ∀ i, i < f.k → w.ownsRow base 3 1 (sv i) (f.R i).steps.length ((f.R i).steps.map (fun x => Value.int .i64 x))) (hl : ∀ i, i < f.k → (f.R i).steps.length ≤ 1000000000) (hH : w.ownsRow base 3 1 vH f.hol.length (f.hol.map (fun x => Value.int .i64 x))) : FAt w f (.agg #[vC, vR, .int .i64 f.week, vH]) := by
  obtain ⟨aC, cC, rfl, h1⟩ := own_cells hC
  obtain ⟨aR, cR, rfl, h2⟩ := own_rules hR hS hl
  obtain ⟨aH, cH, rfl, h3⟩ := own_ints hH
  exact ⟨aC, cC, aR, cR, aH, cH, rfl, h1, h2, h3⟩

/-- What shaped answers. -/
def ShP (f : Frm) (w : World) (e : Ending) (w' : World) : Prop := ∃ fv, e = .returned fv ∧ FAt w' f fv ∧ Below w.heap.size w w'

abbrev fbox (aC aR aH : Option Addr) (n cC k cR nH cH : Nat) (week : Int) : Obj := .cells #[.slice aC n cC, .slice aR k cR, .int .i64 week, .slice aH nH cH] 26

abbrev zbox : Obj := .cells #[.slice none 0 0, .slice none 0 0, .int .i64 0, .slice none 0 0] 26

end Go.Proofs.YtmofidaojmiepaaGreatDoor
