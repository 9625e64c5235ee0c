/-
  MEMORY: docketkeep's shaped.
-/
import Derived.Test.YtnkolbngeibhpaaDoorE3
import Derived.Test.YtnkolbngeibhpaaDoorH24
import Derived.Test.YtnkolbngeibhpaaDoorK10
import Derived.Deep.RegionLaw
import Derived.Deep.DeepCutAuto
import Derived.Deep.CutBlock
set_option linter.unusedVariables false
set_option linter.unusedSimpArgs false
namespace Go.Proofs.YtnkolbngeibhpaaDoor
open Go.RowKit
attribute [local go_sem ↓] Go.wp_at_zero Go.wp_at_succ

/-- Cells, as a list of their numbers. -/
def cells5 (C : Nat → Cel) (n : Nat) : List Value := (List.range (n * 5)).map (cellf C)
theorem cells5_len (C : Nat → Cel) (n : Nat) : (cells5 C n).length = n * 5 := by simp [cells5]
theorem cells5_more (C : Nat → Cel) (n : Nat) : cells5 C (n + 1) = cells5 C n ++ [.int .i64 (C n).kind, .int .i64 (C n).a, .int .i64 (C n).b, .int .i64 (C n).c, .int .i64 (C n).k] := by
  unfold cells5
  rw [show (n + 1) * 5 = n * 5 + 1 + 1 + 1 + 1 + 1 by omega, List.range_succ, List.range_succ, List.range_succ, List.range_succ, List.range_succ]
  simp only [List.map_append, List.map_cons, List.map_nil, List.append_assoc, List.cons_append, List.nil_append]
  rw [show n * 5 + 1 + 1 = n * 5 + 2 by omega, show n * 5 + 2 + 1 = n * 5 + 3 by omega, show n * 5 + 3 + 1 = n * 5 + 4 by omega, cellf0, cellf1, cellf2, cellf3, cellf4]
theorem news5k (w : World) (a b c d e : Value) (t : TypeId) {N : Nat} (hN : N = w.heap.size) : ∀ j u, [a, b, c, d, e][j]? = some u → (w.alloc (.cells #[a, b, c, d, e] t)).cell? ((⟨N, 0, none⟩ : Addr).add j) = some u := by
  subst hN
  exact World.news_of_block (cs := #[a, b, c, d, e]) (t := t) (fr := (0, 0)) (by show (w.heap.push _)[w.heap.size]? = _; simp)
theorem news2k (w : World) (a b : Value) (t : TypeId) {N : Nat} (hN : N = w.heap.size) : ∀ j u, [a, b][j]? = some u → (w.alloc (.cells #[a, b] t)).cell? ((⟨N, 0, none⟩ : Addr).add j) = some u := by
  subst hN
  exact World.news_of_block (cs := #[a, b]) (t := t) (fr := (0, 0)) (by show (w.heap.push _)[w.heap.size]? = _; simp)

/-- A rule of the shaped form: its number, its steps in a list. -/
def rulV (R : Nat → Rul) (sv : Nat → Value) (j : Nat) : Value := if j % 2 = 0 then .int .i64 (R (j / 2)).guard else sv (j / 2)
def rules2 (R : Nat → Rul) (sv : Nat → Value) (m : Nat) : List Value := (List.range (m * 2)).map (rulV R sv)
theorem rules2_more (R : Nat → Rul) (sv : Nat → Value) (m : Nat) (x : Value) : rules2 R (upd sv m x) (m + 1) = rules2 R sv m ++ [.int .i64 (R m).guard, x] := by
  unfold rules2
  rw [show (m + 1) * 2 = m * 2 + 1 + 1 by omega, List.range_succ, List.range_succ, List.append_assoc, List.map_append]
  congr 1
  · refine List.map_congr_left (fun j hj => ?_)
    have hj' : j < m * 2 := List.mem_range.1 hj
    unfold rulV
    rw [upd_other _ _ (by omega)]
  · show [rulV R (upd sv m x) (m * 2), rulV R (upd sv m x) (m * 2 + 1)] = _
    unfold rulV
    rw [if_pos (by omega), if_neg (by omega), show m * 2 / 2 = m by omega, show (m * 2 + 1) / 2 = m by omega, upd_same]

theorem own_mono {w : World} {b1 b2 : Nat} {e : TypeId} {size : Nat} {v : Value} {n : Nat} {xs : List Value} (h : w.ownsRow b1 e size v n xs) (hb : b2 ≤ b1) : w.ownsRow b2 e size v n xs := by
  refine ⟨h.1, ?_⟩
  rcases h.2 with h2 | ⟨g, cap, cur, a1, a2, a3⟩
  · exact Or.inl h2
  · exact Or.inr ⟨g, cap, cur, a1, by omega, a3⟩

/-- Where a list lies that owns its room. -/
theorem own_at {w : World} {base : Nat} {e : TypeId} {size : Nat} {v : Value} {n : Nat} {xs : List Value} (h : w.ownsRow base e size v n xs) : ∃ a c, v = .slice a n c ∧ (n = 0 ∨ ∃ g, a = some ⟨g, 0, none⟩ ∧ g < w.heap.size ∧ ∀ j, j < n * size → w.cell? ⟨g, j, none⟩ = xs[j]?) := by
  obtain ⟨h1, h2⟩ := h
  rcases h2 with ⟨h2, rfl⟩ | ⟨g, cap, cur, h2, h3, h4, h5, h6, h7, h8⟩
  · exact ⟨none, 0, h2, Or.inl rfl⟩
  · refine ⟨some ⟨g, 0, none⟩, cap, h2, Or.inr ⟨g, rfl, ?_, fun j hj => ?_⟩⟩
    · rcases Nat.lt_or_ge g w.heap.size with h | h
      · exact h
      · rw [Array.getElem?_eq_none h] at h4; cases h4
    · have e1 : cur[j]? = xs[j]? := by rw [← h8, List.getElem?_take, if_pos hj]; simp
      simp [World.cell?, h4, e1]

theorem own_ints {w : World} {base : Nat} {v : Value} {l : List Int} (h : w.ownsRow base 3 1 v l.length (l.map (fun x => Value.int .i64 x))) : ∃ a c, v = .slice a l.length c ∧ IntsAt w (.slice a l.length c) l := by
  obtain ⟨a, c, rfl, h2⟩ := own_at h
  refine ⟨a, c, rfl, a, c, rfl, fun j hj => ?_⟩
  rcases h2 with h2 | ⟨g, rfl, hg, hc⟩
  · omega
  · have := hc j (by omega)
    rw [List.getElem?_map, show l[j]? = some (l.getD j 0) by simp [List.getD, show j < l.length by omega]] at this
    exact ⟨g, 0, rfl, hg, by rw [Nat.zero_add]; exact this⟩

theorem own_cells {w : World} {base : Nat} {v : Value} {C : Nat → Cel} {n : Nat} (h : w.ownsRow base 82 5 v n (cells5 C n)) : ∃ a c, v = .slice a n c ∧ CAt w a n C := by
  obtain ⟨a, c, rfl, h2⟩ := own_at h
  refine ⟨a, c, rfl, ?_⟩
  rcases h2 with h2 | ⟨g, rfl, hg, hc⟩
  · exact Or.inl h2
  · refine Or.inr ⟨g, 0, rfl, hg, fun m hm => ?_⟩
    have at' : ∀ j, j < n * 5 → w.cell? ⟨g, j, none⟩ = some (cellf C j) := fun j hj => by rw [hc j hj]; simp [cells5, hj]
    rw [Nat.zero_add]
    refine ⟨?_, ?_, ?_, ?_, ?_⟩
    · rw [at' _ (by omega), cellf0]
    · rw [at' _ (by omega), cellf1]
    · rw [at' _ (by omega), cellf2]
    · rw [at' _ (by omega), cellf3]
    · rw [at' _ (by omega), cellf4]

theorem own_rules {w : World} {base : Nat} {v : Value} {R : Nat → Rul} {sv : Nat → Value} {m : Nat} (h : w.ownsRow base 86 2 v m (rules2 R sv m)) (hs : ∀ i, i < m → w.ownsRow base 3 1 (sv i) (R i).steps.length ((R i).steps.map (fun x => Value.int .i64 x))) (hl : ∀ i, i < m → (R i).steps.length ≤ 1000000000) : ∃ a c, v = .slice a m c ∧ RAt w a m R := by
  obtain ⟨a, c, rfl, h2⟩ := own_at h
  refine ⟨a, c, rfl, ?_⟩
  rcases h2 with h2 | ⟨g, rfl, hg, hc⟩
  · exact Or.inl h2
  · refine Or.inr ⟨g, 0, rfl, hg, fun i hi => ?_⟩
    have at' : ∀ j, j < m * 2 → w.cell? ⟨g, j, none⟩ = some (rulV R sv j) := fun j hj => by rw [hc j hj]; simp [rules2, hj]
    obtain ⟨as', cs', e1, e2⟩ := own_ints (hs i hi)
    rw [Nat.zero_add]
    refine ⟨?_, as', cs', ?_, e2, hl i hi⟩
    · rw [at' _ (by omega)]; unfold rulV; rw [if_pos (by omega), show i * 2 / 2 = i by omega]
    · rw [at' _ (by omega)]; unfold rulV; rw [if_neg (by omega), show (i * 2 + 1) / 2 = i by omega, e1]

theorem own_type {w : World} {base : Nat} {e : TypeId} {size : Nat} {v : Value} {n : Nat} {xs : List Value} (h : w.ownsRow base e size v n xs) {g : Nat} (hg : v.ownBlock = some g) : ∃ cur, w.heap[g]? = some (.cells cur e) := by
  rcases h.2 with ⟨rfl, _⟩ | ⟨g', cap, cur, rfl, _, h4, _⟩
  · cases hg
  · have : g' = g := by simpa [Value.ownBlock] using hg
    subst this
    exact ⟨cur, h4⟩

/-- A list of other things stands where one thing more was put behind a list. -/
theorem own_far {w5 w6 : World} {b1 b2 : Nat} {e1 e2 : TypeId} {s1 s2 : Nat} {v1 v2 : Value} {n1 n2 : Nat} {x1 x2 : List Value} {o : Obj} (h1 : w5.ownsRow b1 e1 s1 v1 n1 x1) (h2 : w5.ownsRow b2 e2 s2 v2 n2 x2) (he : e1 ≠ e2) (hg : ((w5.alloc o).drew).grownBy w6 v2.ownBlock) : w6.ownsRow b1 e1 s1 v1 n1 x1 :=
  own_of_block h1 (fun g hv hlt => ev_far w5 _ hg hlt (fun e => by
    obtain ⟨c1, k1⟩ := own_type h1 hv
    obtain ⟨c2, k2⟩ := own_type h2 e
    rw [k1] at k2
    injection k2 with k2
    injection k2 with _ k3 _
    exact he k3))

/-- The numbers of a raw form are numbers of 64 bits. -/
structure Raw64 (C : Nat → Cel) (n : Nat) (R : Nat → Rul) (k : Nat) (week : Int) (hol : List Int) : Prop where
  cel : ∀ i, i < n → I64k (C i).kind ∧ I64k (C i).a ∧ I64k (C i).b ∧ I64k (C i).c ∧ I64k (C i).k
  grd : ∀ i, i < k → I64k (R i).guard
  stp : ∀ i, i < k → ∀ j, j < (R i).steps.length → I64k ((R i).steps.getD j 0)
  wk : I64k week
  hol : ∀ j, j < hol.length → I64k (hol.getD j 0)

theorem fat_of {w : World} {base : Nat} {f : Frm} {vC vR vH : Value} {sv : Nat → Value} (hC : w.ownsRow base 82 5 vC f.n (cells5 f.C f.n)) (hR : w.ownsRow base 86 2 vR f.k (rules2 f.R sv f.k)) (hS : ∀ i, i < f.k → w.ownsRow base 3 1 (sv i) (f.R i).steps.length ((f.R i).steps.map (fun x => Value.int .i64 x))) (hl : ∀ i, i < f.k → (f.R i).steps.length ≤ 1000000000) (hH : w.ownsRow base 3 1 vH f.hol.length (f.hol.map (fun x => Value.int .i64 x))) : FAt w f (.agg #[vC, vR, .int .i64 f.week, vH]) := by
  obtain ⟨aC, cC, rfl, h1⟩ := own_cells hC
  obtain ⟨aR, cR, rfl, h2⟩ := own_rules hR hS hl
  obtain ⟨aH, cH, rfl, h3⟩ := own_ints hH
  exact ⟨aC, cC, aR, cR, aH, cH, rfl, h1, h2, h3⟩

/-- What shaped answers. -/
def ShP (f : Frm) (w : World) (e : Ending) (w' : World) : Prop := ∃ fv, e = .returned fv ∧ FAt w' f fv ∧ Below w.heap.size w w'

abbrev fbox (aC aR aH : Option Addr) (n cC k cR nH cH : Nat) (week : Int) : Obj := .cells #[.slice aC n cC, .slice aR k cR, .int .i64 week, .slice aH nH cH] 26
abbrev zbox : Obj := .cells #[.slice none 0 0, .slice none 0 0, .int .i64 0, .slice none 0 0] 26

set_option maxRecDepth 100000 in
set_option maxHeartbeats 4000000 in
theorem kshaped_any (C : Nat → Cel) (R : Nat → Rul) (hol : List Int) (aC aR aH : Option Addr) (n cC k cR cH : Nat) (week : Int) (w : World) (hn : n ≤ 1000000000) (hk : k ≤ 1000000000) (hhl : hol.length ≤ 1000000000) (h64 : Raw64 C n R k week hol)
    (hcs : CAt w aC n C) (hrs : RAt w aR k R) (hhs : IntsAt w (.slice aH hol.length cH) hol) :
    Calls Tryd.prog 12 #[.agg #[.slice aC n cC, .slice aR k cR, .int .i64 week, .slice aH hol.length cH]] w fun e w' => ShP (shF C n R k week hol) w e w' := by
  obtain ⟨i76, y1, y2⟩ := Option.map_eq_some_iff.1 info76
  obtain ⟨i80, y5, y6⟩ := Option.map_eq_some_iff.1 info80
  simp only [Prod.mk.injEq] at y2 y6
  have I76 := hid y1
  have Z76 := hid y2
  have I80 := hid y5
  have Z80 := hid y6
  clear y1 y2 y5 y6
  have HCS := hid hcs
  have HRS := hid hrs
  have HHS := hid hhs
  have H64 := hid h64
  have FN := shF_n C n R k week hol
  have FNE : Hid ((shF C n R k week hol).n = if n = 0 then 1 else min n 20) := rfl
  have FKE : Hid ((shF C n R k week hol).k = min k 6) := rfl
  have FCE : Hid (n ≠ 0 → ∀ i, (shF C n R k week hol).C i = shCel (C i) i) := fun h i => by rw [shF_cell, if_neg h]
  have FC0 : Hid (n = 0 → ∀ i, (shF C n R k week hol).C i = ⟨1, 0, 0, 0, 1⟩) := fun h i => by rw [shF_cell, if_pos h]
  have FRE : Hid (∀ i, (shF C n R k week hol).R i = ⟨pickI (R i).guard ((shF C n R k week hol).n : Nat), shSt 1000000000 4 0 (R i).steps⟩) := fun i => rfl
  have FWE : Hid ((shF C n R k week hol).week = 1 + pickI week 127) := rfl
  have FHE : Hid ((shF C n R k week hol).hol = shSt 11574 20 (-1) hol) := rfl
  clear hcs hrs hhs h64
  generalize shF C n R k week hol = f at *
  have B0 := hid (Below.refl (w.heap.size + 1 + 1) ((w.alloc (fbox aC aR aH n cC k cR hol.length cH week)).alloc zbox))
  have G0 : Hid ((((w.alloc (fbox aC aR aH n cC k cR hol.length cH week)).alloc zbox).alloc zbox).rowIs (w.heap.size + 1 + 1) 26 4 (gCopy (.slice none 0 0) (.slice none 0 0) 0 (.slice none 0 0))) := by
    have := World.rowIs_alloc ((w.alloc (fbox aC aR aH n cC k cR hol.length cH week)).alloc zbox) #[.slice none 0 0, .slice none 0 0, .int .i64 0, .slice none 0 0] 26 (gCopy (.slice none 0 0) (.slice none 0 0) 0 (.slice none 0 0)) (fun i hi => by
      have hi' : i = 0 ∨ i = 1 ∨ i = 2 ∨ i = 3 := by simp at hi; omega
      rcases hi' with rfl | rfl | rfl | rfl <;> rfl)
    simp only [World.size_alloc] at this
    exact this
  have B1 : Hid (Below (w.heap.size + 1 + 1) ((w.alloc (fbox aC aR aH n cC k cR hol.length cH week)).alloc zbox) (((w.alloc (fbox aC aR aH n cC k cR hol.length cH week)).alloc zbox).alloc zbox)) := B0.out.alloc (by simp) _
  unfold fbox zbox at *
  go_enter Tryd.func12, Tryd.ntmps12
  go_upto_block 0 with (fail)
  go_cut [] (fun wx => ∃ (m : Nat) (v : Value), Hid (m = min n 20) ∧ w.heap.size + 1 + 1 < wx.heap.size ∧ Hid (Below (w.heap.size + 1 + 1) ((w.alloc (.cells #[.slice aC n cC, .slice aR k cR, .int .i64 week, .slice aH hol.length cH] 26)).alloc (.cells #[.slice none 0 0, .slice none 0 0, .int .i64 0, .slice none 0 0] 26)) wx) ∧ Hid (wx.rowIs (w.heap.size + 1 + 1) 26 4 (gCopy v (.slice none 0 0) 0 (.slice none 0 0))) ∧ Hid (wx.ownsRow (w.heap.size + 1 + 1 + 1) 82 5 v m (cells5 (fun j => shCel (C j) j) m)))
  case first =>
    go_wp2
    go_loopw [4] (fun t wr => ∃ (i : Nat) (v : Value), i ≤ n ∧ i ≤ 20 ∧ t = .int .i64 i ∧ w.heap.size + 1 + 1 < wr.heap.size ∧ Hid (Below (w.heap.size + 1 + 1) ((w.alloc (.cells #[.slice aC n cC, .slice aR k cR, .int .i64 week, .slice aH hol.length cH] 26)).alloc (.cells #[.slice none 0 0, .slice none 0 0, .int .i64 0, .slice none 0 0] 26)) wr) ∧ Hid (wr.rowIs (w.heap.size + 1 + 1) 26 4 (gCopy v (.slice none 0 0) 0 (.slice none 0 0))) ∧ Hid (wr.ownsRow (w.heap.size + 1 + 1 + 1) 82 5 v i (cells5 (fun j => shCel (C j) j) i))) (fun t _ => 20 - (intOf t).toNat)
    case atStart => exact ⟨0, .slice none 0 0, by omega, by omega, rfl, G0.out.lt, B1, G0, ⟨rfl, Or.inl ⟨rfl, rfl⟩⟩⟩
    case round =>
      clear G0 B0 B1
      obtain ⟨i, v, i1, i2, rfl, hsz, hb, hg, hown⟩ := hrel
      have hbw := hid (two_boxes_below hb.out)
      have f0 := (two_boxes hb.out 0).1
      have f1 := (two_boxes hb.out 1).1
      have f2 := (two_boxes hb.out 2).1
      have f3 := (two_boxes hb.out 3).1
      simp at f0 f1 f2 f3
      by_cases hit : i < n ∧ i < 20
      · obtain ⟨c1, c2⟩ := hit
        obtain ⟨bC, oC, rfl, zC, hC⟩ : ∃ b off, aC = some ⟨b, off, none⟩ ∧ b < wr.heap.size ∧ ∀ m, m < n → CelIs wr b (off + m * 5) (C m) := by
          rcases HCS.out.below hbw.out with h | h
          · omega
          · exact h
        obtain ⟨g0, g1, g2, g3, g4⟩ := hC i c1
        obtain ⟨u0, u1, u2, u3, u4⟩ := H64.out.cel i c1
        have KC := hid (fun W => kcell_any (C i).kind (C i).a (C i).b (C i).c (C i).k i W c2 u0 u1 u2 u3 u4)
        have lt' : (i : Int) < (n : Int) := by omega
        clear hC u0 u1 u2 u3 u4
        go_wp2_with fail
        refine (KC.out _).mono ?_
        rintro e w5 ⟨rfl, hb5⟩
        have s5 := hb5.size
        have K1 := hid (hb.out.trans (hb5.mono (by omega)))
        have K2 := hid (hg.out.of_block (hb5.block _ hsz))
        have K3 := hid (own_of_block hown.out (w' := w5) (fun g _ hlt => hb5.block g hlt))
        have MR : Hid (cells5 (fun j => shCel (C j) j) (i + 1) = cells5 (fun j => shCel (C j) j) i ++ [.int .i64 (shCel (C i) i).kind, .int .i64 (shCel (C i) i).a, .int .i64 (shCel (C i) i).b, .int .i64 (shCel (C i) i).c, .int .i64 (shCel (C i) i).k]) := cells5_more _ i
        have ECI : (⟨(C i).kind, (C i).a, (C i).b, (C i).c, (C i).k⟩ : Cel) = C i := rfl
        rw [ECI]
        clear ECI hb5 hb hg hown hbw KC g0 g1 g2 g3 g4 f0 f1 f2 f3
        generalize shCel (C i) i = sc at *
        have d0 := K2.out.cell (i := 0) (by omega)
        have d9 := K2.out.frozen 0
        simp [gCopy] at d0
        have z5 : w.heap.size + 1 + 1 < w5.heap.size := by omega
        have d0a : ∀ o, (w5.alloc o).cell? ⟨w.heap.size + 1 + 1, 0, none⟩ = some v := fun o => by rw [World.cell?_alloc_lt (h := z5)]; exact d0
        go_wp2_with (at_builtin; refine wpList_append_lies _ rfl (.tmp 27) (.tmp 29) 22 rfl (w.heap.size + 1 + 1 + 1) 82 i76 _ 5 40 Tryd.underlying22 I76.out Z76.out.1 Z76.out.2.1 Z76.out.2.2 rfl (by omega) v i (cells5 (fun j => shCel (C j) j) i) (by rfl) (own_alloc0 (own_alloc0 K3.out _) _) ⟨w5.heap.size + 1, 0, none⟩ 1 1 [.int .i64 sc.kind, .int .i64 sc.a, .int .i64 sc.b, .int .i64 sc.c, .int .i64 sc.k] (by rfl) (by rfl) (news5k _ _ _ _ _ _ _ (by simp)) (by simp [Value.oneCell']) (by omega) (by unfold maxLen; omega) (by omega) (by simp; omega) (w5.heap.size + 1 + 1) (by simp) ?_; intro g cap w6 hown2 hgrow hat hlt; refine stopH ?_)
        have NE : v.ownBlock ≠ some (w.heap.size + 1 + 1) := fun e => by have := own_base K3.out e; omega
        have far : ∀ b, b < w5.heap.size → v.ownBlock ≠ some b → w6.heap[b]? = w5.heap[b]? := fun b hb hne => (hgrow.block b (by simp; omega) (fun e => hne e.symm)).trans ((Below.heap_alloc _ _ b (by simp; omega)).trans (Below.heap_alloc w5 _ b hb))
        have hbk := far _ z5 NE
        have e8 : w6.cell? ⟨w.heap.size + 1 + 1, 0, none⟩ = some v := by rw [World.cell?_of_block (w := w5) hbk]; exact d0
        have e9 : w6.frozen? ⟨w.heap.size + 1 + 1, 0, none⟩ = false := by rw [World.frozen?_of_block (w := w5) hbk]; exact d9
        have s6 := hgrow.size
        simp at s6
        have B6 : Below (w.heap.size + 1 + 1) w5 w6 := ⟨hgrow.os, hgrow.tape, hgrow.output, by omega, fun b hb => far b (by omega) (fun e => by have := own_base K3.out e; omega)⟩
        have N1 := hid ((K1.out.trans B6).setCell (p := ⟨w.heap.size + 1 + 1, 0, none⟩) (Nat.le_refl _) (.slice (some ⟨g, 0, none⟩) (i + 1) cap))
        have N2 : Hid ((w6.setCell ⟨w.heap.size + 1 + 1, 0, none⟩ (.slice (some ⟨g, 0, none⟩) (i + 1) cap)).rowIs (w.heap.size + 1 + 1) 26 4 (gCopy (.slice (some ⟨g, 0, none⟩) (i + 1) cap) (.slice none 0 0) 0 (.slice none 0 0))) := ((K2.out.of_block hbk).set 0 _).congr (fun j hj => by
          have : j = 0 ∨ j = 1 ∨ j = 2 ∨ j = 3 := by omega
          rcases this with rfl | rfl | rfl | rfl <;> rfl)
        have N3 : Hid ((w6.setCell ⟨w.heap.size + 1 + 1, 0, none⟩ (.slice (some ⟨g, 0, none⟩) (i + 1) cap)).ownsRow (w.heap.size + 1 + 1 + 1) 82 5 (.slice (some ⟨g, 0, none⟩) (i + 1) cap) (i + 1) (cells5 (fun j => shCel (C j) j) (i + 1))) := by
          rw [MR.out]
          exact ownsRow_setCell_below hown2 (show w.heap.size + 1 + 1 < w.heap.size + 1 + 1 + 1 by omega) _
        have N4 : Hid (w.heap.size + 1 + 1 < (w6.setCell ⟨w.heap.size + 1 + 1, 0, none⟩ (.slice (some ⟨g, 0, none⟩) (i + 1) cap)).heap.size) := by show _ < _; simp; omega
        clear far hbk B6 hown2 hgrow hat hlt K1 K2 K3 d0 d0a d9 MR
        refine hid ?_
        go_wp2
        go_roundw
        case rel => exact ⟨i + 1, .slice (some ⟨g, 0, none⟩) (i + 1) cap, by omega, by omega, by go_num, N4.out, N1, N2, N3⟩
        case measure => simp [intOf]; omega
      · have ii : i = min n 20 := by omega
        clear hit
        have cs : (¬ ((i : Int) < (n : Int))) ∨ (((i : Int) < (n : Int)) ∧ ¬ ((i : Int) < 20)) := by omega
        have II := hid ii
        clear ii
        rcases cs with g1 | ⟨g1, g2⟩
        all_goals (go_wp2_with fail; go_meet; exact ⟨i, v, II, hsz, hb, hg, hown⟩)
  case rest =>
    clear G0 B0 B1
    obtain ⟨m, v, hm, hsz, hb, hg, hown⟩ := hcut
    have d0 := hg.out.cell (i := 0) (by omega)
    simp [gCopy] at d0
    obtain ⟨a0, c0, rfl⟩ := own_len hown.out
    go_upto_if 35 with (fail)
    go_cut [] (fun wx => ∃ (av : Option Addr) (cv : Nat), w.heap.size + 1 + 1 < wx.heap.size ∧ Hid (Below (w.heap.size + 1 + 1) ((w.alloc (.cells #[.slice aC n cC, .slice aR k cR, .int .i64 week, .slice aH hol.length cH] 26)).alloc (.cells #[.slice none 0 0, .slice none 0 0, .int .i64 0, .slice none 0 0] 26)) wx) ∧ Hid (wx.rowIs (w.heap.size + 1 + 1) 26 4 (gCopy (.slice av f.n cv) (.slice none 0 0) 0 (.slice none 0 0))) ∧ Hid (wx.ownsRow (w.heap.size + 1 + 1 + 1) 82 5 (.slice av f.n cv) f.n (cells5 f.C f.n)))
    case first =>
      by_cases n0 : n = 0
      · have e0 : m = 0 := by have := hm.out; omega
        have fn1 : f.n = 1 := by rw [FNE.out, if_pos n0]
        have MR : Hid (cells5 f.C f.n = [.int .i64 1, .int .i64 0, .int .i64 0, .int .i64 0, .int .i64 1]) := by
          show _ = _
          rw [fn1]
          have := cells5_more f.C 0
          rw [Nat.zero_add, FC0.out n0 0] at this
          rw [this]
          rfl
        have F1N : Hid (f.n = 1) := fn1
        subst e0
        have NE : Hid ((Value.slice a0 0 c0).ownBlock ≠ some (w.heap.size + 1 + 1)) := fun e => by have := own_base hown.out e; omega
        have d9 := hg.out.frozen 0
        clear hm fn1 n0
        go_wp2_with (at_builtin; refine wpList_append_lies _ rfl (.tmp 37) (.tmp 39) 22 rfl (w.heap.size + 1 + 1 + 1) 82 i76 _ 5 40 Tryd.underlying22 I76.out Z76.out.1 Z76.out.2.1 Z76.out.2.2 rfl (by omega) (.slice a0 0 c0) 0 (cells5 (fun j => shCel (C j) j) 0) (by rfl) (own_alloc0 hown.out _) ⟨wc.heap.size, 0, none⟩ 1 1 [.int .i64 1, .int .i64 0, .int .i64 0, .int .i64 0, .int .i64 1] (by rfl) (by rfl) (news5k _ _ _ _ _ _ _ (by simp)) (by simp [Value.oneCell']) (by omega) (by unfold maxLen; omega) (by omega) (by simp; omega) (wc.heap.size + 1) (by simp) ?_; intro g cap w6 hown2 hgrow hat hlt; refine stopH ?_)
        have hbk : w6.heap[w.heap.size + 1 + 1]? = wc.heap[w.heap.size + 1 + 1]? := ev_far0 wc _ hgrow hsz NE.out
        have e8 : w6.cell? ⟨w.heap.size + 1 + 1, 0, none⟩ = some (.slice a0 0 c0) := by rw [World.cell?_of_block (w := wc) hbk]; exact d0
        have e9 : w6.frozen? ⟨w.heap.size + 1 + 1, 0, none⟩ = false := by rw [World.frozen?_of_block (w := wc) hbk]; exact d9
        have B6 : Below (w.heap.size + 1 + 1) wc w6 := grow_below0 hgrow (by omega) (fun g hg' => by have := own_base hown.out hg'; omega)
        have s6 := B6.size
        have lo : w.heap.size + 1 + 1 < w.heap.size + 1 + 1 + 1 := by omega
        have T1 := hid ((hb.out.trans B6).setCell (p := ⟨w.heap.size + 1 + 1, 0, none⟩) (Nat.le_refl _) (.slice (some ⟨g, 0, none⟩) (0 + 1) cap))
        have T2 : Hid ((w6.setCell ⟨w.heap.size + 1 + 1, 0, none⟩ (.slice (some ⟨g, 0, none⟩) (0 + 1) cap)).rowIs (w.heap.size + 1 + 1) 26 4 (gCopy (.slice (some ⟨g, 0, none⟩) (0 + 1) cap) (.slice none 0 0) 0 (.slice none 0 0))) := ((hg.out.of_block hbk).set 0 _).congr (fun x hx => by
          have : x = 0 ∨ x = 1 ∨ x = 2 ∨ x = 3 := by omega
          rcases this with rfl | rfl | rfl | rfl <;> rfl)
        have T3 : Hid ((w6.setCell ⟨w.heap.size + 1 + 1, 0, none⟩ (.slice (some ⟨g, 0, none⟩) (0 + 1) cap)).ownsRow (w.heap.size + 1 + 1 + 1) 82 5 (.slice (some ⟨g, 0, none⟩) (0 + 1) cap) f.n (cells5 f.C f.n)) := by
          rw [MR.out, F1N.out]
          exact ownsRow_setCell_below hown2 lo _
        have T4 : Hid (w.heap.size + 1 + 1 < (w6.setCell ⟨w.heap.size + 1 + 1, 0, none⟩ (.slice (some ⟨g, 0, none⟩) (0 + 1) cap)).heap.size) := by show _ < _; simp; omega
        clear hbk B6 hown2 hgrow hat hlt hown hg hb s6 lo MR NE d9
        refine hid ?_
        generalize hv9 : (Value.slice (some ⟨g, 0, none⟩) (0 + 1) cap) = v9 at *
        clear hv9
        obtain ⟨av, cv, rfl⟩ := own_len T3.out
        go_wp2_with fail
        go_meet
        exact ⟨av, cv, T4.out, T1, T2, T3⟩
      · have e1 : m = f.n := by rw [FNE.out, if_neg n0]; exact hm.out
        have T3 : Hid (wc.ownsRow (w.heap.size + 1 + 1 + 1) 82 5 (.slice a0 f.n c0) f.n (cells5 f.C f.n)) := by
          rw [← e1, show f.C = fun j => shCel (C j) j from funext (FCE.out n0)]
          exact hown.out
        have ne0 : ((f.n : Int) == 0) = false := beq_eq_false_iff_ne.2 (by have := FN.1; omega)
        subst e1
        clear hm hown
        go_wp2_with fail
        go_meet
        exact ⟨a0, c0, hsz, hb, hg, T3⟩
    case rest =>
      clear hb hg hown hm d0 hsz
      obtain ⟨av, cv, hsz, T1, T2, T3⟩ := hcut
      have T4 := hid hsz
      go_wp2
      go_loopw [6] (fun t wr => ∃ (j : Nat) (v2 : Value) (sv : Nat → Value), j ≤ k ∧ j ≤ 6 ∧ t = .int .i64 j ∧ w.heap.size + 1 + 1 < wr.heap.size ∧ Hid (Below (w.heap.size + 1 + 1) ((w.alloc (.cells #[.slice aC n cC, .slice aR k cR, .int .i64 week, .slice aH hol.length cH] 26)).alloc (.cells #[.slice none 0 0, .slice none 0 0, .int .i64 0, .slice none 0 0] 26)) wr) ∧ Hid (wr.rowIs (w.heap.size + 1 + 1) 26 4 (gCopy (.slice av f.n cv) (.slice none 0 0) 0 v2)) ∧ Hid (wr.ownsRow (w.heap.size + 1 + 1 + 1) 82 5 (.slice av f.n cv) f.n (cells5 f.C f.n)) ∧ Hid (wr.ownsRow (w.heap.size + 1 + 1 + 1) 86 2 v2 j (rules2 f.R sv j)) ∧ Hid (∀ x, x < j → wr.ownsRow (w.heap.size + 1 + 1 + 1) 3 1 (sv x) (f.R x).steps.length ((f.R x).steps.map (fun y => Value.int .i64 y)))) (fun t _ => 6 - (intOf t).toNat)
      case atStart => exact ⟨0, .slice none 0 0, fun _ => .slice none 0 0, by omega, by omega, rfl, T4.out, T1, T2, T3, ⟨rfl, Or.inl ⟨rfl, rfl⟩⟩, fun x hx => by omega⟩
      case round =>
        clear T1 T2 T3 T4 hsz
        obtain ⟨j, v2, sv, j1, j2, rfl, hsz, hb, hg, hown, hru, hst⟩ := hrel
        have hbw := hid (two_boxes_below hb.out)
        have f1 := (two_boxes hb.out 1).1
        have f2 := (two_boxes hb.out 2).1
        have f3 := (two_boxes hb.out 3).1
        simp at f1 f2 f3
        by_cases hit : j < k ∧ j < 6
        · obtain ⟨c1, c2⟩ := hit
          obtain ⟨bR, oR, haR, zR, zR0, hRR⟩ : ∃ b off, aR = some ⟨b, off, none⟩ ∧ b < wr.heap.size ∧ b < w.heap.size ∧ ∀ m, m < k → RuleIs wr b (off + m * 2) (R m) := by
            rcases HRS.out with h | ⟨b, o, e1, e2, e3⟩
            · omega
            · exact ⟨b, o, e1, by have := hbw.out.size; omega, e2, fun m hm => (e3 m hm).below hbw.out e2 (Nat.le_refl _)⟩
          subst haR
          obtain ⟨u0, ast, caps, u1, u2, u3⟩ := hRR j c1
          have KS := hid (fun W (hW : Below wr.heap.size wr W) => ksteps_any (R j).steps ast caps W u3 (SlAt.below u2 hW (Nat.le_refl _)) (H64.out.stp j c1))
          have lt' : (j : Int) < (k : Int) := by omega
          clear hRR u2
          go_upto_block 3 with (fail)
          go_cut [] (fun wx => ∃ (v2 : Value) (sv : Nat → Value), w.heap.size + 1 + 1 < wx.heap.size ∧ Hid (Below (w.heap.size + 1 + 1) ((w.alloc (.cells #[.slice aC n cC, .slice (some ⟨bR, oR, none⟩) k cR, .int .i64 week, .slice aH hol.length cH] 26)).alloc (.cells #[.slice none 0 0, .slice none 0 0, .int .i64 0, .slice none 0 0] 26)) wx) ∧ Hid (wx.rowIs (w.heap.size + 1 + 1) 26 4 (gCopy (.slice av f.n cv) (.slice none 0 0) 0 v2)) ∧ Hid (wx.ownsRow (w.heap.size + 1 + 1 + 1) 82 5 (.slice av f.n cv) f.n (cells5 f.C f.n)) ∧ Hid (wx.ownsRow (w.heap.size + 1 + 1 + 1) 86 2 v2 (j + 1) (rules2 f.R sv (j + 1))) ∧ Hid (∀ x, x < j + 1 → wx.ownsRow (w.heap.size + 1 + 1 + 1) 3 1 (sv x) (f.R x).steps.length ((f.R x).steps.map (fun y => Value.int .i64 y))))
          case rest =>
            obtain ⟨v3, sv3, r1, r2, r3, r4, r5, r6⟩ := hcut
            go_wp2
            go_roundw
            case rel => exact ⟨j + 1, v3, sv3, by omega, by omega, by go_num, r1, r2, r3, r4, r5, r6⟩
            case measure => simp [intOf]; omega
          case first =>
            go_wp2_with fail
            refine (KS.out _ (Below.refl _ _)).mono ?_
            rintro e w5 ⟨vs, rfl, hvs, hb5⟩
            have s5 := hb5.size
            have RJ := FRE.out j
            have VS : Hid (w5.ownsRow (w.heap.size + 1 + 1 + 1) 3 1 vs (f.R j).steps.length ((f.R j).steps.map (fun y => Value.int .i64 y))) := by
              rw [RJ]
              exact own_mono hvs (by omega)
            have GJ : Hid ((f.R j).guard = pickI (R j).guard (f.n : Nat)) := by show _ = _; rw [RJ]
            have K1 : Hid (Below (w.heap.size + 1 + 1) ((w.alloc (.cells #[.slice aC n cC, .slice (some ⟨bR, oR, none⟩) k cR, .int .i64 week, .slice aH hol.length cH] 26)).alloc (.cells #[.slice none 0 0, .slice none 0 0, .int .i64 0, .slice none 0 0] 26)) w5) := hb.out.trans (hb5.mono (by omega))
            have K2 := hid (hg.out.of_block (hb5.block _ hsz))
            have K3 := hid (own_of_block hown.out (w' := w5) (fun g _ hlt => hb5.block g hlt))
            have K4 := hid (own_of_block hru.out (w' := w5) (fun g _ hlt => hb5.block g hlt))
            have K5 : Hid (∀ x, x < j → w5.ownsRow (w.heap.size + 1 + 1 + 1) 3 1 (sv x) (f.R x).steps.length ((f.R x).steps.map (fun y => Value.int .i64 y))) := fun x hx => own_of_block (hst.out x hx) (fun g _ hlt => hb5.block g hlt)
            have q0 : w5.cell? ⟨bR, oR + j * 2, none⟩ = some (.int .i64 (R j).guard) := by rw [hb5.cell (p := ⟨bR, oR + j * 2, none⟩) zR]; exact u0
            have zR5 : bR < w5.heap.size := by omega
            have z5 : w.heap.size + 1 + 1 < w5.heap.size := by omega
            have PK := hid (fun W => kpick_any (R j).guard (f.n : Nat) W (H64.out.grd j c1) (by have := FN.1; omega) (by have := FN.2; omega))
            rw [← GJ.out] at PK
            obtain ⟨avs, cvs, rfl⟩ := own_len VS.out
            clear hb5 hb hg hown hru hst hbw KS u0 u1 f1 f2 f3 RJ hvs
            have f1 := (two_boxes K1.out 1).1
            simp at f1
            have d0 := K2.out.cell (i := 0) (by omega)
            have d1 := K2.out.cell (i := 1) (by omega)
            have d9 := K2.out.frozen 1
            simp [gCopy] at d0 d1
            have d1a : ∀ o, (w5.alloc o).cell? ⟨w.heap.size + 1 + 1, 1, none⟩ = some v2 := fun o => by rw [World.cell?_alloc_lt (h := z5)]; exact d1
            have NE : Hid (v2.ownBlock ≠ some (w.heap.size + 1 + 1)) := fun e => by have := own_base K4.out e; omega
            generalize (R j).guard = rg at *
            generalize hgj : (f.R j).guard = gj at *
            have FIN : Hid (∀ (g cap : Nat) (w6 : World) (o : Obj), w6.ownsRow (w.heap.size + 1 + 1 + 1) 86 2 (.slice (some ⟨g, 0, none⟩) (j + 1) cap) (j + 1) (rules2 f.R sv j ++ [.int .i64 gj, .slice avs (f.R j).steps.length cvs]) → ((w5.alloc o).drew).grownBy w6 v2.ownBlock → ∃ (v2 : Value) (sv : Nat → Value), w.heap.size + 1 + 1 < (w6.setCell ⟨w.heap.size + 1 + 1, 1, none⟩ (.slice (some ⟨g, 0, none⟩) (j + 1) cap)).heap.size ∧ Hid (Below (w.heap.size + 1 + 1) ((w.alloc (.cells #[.slice aC n cC, .slice (some ⟨bR, oR, none⟩) k cR, .int .i64 week, .slice aH hol.length cH] 26)).alloc (.cells #[.slice none 0 0, .slice none 0 0, .int .i64 0, .slice none 0 0] 26)) (w6.setCell ⟨w.heap.size + 1 + 1, 1, none⟩ (.slice (some ⟨g, 0, none⟩) (j + 1) cap))) ∧ Hid ((w6.setCell ⟨w.heap.size + 1 + 1, 1, none⟩ (.slice (some ⟨g, 0, none⟩) (j + 1) cap)).rowIs (w.heap.size + 1 + 1) 26 4 (gCopy (.slice av f.n cv) (.slice none 0 0) 0 v2)) ∧ Hid ((w6.setCell ⟨w.heap.size + 1 + 1, 1, none⟩ (.slice (some ⟨g, 0, none⟩) (j + 1) cap)).ownsRow (w.heap.size + 1 + 1 + 1) 82 5 (.slice av f.n cv) f.n (cells5 f.C f.n)) ∧ Hid ((w6.setCell ⟨w.heap.size + 1 + 1, 1, none⟩ (.slice (some ⟨g, 0, none⟩) (j + 1) cap)).ownsRow (w.heap.size + 1 + 1 + 1) 86 2 v2 (j + 1) (rules2 f.R sv (j + 1))) ∧ Hid (∀ x, x < j + 1 → (w6.setCell ⟨w.heap.size + 1 + 1, 1, none⟩ (.slice (some ⟨g, 0, none⟩) (j + 1) cap)).ownsRow (w.heap.size + 1 + 1 + 1) 3 1 (sv x) (f.R x).steps.length ((f.R x).steps.map (fun y => Value.int .i64 y)))) := fun g cap w6 o hown2 hgrow => by
              have hbk : w6.heap[w.heap.size + 1 + 1]? = w5.heap[w.heap.size + 1 + 1]? := ev_far w5 _ hgrow z5 NE.out
              have GB : Below (w.heap.size + 1 + 1) w5 w6 := grow_below hgrow (by omega) (fun g hg' => by have := own_base K4.out hg'; omega)
              have s6 := GB.size
              have lo : w.heap.size + 1 + 1 < w.heap.size + 1 + 1 + 1 := by omega
              have N1 := hid ((K1.out.trans GB).setCell (p := ⟨w.heap.size + 1 + 1, 1, none⟩) (Nat.le_refl _) (.slice (some ⟨g, 0, none⟩) (j + 1) cap))
              have N2 : Hid ((w6.setCell ⟨w.heap.size + 1 + 1, 1, none⟩ (.slice (some ⟨g, 0, none⟩) (j + 1) cap)).rowIs (w.heap.size + 1 + 1) 26 4 (gCopy (.slice av f.n cv) (.slice none 0 0) 0 (.slice (some ⟨g, 0, none⟩) (j + 1) cap))) := ((K2.out.of_block hbk).set 1 _).congr (fun x _ => gCopy_set x)
              have N3 : Hid ((w6.setCell ⟨w.heap.size + 1 + 1, 1, none⟩ (.slice (some ⟨g, 0, none⟩) (j + 1) cap)).ownsRow (w.heap.size + 1 + 1 + 1) 82 5 (.slice av f.n cv) f.n (cells5 f.C f.n)) := ownsRow_setCell_below (own_far K3.out K4.out (by decide) hgrow) lo _
              have N4 : Hid ((w6.setCell ⟨w.heap.size + 1 + 1, 1, none⟩ (.slice (some ⟨g, 0, none⟩) (j + 1) cap)).ownsRow (w.heap.size + 1 + 1 + 1) 86 2 (.slice (some ⟨g, 0, none⟩) (j + 1) cap) (j + 1) (rules2 f.R (upd sv j (.slice avs (f.R j).steps.length cvs)) (j + 1))) := by
                rw [rules2_more, hgj]
                exact ownsRow_setCell_below hown2 lo _
              have N5 : Hid (∀ x, x < j + 1 → (w6.setCell ⟨w.heap.size + 1 + 1, 1, none⟩ (.slice (some ⟨g, 0, none⟩) (j + 1) cap)).ownsRow (w.heap.size + 1 + 1 + 1) 3 1 (upd sv j (.slice avs (f.R j).steps.length cvs) x) (f.R x).steps.length ((f.R x).steps.map (fun y => Value.int .i64 y))) := fun x hx => by
                by_cases e : x = j
                · subst e
                  rw [upd_same]
                  exact ownsRow_setCell_below (own_far VS.out K4.out (by decide) hgrow) lo _
                · rw [upd_other _ _ e]
                  exact ownsRow_setCell_below (own_far (K5.out x (by omega)) K4.out (by decide) hgrow) lo _
              have N6 : Hid (w.heap.size + 1 + 1 < (w6.setCell ⟨w.heap.size + 1 + 1, 1, none⟩ (.slice (some ⟨g, 0, none⟩) (j + 1) cap)).heap.size) := by show _ < _; simp; omega
              exact ⟨.slice (some ⟨g, 0, none⟩) (j + 1) cap, upd sv j (.slice avs (f.R j).steps.length cvs), N6.out, N1, N2, N3, N4, N5⟩
            go_upto_region 13 with (fail)
            go_region_law (first | (refine step_append_lies _ rfl (.tmp 61) (.tmp 74) 23 rfl (w.heap.size + 1 + 1 + 1) 86 i80 _ 2 32 Tryd.underlying23 I80.out Z80.out.1 Z80.out.2.1 Z80.out.2.2 rfl (by omega) v2 j (rules2 f.R sv j) (by simp [Act.eval, Act.put]) (by exact own_alloc_drew K4.out _) ⟨w5.heap.size, 0, none⟩ 1 1 [.int .i64 gj, .slice avs (f.R j).steps.length cvs] (by simp [Act.eval, Act.put]) (by rfl) (by exact news2 _ _ _ _) (by simp [Value.oneCell']) (by omega) (by unfold maxLen; omega) (by omega) (by simp; omega) (w5.heap.size + 1) (by simp) ?_; intro g cap w6 hown2 hgrow hat hlt; have hbk : w6.heap[w.heap.size + 1 + 1]? = w5.heap[w.heap.size + 1 + 1]? := ev_far w5 _ hgrow z5 NE.out; have e8 : w6.cell? ⟨w.heap.size + 1 + 1, 1, none⟩ = some v2 := (by rw [World.cell?_of_block (w := w5) hbk]; exact d1); have e9 : w6.frozen? ⟨w.heap.size + 1 + 1, 1, none⟩ = false := (by rw [World.frozen?_of_block (w := w5) hbk]; exact d9); have k0 : w6.cell? ⟨w.heap.size + 1 + 1, 0, none⟩ = some (.slice av f.n cv) := (by rw [World.cell?_of_block (w := w5) hbk]; exact d0); have k1 : w6.cell? ⟨w.heap.size, 1, none⟩ = some (.slice (some ⟨bR, oR, none⟩) k cR) := (by rw [World.cell?_of_block (w := w5) (show w6.heap[w.heap.size]? = w5.heap[w.heap.size]? from ev_far w5 _ hgrow (by omega) (fun e => by have := own_base K4.out e; omega))]; exact f1); have k2 : w6.cell? ⟨bR, oR + j * 2, none⟩ = some (.int .i64 rg) := (by rw [World.cell?_of_block (w := w5) (show w6.heap[bR]? = w5.heap[bR]? from ev_far w5 _ hgrow (by omega) (fun e => by have := own_base K4.out e; omega))]; exact q0)) | (go_simp; go_at_call 16; refine (PK.out _).mono ?_; rintro e w' ⟨rfl, hw⟩; rw [hw]; clear hw w') | fail)
            all_goals (go_wp2_with fail; go_meet; exact FIN.out _ _ _ _ hown2 hgrow)
        · have jj : j = min k 6 := by omega
          clear hit
          have EK : Hid (j = f.k) := by show _ = _; rw [FKE.out]; exact jj
          have cs2 : (¬ ((j : Int) < (k : Int))) ∨ (((j : Int) < (k : Int)) ∧ ¬ ((j : Int) < 6)) := by omega
          clear jj
          have PKW := hid (fun W => kpick_any week 127 W H64.out.wk (by omega) (by omega))
          have pb := pickI_bd week (n := 127) (by omega)
          have HH := hid (fun W (hW : Below w.heap.size w W) => kholidays_any hol aH cH W hhl (SlAt.below HHS.out hW (Nat.le_refl _)) H64.out.hol)
          have d2 := hg.out.cell (i := 2) (by omega)
          have dz : ∀ x, wr.frozen? ⟨w.heap.size + 1 + 1, x, none⟩ = false := fun x => hg.out.frozen x
          simp [gCopy] at d2
          have lo : w.heap.size + 1 + 1 < w.heap.size + 1 + 1 + 1 := by omega
          have WEQ : Hid (f.week = 1 + pickI week 127) := FWE.out
          generalize pickI week 127 = pw at *
          have N1 := hid (hb.out.setCell (p := ⟨w.heap.size + 1 + 1, 2, none⟩) (Nat.le_refl _) (.int .i64 (1 + pw)))
          have N2 : Hid ((wr.setCell ⟨w.heap.size + 1 + 1, 2, none⟩ (.int .i64 (1 + pw))).rowIs (w.heap.size + 1 + 1) 26 4 (gCopy (.slice av f.n cv) (.slice none 0 0) (1 + pw) v2)) := (hg.out.set 2 _).congr (fun x hx => by
            have : x = 0 ∨ x = 1 ∨ x = 2 ∨ x = 3 := by omega
            rcases this with rfl | rfl | rfl | rfl <;> rfl)
          have N3 : Hid ((wr.setCell ⟨w.heap.size + 1 + 1, 2, none⟩ (.int .i64 (1 + pw))).ownsRow (w.heap.size + 1 + 1 + 1) 82 5 (.slice av f.n cv) f.n (cells5 f.C f.n)) := ownsRow_setCell_below hown.out lo _
          have N4 : Hid ((wr.setCell ⟨w.heap.size + 1 + 1, 2, none⟩ (.int .i64 (1 + pw))).ownsRow (w.heap.size + 1 + 1 + 1) 86 2 v2 j (rules2 f.R sv j)) := ownsRow_setCell_below hru.out lo _
          have N5 : Hid (∀ x, x < j → (wr.setCell ⟨w.heap.size + 1 + 1, 2, none⟩ (.int .i64 (1 + pw))).ownsRow (w.heap.size + 1 + 1 + 1) 3 1 (sv x) (f.R x).steps.length ((f.R x).steps.map (fun y => Value.int .i64 y))) := fun x hx => ownsRow_setCell_below (hst.out x hx) lo _
          have N6 : Hid (w.heap.size + 1 + 1 < (wr.setCell ⟨w.heap.size + 1 + 1, 2, none⟩ (.int .i64 (1 + pw))).heap.size) := by show _ < _; simp; omega
          rcases cs2 with q1 | ⟨q1, q2⟩
          all_goals (
            go_wp2_with fail
            refine (PKW.out _).mono ?_
            rintro e w' ⟨rfl, hw⟩
            rw [hw]
            clear hw w'
            go_wp2_with fail
            refine (HH.out _ (two_boxes_below N1.out)).mono ?_
            rintro e w5 ⟨vh, rfl, hvh, hb5⟩
            have s5 := hb5.size
            simp at s5
            have z5 : w.heap.size + 1 + 1 < w5.heap.size := by omega
            have VH : Hid (w5.ownsRow (w.heap.size + 1 + 1 + 1) 3 1 vh f.hol.length (f.hol.map (fun y => Value.int .i64 y))) := by
              rw [FHE.out]
              exact own_mono hvh (by have := N6.out; omega)
            have K1 := hid (N1.out.trans (hb5.mono (by have := N6.out; omega)))
            have K2 := hid (N2.out.of_block (hb5.block _ N6.out))
            have K3 := hid (own_of_block N3.out (w' := w5) (fun g _ hlt => hb5.block g hlt))
            have K4 := hid (own_of_block N4.out (w' := w5) (fun g _ hlt => hb5.block g hlt))
            have K5 : Hid (∀ x, x < j → w5.ownsRow (w.heap.size + 1 + 1 + 1) 3 1 (sv x) (f.R x).steps.length ((f.R x).steps.map (fun y => Value.int .i64 y))) := fun x hx => own_of_block (N5.out x hx) (fun g _ hlt => hb5.block g hlt)
            obtain ⟨ah, ch, rfl⟩ := own_len VH.out
            obtain ⟨a2, c2, rfl⟩ := own_len K4.out
            clear hb5 hvh N1 N2 N3 N4 N5 N6 hb hg hown hru hst d2 dz f1 f2 f3
            obtain ⟨_, F2⟩ := two_rows K1.out (gCopy (.slice aC n cC) (.slice aH hol.length cH) week (.slice aR k cR)) (gf 0) (fun i hi => by
              have hi' : i = 0 ∨ i = 1 ∨ i = 2 ∨ i = 3 := by simp at hi; omega
              rcases hi' with rfl | rfl | rfl | rfl <;> rfl) (fun i hi => by
              have hi' : i = 0 ∨ i = 1 ∨ i = 2 ∨ i = 3 := by simp at hi; omega
              rcases hi' with rfl | rfl | rfl | rfl <;> rfl)
            have F2' : w5.rowIs (w.heap.size + 1) 26 4 (gf 0) := F2
            have d0 := K2.out.cell (i := 0) (by omega)
            have d1 := K2.out.cell (i := 1) (by omega)
            have d2 := K2.out.cell (i := 2) (by omega)
            have d3 := K2.out.cell (i := 3) (by omega)
            have dz : ∀ x, w5.frozen? ⟨w.heap.size + 1 + 1, x, none⟩ = false := fun x => K2.out.frozen x
            simp [gCopy] at d0 d1 d2 d3
            have r0 := F2'.cell (i := 0) (by omega)
            have r1 := F2'.cell (i := 1) (by omega)
            have r2 := F2'.cell (i := 2) (by omega)
            have r3 := F2'.cell (i := 3) (by omega)
            have rz : ∀ x, w5.frozen? ⟨w.heap.size + 1, x, none⟩ = false := fun x => F2'.frozen x
            simp [gf] at r0 r1 r2 r3
            have hx : ∃ FW, FW = (((((w5.setCell ⟨w.heap.size + 1 + 1, 3, none⟩ (.slice ah f.hol.length ch)).setCell ⟨w.heap.size + 1, 0, none⟩ (.slice av f.n cv)).setCell ⟨w.heap.size + 1, 1, none⟩ (.slice a2 j c2)).setCell ⟨w.heap.size + 1, 2, none⟩ (.int .i64 (1 + pw))).setCell ⟨w.heap.size + 1, 3, none⟩ (.slice ah f.hol.length ch)) := ⟨_, rfl⟩
            obtain ⟨FW, hFW⟩ := hx
            have P0 : Hid (FW.rowIs (w.heap.size + 1) 26 4 (fun x => if x = 3 then .slice ah f.hol.length ch else if x = 2 then .int .i64 (1 + pw) else if x = 1 then .slice a2 j c2 else if x = 0 then .slice av f.n cv else gf 0 x)) := by
              rw [hFW]
              exact ((((F2'.setOther (by show w.heap.size + 1 ≠ w.heap.size + 1 + 1; omega) _).set _ _).set _ _).set _ _).set _ _
            have l1 : w.heap.size + 1 < w.heap.size + 1 + 1 + 1 := by omega
            have MV : ∀ e sz v nn xs, w5.ownsRow (w.heap.size + 1 + 1 + 1) e sz v nn xs → FW.ownsRow (w.heap.size + 1 + 1 + 1) e sz v nn xs := fun e sz v nn xs h => by
              rw [hFW]
              exact ownsRow_setCell_below (ownsRow_setCell_below (ownsRow_setCell_below (ownsRow_setCell_below (ownsRow_setCell_below h lo _) l1 _) l1 _) l1 _) l1 _
            have P2 : Below w.heap.size w FW := by
              rw [hFW]
              exact (((((two_boxes_below K1.out).setCell (by show _ ≤ w.heap.size + 1 + 1; omega) _).setCell (by show _ ≤ w.heap.size + 1; omega) _).setCell (by show _ ≤ w.heap.size + 1; omega) _).setCell (by show _ ≤ w.heap.size + 1; omega) _).setCell (by show _ ≤ w.heap.size + 1; omega) _
            have Q : Hid (ShP f w (.returned (.agg #[.slice av f.n cv, .slice a2 j c2, .int .i64 (1 + pw), .slice ah f.hol.length ch])) FW) := by
              refine ⟨_, rfl, ?_, P2⟩
              rw [← WEQ.out, EK.out]
              exact fat_of (MV _ _ _ _ _ K3.out) (by rw [← EK.out]; exact MV _ _ _ _ _ K4.out) (fun x hx => MV _ _ _ _ _ (K5.out x (by rw [EK.out]; exact hx))) (fun x hx => by rw [FRE.out x]; have := shSt_len 1000000000 4 0 (R x).steps; show (shSt 1000000000 4 0 (R x).steps).length ≤ _; omega) (MV _ _ _ _ _ VH.out)
            have HFW := hid hFW
            clear hFW P2 MV K1 K3 K4 K5 VH F2
            go_wp2
            rw [← HFW.out]
            have x0 := P0.out.cell (i := 0) (by omega)
            have x1 := P0.out.cell (i := 1) (by omega)
            have x2 := P0.out.cell (i := 2) (by omega)
            have x3 := P0.out.cell (i := 3) (by omega)
            simp at x0 x1 x2 x3
            exact bodyPost_ret (v := .agg #[.slice av f.n cv, .slice a2 j c2, .int .i64 (1 + pw), .slice ah f.hol.length ch]) (by simp [results, Tryd.results12, go_sem, x0, x1, x2, x3]) rfl Q.out)

end Go.Proofs.YtnkolbngeibhpaaDoor
