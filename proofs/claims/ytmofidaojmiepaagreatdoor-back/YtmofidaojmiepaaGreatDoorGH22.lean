/-
  MEMORY: the case's own copy of a form.
-/
import Derived.Test.YtmofidaojmiepaaGreatDoorGK7
import Derived.OwnWalk
set_option linter.unusedVariables false
set_option linter.unusedSimpArgs false
namespace Go.Proofs.YtmofidaojmiepaaGreatDoor

open Go.RowKit

attribute [local go_sem ↓] Go.wp_at_zero Go.wp_at_succ

/-- An empty list that was just made owns its room. -/
theorem own_empty (w : World) (e : TypeId) (size : Nat) : (w.alloc (.cells #[] e)).ownsRow w.heap.size e size (.slice (some ⟨w.heap.size, 0, none⟩) 0 0) 0 [] := by
  refine ⟨by simp, Or.inr ⟨w.heap.size, 0, #[], rfl, Nat.le_refl _, ?_, ?_⟩⟩
  · show (w.heap.push _)[w.heap.size]? = _
    simp
  · simp

/-- A list is copied by an append onto an empty one: what comes out owns its room, and nothing that was there has turned. -/
theorem app_copy (w : World) (t ty e : TypeId) (i : TypeInfo) (z : Value) (size bytes : Nat) (ht : Tryz.prog.underlying t = some (.slice e)) (hi : Tryz.prog.info? e = some i) (hz : i.zero = some z)
    (hsize : i.size = size) (hby : i.bytes = bytes) (hzs : z.cells.size = size) (hsz : 0 < size) (ad : Addr) (m c : Nat) (news : List Value) (hl : news.length = m * size) (hnews : ∀ j u, news[j]? = some u → w.cell? (ad.add j) = some u) (h1 : ∀ u ∈ news, u.oneCell' = true)
    (hlt : ad.block < w.heap.size) (h63 : m ≤ maxLen) (hbytes : m * bytes ≤ 140737488355328) :
    ∃ g cap w', (Builtin.append_ #[t, t] ty #[.slice (some ⟨w.heap.size, 0, none⟩) 0 0, .slice (some ad) m c]).run Tryz.prog (w.alloc (.cells #[] e)) = .ok (.slice (some ⟨g, 0, none⟩) m cap) w' ∧
      w'.ownsRow w.heap.size e size (.slice (some ⟨g, 0, none⟩) m cap) m news ∧ Below w.heap.size w w' ∧ w.heap.size ≤ g ∧ g < w'.heap.size := by
  have hcell : ∀ j u, news[j]? = some u → (w.alloc (.cells #[] e)).cell? (ad.add j) = some u := fun j u hu => by
    rw [World.cell?_alloc_lt (h := by unfold Addr.add; split <;> exact hlt)]
    exact hnews j u hu
  obtain ⟨v', w', a1, a2, a3, a4, a5⟩ := run_append_own_at (P := Tryz.prog) (w.alloc (.cells #[] e)) w.heap.size t ty e i z size bytes ht hi hz hsize hby hzs hsz _ 0 [] (own_empty w e size) ad m c news hl hcell h1 (by omega) (by rw [Nat.zero_add]; exact hbytes) (by simp)
  rw [Nat.zero_add, List.nil_append] at a2
  have hne : v' ≠ .slice none 0 0 := fun h => by have := (a4.1 h).1; simp at this
  have b1 := a2
  obtain ⟨_, h2⟩ := b1
  rcases h2 with ⟨h2, _⟩ | ⟨g, cap, cur, h2, h3, h4, _⟩
  · exact absurd h2 hne
  · subst h2
    have hg : g < w'.heap.size := by
      rcases Nat.lt_or_ge g w'.heap.size with h | h
      · exact h
      · rw [Array.getElem?_eq_none h] at h4; cases h4
    refine ⟨g, cap, w', a1, a2, ?_, h3, hg⟩
    exact Below.grown ((Below.refl _ _).alloc (Nat.le_refl _) _) a3 (by simp) (fun g' hg' => by
      have : w.heap.size = g' := by simpa [Value.ownBlock] using hg'
      omega)

/-- Where a list's values lie: nowhere, if there are none. -/
def SrcAt (w : World) (ax : Option Addr) (m : Nat) (news : List Value) : Prop := m = 0 ∨ ∃ ad, ax = some ad ∧ ad.block < w.heap.size ∧ ∀ j u, news[j]? = some u → w.cell? (ad.add j) = some u

/-- The same, of a list that may be nil. -/
theorem app_any (w : World) (t ty e : TypeId) (i : TypeInfo) (z : Value) (size bytes : Nat) (ht : Tryz.prog.underlying t = some (.slice e)) (hi : Tryz.prog.info? e = some i) (hz : i.zero = some z)
    (hsize : i.size = size) (hby : i.bytes = bytes) (hzs : z.cells.size = size) (hsz : 0 < size) (ax : Option Addr) (m c : Nat) (news : List Value) (hl : news.length = m * size) (hsrc : SrcAt w ax m news) (h1 : ∀ u ∈ news, u.oneCell' = true)
    (h63 : m ≤ maxLen) (hbytes : m * bytes ≤ 140737488355328) :
    ∃ g cap w', (Builtin.append_ #[t, t] ty #[.slice (some ⟨w.heap.size, 0, none⟩) 0 0, .slice ax m c]).run Tryz.prog (w.alloc (.cells #[] e)) = .ok (.slice (some ⟨g, 0, none⟩) m cap) w' ∧
      w'.ownsRow w.heap.size e size (.slice (some ⟨g, 0, none⟩) m cap) m news ∧ Below w.heap.size w w' ∧ w.heap.size ≤ g ∧ g < w'.heap.size := by
  rcases hsrc with rfl | ⟨ad, rfl, hlt, hnews⟩
  · have hn : news = [] := List.eq_nil_of_length_eq_zero (by simpa using hl)
    subst hn
    refine ⟨w.heap.size, 0, w.alloc (.cells #[] e), ?_, own_empty w e size, (Below.refl _ _).alloc (Nat.le_refl _) _, Nat.le_refl _, by simp⟩
    cases ax <;> simp [Builtin.append_, run_underlying ht, sizeOf, typeInfo, hi, Builtin.lenOf, Builtin.firstCells, loadCells, loadCellsFrom, storeCells]
  · exact app_copy w t ty e i z size bytes ht hi hz hsize hby hzs hsz ad m c news hl hnews h1 hlt h63 hbytes

/-- A list that owns its room is a row. -/
theorem own_row {w : World} {base g m cap size : Nat} {e : TypeId} {xs : List Value} (h : w.ownsRow base e size (.slice (some ⟨g, 0, none⟩) m cap) m xs) : ∃ f N, w.rowIs g e N f ∧ m * size ≤ N ∧ ∀ j, j < m * size → some (f j) = xs[j]? := by
  obtain ⟨h1, h2⟩ := h
  rcases h2 with ⟨h2, _⟩ | ⟨g', cap', cur, h2, h3, h4, h5, h6, h7, h8⟩
  · simp at h2
  · simp at h2
    obtain ⟨rfl, _⟩ := h2
    have hsz : m * size ≤ cur.size := by
      have : xs.length ≤ cur.size := by rw [← h8]; simp; omega
      omega
    refine ⟨fun j => cur.getD j undef, cur.size, ⟨cur, h4, rfl, fun i hi => by simp [Array.getD, hi]⟩, hsz, fun j hj => ?_⟩
    rw [← h8, List.getElem?_take, if_pos hj]
    have : j < cur.size := by omega
    simp [Array.getD, this]

end Go.Proofs.YtmofidaojmiepaaGreatDoor

/-
  MEMORY: the case's own copy of a form: what its lists are.
-/
set_option linter.unusedVariables false
set_option linter.unusedSimpArgs false
namespace Go.Proofs.YtmofidaojmiepaaGreatDoor

open Go.RowKit

attribute [local go_sem ↓] Go.wp_at_zero Go.wp_at_succ

/-- At the operation: a list is copied by an append onto an empty one. -/
theorem wpList_app_copy {ops : Array Oper} {rest : List Oper} {o : Oper} {a : Act} {Q : Exit → Act → World → Prop} (w : World) (hgd : o.guard = none) (s x : Operand) (t : TypeId)
    (ho : o.op = .call { callee := .builtin .append, args := #[s, x], argTypes := #[t, t] })
    (e : TypeId) (i : TypeInfo) (z : Value) (size bytes : Nat) (ht : Tryz.prog.underlying t = some (.slice e)) (hi : Tryz.prog.info? e = some i) (hz : i.zero = some z)
    (hsize : i.size = size) (hby : i.bytes = bytes) (hzs : z.cells.size = size) (hsz : 0 < size)
    (N : Nat) (hN : N = w.heap.size) (hs : a.eval s = .slice (some ⟨N, 0, none⟩) 0 0)
    (ax : Option Addr) (m c : Nat) (news : List Value) (hx : a.eval x = .slice ax m c) (hl : news.length = m * size) (hsrc : SrcAt w ax m news) (h1 : ∀ u ∈ news, u.oneCell' = true)
    (h63 : m ≤ maxLen) (hbytes : m * bytes ≤ 140737488355328)
    (h : ∀ g cap w', w'.ownsRow N e size (.slice (some ⟨g, 0, none⟩) m cap) m news → Below N w w' → N ≤ g → g < w'.heap.size → wpList Tryz.prog ops Q rest (a.put o.dst (.slice (some ⟨g, 0, none⟩) m cap)) w') :
    wpList Tryz.prog ops Q (o :: rest) a (w.alloc (.cells #[] e)) := by
  subst hN
  refine wpList_plain hgd fun K hK => ?_
  obtain ⟨g, cap, w', hr, h2, h3, h4, h5⟩ := app_any w t o.type e i z size bytes ht hi hz hsize hby hzs hsz ax m c news hl hsrc h1 h63 hbytes
  unfold Oper.wp execOp
  simp only [ho, resolve, invoke, builtin, Sem.run_bind, Sem.run_pure, Result.andThen_ok, List.map_toArray, List.map_cons, List.map_nil, hs, hx, hr]
  exact hK _ _ (h g cap w' h2 h3 h4 h5)

/-- A row whose first cells are these. -/
def CRow (w : World) (b : Nat) (C : Nat → Cel) (n : Nat) : Prop := ∃ f N, w.rowIs b 47 N f ∧ n * 5 ≤ N ∧ ∀ j, j < n * 5 → f j = cellf C j

def IRow (w : World) (b : Nat) (l : List Int) : Prop := ∃ f N, w.rowIs b 3 N f ∧ l.length ≤ N ∧ ∀ j, j < l.length → f j = .int .i64 (l.getD j 0)

theorem CRow.lt {w : World} {b : Nat} {C : Nat → Cel} {n : Nat} (h : CRow w b C n) : b < w.heap.size := by obtain ⟨_, _, h1, _⟩ := h; exact h1.lt

theorem IRow.lt {w : World} {b : Nat} {l : List Int} (h : IRow w b l) : b < w.heap.size := by obtain ⟨_, _, h1, _⟩ := h; exact h1.lt

theorem CRow.of_block {w w' : World} {b : Nat} {C : Nat → Cel} {n : Nat} (h : CRow w b C n) (hb : w'.heap[b]? = w.heap[b]?) : CRow w' b C n := by
  obtain ⟨f, N, h1, h2⟩ := h
  exact ⟨f, N, h1.of_block hb, h2⟩

theorem IRow.of_block {w w' : World} {b : Nat} {l : List Int} (h : IRow w b l) (hb : w'.heap[b]? = w.heap[b]?) : IRow w' b l := by
  obtain ⟨f, N, h1, h2⟩ := h
  exact ⟨f, N, h1.of_block hb, h2⟩

theorem IRow.ints {w : World} {b : Nat} {l : List Int} (h : IRow w b l) (cap : Nat) : IntsAt w (.slice (some ⟨b, 0, none⟩) l.length cap) l := by
  obtain ⟨f, N, h1, h2, h3⟩ := h
  exact ⟨some ⟨b, 0, none⟩, cap, rfl, fun j hj => ⟨b, 0, rfl, h1.lt, by rw [Nat.zero_add, h1.cell (by omega), h3 j (by omega)]⟩⟩

theorem ints_src {w : World} {a : Option Addr} {l : List Int} {cap : Nat} (h : IntsAt w (.slice a l.length cap) l) : SrcAt w a l.length (l.map (fun x => Value.int .i64 x)) := by
  rcases IntsAt.cases h with h0 | ⟨b, off, rfl, hb, hc⟩
  · exact Or.inl h0
  · refine Or.inr ⟨_, rfl, hb, fun j u hu => ?_⟩
    have hj : j < l.length := by
      rcases Nat.lt_or_ge j l.length with h | h
      · exact h
      · rw [List.getElem?_eq_none (by simpa using h)] at hu; cases hu
    have : (⟨b, off, none⟩ : Addr).add j = ⟨b, off + j, none⟩ := by unfold Addr.add; split <;> simp_all
    rw [this, hc j hj, ← hu]
    simp [List.getD, hj]

theorem cel_src {w : World} {b o n : Nat} {C : Nat → Cel} (hb : b < w.heap.size) (h : ∀ m, m < n → CelIs w b (o + m * 5) (C m)) : SrcAt w (some ⟨b, o, none⟩) n ((List.range (n * 5)).map (cellf C)) := by
  refine Or.inr ⟨_, rfl, hb, fun j u hu => ?_⟩
  have hj : j < n * 5 := by
    rcases Nat.lt_or_ge j (n * 5) with h | h
    · exact h
    · rw [List.getElem?_eq_none (by simpa using h)] at hu; cases hu
  have : (⟨b, o, none⟩ : Addr).add j = ⟨b, o + j, none⟩ := by unfold Addr.add; split <;> simp_all
  rw [this]
  have hu' : cellf C j = u := by simpa [hj] using hu
  rw [← hu']
  obtain ⟨g0, g1, g2, g3, g4⟩ := h (j / 5) (by omega)
  have hc : j = j / 5 * 5 ∨ j = j / 5 * 5 + 1 ∨ j = j / 5 * 5 + 2 ∨ j = j / 5 * 5 + 3 ∨ j = j / 5 * 5 + 4 := by omega
  generalize j / 5 = q at *
  rcases hc with rfl | rfl | rfl | rfl | rfl
  · rw [cellf0]; exact g0
  · rw [cellf1]; exact g1
  · rw [cellf2]; exact g2
  · rw [cellf3]; exact g3
  · rw [cellf4]; exact g4

theorem ints_news {w : World} {b : Nat} {l : List Int} {N : Nat} {f : Nat → Value} (h : w.rowIs b 3 N f) (hN : l.length ≤ N) (hf : ∀ j, j < l.length → f j = .int .i64 (l.getD j 0)) : ∀ j u, (l.map (fun x => Value.int .i64 x))[j]? = some u → w.cell? ((⟨b, 0, none⟩ : Addr).add j) = some u := by
  intro j u hu
  have hj : j < l.length := by
    rcases Nat.lt_or_ge j l.length with h | h
    · exact h
    · rw [List.getElem?_eq_none (by simpa using h)] at hu; cases hu
  have : (⟨b, 0, none⟩ : Addr).add j = ⟨b, j, none⟩ := by unfold Addr.add; split <;> simp_all
  rw [this, h.cell (by omega), hf j hj, ← hu]
  simp [List.getD, hj]

theorem ints_one (l : List Int) : ∀ u ∈ l.map (fun x => Value.int .i64 x), u.oneCell' = true := by
  intro u hu
  simp at hu
  obtain ⟨x, _, rfl⟩ := hu
  rfl

theorem cel_news {w : World} {b : Nat} {C : Nat → Cel} {n N : Nat} {f : Nat → Value} (h : w.rowIs b 47 N f) (hN : n * 5 ≤ N) (hf : ∀ j, j < n * 5 → f j = cellf C j) : ∀ j u, ((List.range (n * 5)).map (cellf C))[j]? = some u → w.cell? ((⟨b, 0, none⟩ : Addr).add j) = some u := by
  intro j u hu
  have hj : j < n * 5 := by
    rcases Nat.lt_or_ge j (n * 5) with h | h
    · exact h
    · rw [List.getElem?_eq_none (by simpa using h)] at hu; cases hu
  have : (⟨b, 0, none⟩ : Addr).add j = ⟨b, j, none⟩ := by unfold Addr.add; split <;> simp_all
  rw [this, h.cell (by omega), hf j hj, ← hu]
  simp [hj]

theorem cel_one (C : Nat → Cel) (n : Nat) : ∀ u ∈ (List.range (n * 5)).map (cellf C), u.oneCell' = true := by
  intro u hu
  simp at hu
  obtain ⟨j, hj, rfl⟩ := hu
  exact cellf_one (n := n) j hj

theorem own_crow {w : World} {base g n cap : Nat} {C : Nat → Cel} (h : w.ownsRow base 47 5 (.slice (some ⟨g, 0, none⟩) n cap) n ((List.range (n * 5)).map (cellf C))) : CRow w g C n := by
  obtain ⟨f, N, h1, h2, h3⟩ := own_row h
  refine ⟨f, N, h1, h2, fun j hj => ?_⟩
  have := h3 j hj
  simpa [hj] using this

theorem own_irow {w : World} {base g cap : Nat} {l : List Int} (h : w.ownsRow base 3 1 (.slice (some ⟨g, 0, none⟩) l.length cap) l.length (l.map (fun x => Value.int .i64 x))) : IRow w g l := by
  obtain ⟨f, N, h1, h2, h3⟩ := own_row h
  refine ⟨f, N, h1, by omega, fun j hj => ?_⟩
  have := h3 j (by omega)
  have e : l[j]? = some (l.getD j 0) := by simp [List.getD, hj]
  rw [List.getElem?_map, e] at this
  simpa using this

/-- A rule of the copy. -/
def ruleC (R : Nat → Rul) (bs cs : Nat → Nat) (j : Nat) : Value := if j % 2 = 0 then .int .i64 (R (j / 2)).guard else .slice (some ⟨bs (j / 2), 0, none⟩) (R (j / 2)).steps.length (cs (j / 2))

def RulC (w : World) (base : Nat) (R : Nat → Rul) (bs cs : Nat → Nat) (m : Nat) (v : Value) : Prop :=
  ∃ xs, w.ownsRow base 51 2 v m xs ∧ ∀ j, j < m * 2 → xs[j]? = some (ruleC R bs cs j)

theorem RulC.at {w : World} {base : Nat} {R : Nat → Rul} {bs cs : Nat → Nat} {m : Nat} {v : Value} (h : RulC w base R bs cs m v) (hs : ∀ i, i < m → IRow w (bs i) (R i).steps) (hl : ∀ i, i < m → (R i).steps.length ≤ 1000000000) :
    ∃ a cap, v = .slice a m cap ∧ RAt w a m R := by
  obtain ⟨xs, ⟨h1, h2⟩, hx⟩ := h
  rcases h2 with ⟨h2, rfl⟩ | ⟨g, cap, cur, h2, h3, h4, h5, h6, h7, h8⟩
  · exact ⟨none, 0, h2, Or.inl rfl⟩
  · refine ⟨some ⟨g, 0, none⟩, cap, h2, ?_⟩
    by_cases m0 : m = 0
    · exact Or.inl m0
    have hlt : g < w.heap.size := by
      rcases Nat.lt_or_ge g w.heap.size with h | h
      · exact h
      · rw [Array.getElem?_eq_none h] at h4; cases h4
    have hcell : ∀ j, j < m * 2 → w.cell? ⟨g, j, none⟩ = some (ruleC R bs cs j) := fun j hj => by
      have e : cur[j]? = xs[j]? := by
        rw [← h8, List.getElem?_take, if_pos hj]; simp
      simp [World.cell?, h4, e, hx j hj]
    refine Or.inr ⟨g, 0, rfl, hlt, fun i hi => ⟨?_, some ⟨bs i, 0, none⟩, cs i, ?_, (hs i hi).ints _, hl i hi⟩⟩
    · rw [Nat.zero_add, hcell _ (by omega)]; unfold ruleC; rw [if_pos (by omega), show i * 2 / 2 = i by omega]
    · rw [Nat.zero_add, hcell _ (by omega)]; unfold ruleC; rw [if_neg (by omega), show (i * 2 + 1) / 2 = i by omega]

theorem rulC_next {w2 : World} {base m b1 c1 g cap bg : Nat} {R : Nat → Rul} {bs cs : Nat → Nat} {xs : List Value} (hx : ∀ j, j < m * 2 → xs[j]? = some (ruleC R bs cs j)) (hl : xs.length = m * 2) (hbg : bg < base)
    (h : w2.ownsRow base 51 2 (.slice (some ⟨g, 0, none⟩) (m + 1) cap) (m + 1) (xs ++ [.int .i64 (R m).guard, .slice (some ⟨b1, 0, none⟩) (R m).steps.length c1])) (u : Value) :
    RulC (w2.setCell ⟨bg, 1, none⟩ u) base R (upd bs m b1) (upd cs m c1) (m + 1) (.slice (some ⟨g, 0, none⟩) (m + 1) cap) := by
  refine ⟨_, ownsRow_setCell_below h (show bg < base from hbg) _, fun j hj => ?_⟩
  by_cases h1 : j < m * 2
  · rw [List.getElem?_append_left (by omega), hx j h1]
    unfold ruleC
    rw [upd_other _ _ (by omega), upd_other _ _ (by omega)]
  · rw [List.getElem?_append_right (by omega), hl]
    have hc : j = m * 2 ∨ j = m * 2 + 1 := by omega
    rcases hc with rfl | rfl
    · rw [Nat.sub_self]
      unfold ruleC
      rw [if_pos (by omega), show m * 2 / 2 = m by omega]; rfl
    · rw [show m * 2 + 1 - m * 2 = 1 by omega]
      unfold ruleC
      rw [if_neg (by omega), show (m * 2 + 1) / 2 = m by omega, upd_same, upd_same]; rfl

/-- The copy's places. -/
def gCopy (vC vH : Value) (week : Int) (v : Value) (j : Nat) : Value := if j = 0 then vC else if j = 1 then v else if j = 2 then .int .i64 week else vH

theorem gCopy_set {vC vH : Value} {week : Int} {v v' : Value} (j : Nat) : (if j = 1 then v' else gCopy vC vH week v j) = gCopy vC vH week v' j := by
  unfold gCopy
  by_cases h : j = 1
  · subst h; rfl
  · rw [if_neg h]
    by_cases h0 : j = 0
    · rw [if_pos h0, if_pos h0]
    · rw [if_neg h0, if_neg h0, if_neg h, if_neg h]

/-- What copyForm answers: lists of its own. -/
def CopyPost (C : Nat → Cel) (n : Nat) (R : Nat → Rul) (k : Nat) (hol : List Int) (week : Int) (w : World) (e : Ending) (w' : World) : Prop :=
  ∃ bc cC aR cR bh cH, e = .returned (.agg #[.slice (some ⟨bc, 0, none⟩) n cC, .slice aR k cR, .int .i64 week, .slice (some ⟨bh, 0, none⟩) hol.length cH]) ∧ w.heap.size ≤ bc ∧ CRow w' bc C n ∧ w.heap.size ≤ bh ∧ IRow w' bh hol ∧ (∀ W, w'.heap.size ≤ W.heap.size → (∀ b, w.heap.size ≤ b → b < w'.heap.size → b ≠ bc → W.heap[b]? = w'.heap[b]?) → RAt W aR k R) ∧ Below w.heap.size w w'

end Go.Proofs.YtmofidaojmiepaaGreatDoor
