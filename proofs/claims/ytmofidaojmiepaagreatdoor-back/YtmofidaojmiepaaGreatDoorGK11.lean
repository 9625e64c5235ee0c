/-
  THE CODE: a second case, just like this one.
-/
import Derived.Test.YtmofidaojmiepaaGreatDoorGK9
import Derived.Test.YtmofidaojmiepaaGreatDoorGD10
import Derived.Deep.AppendSrc
set_option linter.unusedVariables false
set_option linter.unusedSimpArgs false
namespace Go.Proofs.YtmofidaojmiepaaGreatDoor

open Go.RowKit

attribute [local go_sem ↓] Go.wp_at_zero Go.wp_at_succ

theorem own_blkF {g n c j : Nat} (h : (Value.slice (some ⟨g, 0, none⟩) n c).ownBlock = some j) : g = j := by simpa [Value.ownBlock] using h

theorem heap_newF (w : World) (o : Obj) : (w.alloc o).heap[w.heap.size]? = some o := by
  show (w.heap.push o)[w.heap.size]? = _
  simp

theorem heap_newG (w : World) (o : Obj) {n : Nat} (h : n = w.heap.size) : (w.alloc o).heap[n]? = some o := by
  subst h
  exact heap_newF w o

set_option maxRecDepth 100000 in
/-- An append onto an empty list without room: what comes out owns its room, and nothing that was there has turned. -/
theorem app0 (w : World) (t ty e : TypeId) (i : TypeInfo) (z : Value) (size bytes : Nat) (ht : Tryz.prog.underlying t = some (.slice e)) (hi : Tryz.prog.info? e = some i) (hz : i.zero = some z)
    (hsize : i.size = size) (hby : i.bytes = bytes) (hzs : z.cells.size = size) (hsz : 0 < size) (N : Nat) (hN : w.heap[N]? = some (.cells #[] e)) (ax : Option Addr) (m c : Nat) (news : List Value) (hl : news.length = m * size) (hsrc : SrcAt w ax m news) (h1 : ∀ u ∈ news, u.oneCell' = true)
    (h63 : m ≤ maxLen) (hbytes : m * bytes ≤ 140737488355328) :
    ∃ g cap w', (Builtin.append_ #[t, t] ty #[.slice (some ⟨N, 0, none⟩) 0 0, .slice ax m c]).run Tryz.prog w = .ok (.slice (some ⟨g, 0, none⟩) m cap) w' ∧
      w'.ownsRow 0 e size (.slice (some ⟨g, 0, none⟩) m cap) m news ∧ Below w.heap.size w w' ∧ (g = N ∨ w.heap.size ≤ g) := by
  have own0 : w.ownsRow 0 e size (.slice (some ⟨N, 0, none⟩) 0 0) 0 [] := ⟨by simp, Or.inr ⟨N, 0, #[], rfl, Nat.zero_le _, hN, by simp⟩⟩
  by_cases hm : m = 0
  · subst hm
    have hn : news = [] := List.eq_nil_of_length_eq_zero (by simpa using hl)
    subst hn
    refine ⟨N, 0, w, ?_, own0, Below.refl _ _, Or.inl rfl⟩
    cases ax <;> simp [Builtin.append_, run_underlying ht, sizeOf, typeInfo, hi, Builtin.lenOf, Builtin.firstCells, loadCells, loadCellsFrom, storeCells]
  rcases hsrc with h0 | ⟨ad, rfl, hlt, hnews⟩
  · exact (hm h0).elim
  subst hsize
  subst hby
  have h63' : m ≤ 9223372036854775807 := h63
  have hr := run_append_grow_src (P := Tryz.prog) w t t ty e i z ht hi hz (some ⟨N, 0, none⟩) 0 0 [] (by simp [Builtin.firstCells, loadCells, loadCellsFrom]) (.slice (some ad) m c) m news (Src.ofSlice w ht ad m c news hl hnews h1) (by omega) (by omega) (by
    unfold Builtin.nextslicecap
    rw [if_pos (by omega), Nat.zero_add]
    omega)
  rw [Nat.zero_add, List.nil_append] at hr
  have hge := grownCap_ge w m 0 e
  have hcm : grownCap w m 0 e ≤ maxLen := grownCap_le_maxLen w m 0 e h63
  refine ⟨w.heap.size, _, _, hr, ⟨hl, Or.inr ⟨w.heap.size, _, _, rfl, Nat.zero_le _, heap_alloc_new w.drew _, hge, hcm, ?_, ?_⟩⟩, (Below.refl _ _).drew.alloc (Nat.le_refl _) _, Or.inr (Nat.le_refl _)⟩
  · simp only [Array.size_append, List.size_toArray, size_zeroCells, hzs, hl, ← Nat.add_mul]
    congr 1
    omega
  · simp only [Array.toList_append]
    rw [← hl]
    exact List.take_left

/-- At a step of a region that draws its order. -/
theorem step_app0 {ops : Array Oper} {o : Oper} {a : Act} {K : Act → World → Prop} {Q : Exit → Act → World → Prop} {E : Prop} (w : World) (hgd : o.guard = none) (s x : Operand) (t : TypeId)
    (ho : o.op = .call { callee := .builtin .append, args := #[s, x], argTypes := #[t, t] })
    (e : TypeId) (i : TypeInfo) (z : Value) (size bytes : Nat) (ht : Tryz.prog.underlying t = some (.slice e)) (hi : Tryz.prog.info? e = some i) (hz : i.zero = some z)
    (hsize : i.size = size) (hby : i.bytes = bytes) (hzs : z.cells.size = size) (hsz : 0 < size) (N : Nat) (hs : a.eval s = .slice (some ⟨N, 0, none⟩) 0 0) (hN : w.heap[N]? = some (.cells #[] e))
    (ax : Option Addr) (m c : Nat) (news : List Value) (hx : a.eval x = .slice ax m c) (hl : news.length = m * size) (hsrc : SrcAt w ax m news) (h1 : ∀ u ∈ news, u.oneCell' = true)
    (h63 : m ≤ maxLen) (hbytes : m * bytes ≤ 140737488355328)
    (h : ∀ g cap w', w'.ownsRow 0 e size (.slice (some ⟨g, 0, none⟩) m cap) m news → Below w.heap.size w w' → (g = N ∨ w.heap.size ≤ g) → K (a.put o.dst (.slice (some ⟨g, 0, none⟩) m cap)) w') :
    if Region.wanted o (yielded ops a.tmps) = true then Oper.wp Tryz.prog o a w K Q else E := by
  have hw : Region.wanted o (yielded ops a.tmps) = true := by simp [Region.wanted, hgd]
  rw [if_pos hw]
  obtain ⟨g, cap, w', hr, h2, h3, h4⟩ := app0 w t o.type e i z size bytes ht hi hz hsize hby hzs hsz N hN ax m c news hl hsrc h1 h63 hbytes
  unfold Oper.wp execOp
  simp only [ho, resolve, invoke, builtin, Sem.run_bind, Sem.run_pure, Result.andThen_ok, List.map_toArray, List.map_cons, List.map_nil, hs, hx, hr]
  exact h g cap w' h2 h3 h4

/-- What Fork answers: a case in memory of its own. -/
def FkK (Q : Nat → Prop) (f : Frm) (m : Cs) (w : World) (e : Ending) (w' : World) : Prop :=
  ∃ Q' p' vE', e = .returned (.pointer (some ⟨p'.bp, 0, none⟩)) ∧ KAt Q' f p' m vE' w' ∧ Below w.heap.size w w' ∧ (∀ j, KOwn p' vE' j → w.heap.size ≤ j) ∧ ∀ j, Q' j → Q j ∨ w.heap.size ≤ j

/-- The case's cells, wherever all that was there stands. -/
theorem eight {W w' : World} {b : Nat} {v0 v1 v2 v3 v4 v5 v6 v7 : Value} (x0 : W.cell? ⟨b, 0, none⟩ = some v0) (x1 : W.cell? ⟨b, 1, none⟩ = some v1) (x2 : W.cell? ⟨b, 2, none⟩ = some v2) (x3 : W.cell? ⟨b, 3, none⟩ = some v3) (x4 : W.cell? ⟨b, 4, none⟩ = some v4) (x5 : W.cell? ⟨b, 5, none⟩ = some v5) (x6 : W.cell? ⟨b, 6, none⟩ = some v6) (x7 : W.cell? ⟨b, 7, none⟩ = some v7) (z : b < W.heap.size) (h : Below W.heap.size W w') :
    Below W.heap.size W w' ∧ w'.cell? ⟨b, 0, none⟩ = some v0 ∧ w'.cell? ⟨b, 1, none⟩ = some v1 ∧ w'.cell? ⟨b, 2, none⟩ = some v2 ∧ w'.cell? ⟨b, 3, none⟩ = some v3 ∧ w'.cell? ⟨b, 4, none⟩ = some v4 ∧ w'.cell? ⟨b, 5, none⟩ = some v5 ∧ w'.cell? ⟨b, 6, none⟩ = some v6 ∧ w'.cell? ⟨b, 7, none⟩ = some v7 :=
  ⟨h, (h.cell (p := ⟨b, 0, none⟩) z).trans x0, (h.cell (p := ⟨b, 1, none⟩) z).trans x1, (h.cell (p := ⟨b, 2, none⟩) z).trans x2, (h.cell (p := ⟨b, 3, none⟩) z).trans x3, (h.cell (p := ⟨b, 4, none⟩) z).trans x4, (h.cell (p := ⟨b, 5, none⟩) z).trans x5, (h.cell (p := ⟨b, 6, none⟩) z).trans x6, (h.cell (p := ⟨b, 7, none⟩) z).trans x7⟩

theorem case_row2 {f : Frm} (w : World) (p : KPl) (T : Int) (op : Bool) (vE : Value) (hp : p.bp = w.heap.size) : (w.alloc (.cells #[.slice (some ⟨p.bc, 0, none⟩) f.n p.cC, .slice p.aR f.k p.cR, .int .i64 f.week, .slice p.aH f.hol.length p.cH, .int .i64 T, .bool (!op), .slice (some ⟨p.bS, 0, none⟩) f.k p.cS, vE] 94)).rowIs p.bp 94 8 (kf f p T op vE) := by
  rw [hp]
  exact World.rowIs_alloc w #[.slice (some ⟨p.bc, 0, none⟩) f.n p.cC, .slice p.aR f.k p.cR, .int .i64 f.week, .slice p.aH f.hol.length p.cH, .int .i64 T, .bool (!op), .slice (some ⟨p.bS, 0, none⟩) f.k p.cS, vE] 94 (kf f p T op vE) (fun i hi => by
    have hi' : i = 0 ∨ i = 1 ∨ i = 2 ∨ i = 3 ∨ i = 4 ∨ i = 5 ∨ i = 6 ∨ i = 7 := by simp at hi; omega
    rcases hi' with rfl | rfl | rfl | rfl | rfl | rfl | rfl | rfl <;> rfl)

/-- All has been copied, in whichever order. -/
theorem fork_of {Q : Nat → Prop} {f : Frm} {p : KPl} {m : Cs} {vE : Value} {w W2 w2 w3 w4 Y : World} {bc cC bh cH gS cS gE cE : Nat} {aR : Option Addr} {cR : Nat} (hS : KAt Q f p m vE w) (h12 : Below w.heap.size w W2) (hb2 : Below W2.heap.size W2 w2) (hX : Below w2.heap.size w2 Y)
    (q1 : W2.heap.size ≤ bc) (q2 : CRow w2 bc (effC f.C m.F) f.n) (q3 : W2.heap.size ≤ bh) (q4 : IRow w2 bh f.hol) (q5 : ∀ W, w2.heap.size ≤ W.heap.size → (∀ b, W2.heap.size ≤ b → b < w2.heap.size → b ≠ bc → W.heap[b]? = w2.heap[b]?) → RAt W aR f.k f.R)
    (o1 : w3.ownsRow 0 71 4 (.slice (some ⟨gS, 0, none⟩) f.k cS) f.k ((List.range (f.k * 4)).map (stf m.S))) (h3 : Below w3.heap.size w3 Y) (s3 : w.heap.size ≤ gS) (n3 : gS < W2.heap.size ∨ w2.heap.size ≤ gS)
    (o2 : w4.ownsRow 0 99 3 (.slice (some ⟨gE, 0, none⟩) m.E.length cE) m.E.length (evs m.E)) (h4 : Below w4.heap.size w4 Y) (s4 : w.heap.size ≤ gE) (n4 : gE < W2.heap.size ∨ w2.heap.size ≤ gE) :
    FkK Q f m w (.returned (.pointer (some ⟨Y.heap.size, 0, none⟩))) (Y.alloc (.cells #[.slice (some ⟨bc, 0, none⟩) f.n cC, .slice aR f.k cR, .int .i64 f.week, .slice (some ⟨bh, 0, none⟩) f.hol.length cH, .int .i64 m.T, .bool (!m.op), .slice (some ⟨gS, 0, none⟩) f.k cS, .slice (some ⟨gE, 0, none⟩) m.E.length cE] 94)) := by
  have hK : KSt Q f p m.F m.T m.op m.S vE m.E w := hS
  have z12 := h12.size
  have zb2 := hb2.size
  have zX := hX.size
  have bY : Below w.heap.size w Y := h12.trans ((hb2.mono z12).trans (hX.mono (by omega)))
  have bX : Below w.heap.size w (Y.alloc (.cells #[.slice (some ⟨bc, 0, none⟩) f.n cC, .slice aR f.k cR, .int .i64 f.week, .slice (some ⟨bh, 0, none⟩) f.hol.length cH, .int .i64 m.T, .bool (!m.op), .slice (some ⟨gS, 0, none⟩) f.k cS, .slice (some ⟨gE, 0, none⟩) m.E.length cE] 94)) := bY.alloc bY.size _
  have lc := q2.lt
  have lh := q4.lt
  obtain ⟨fc, Nc, rc, rc2⟩ := q2
  obtain ⟨fh, Nh, rh, rh2, rh3⟩ := q4
  have nbh : bh ≠ bc := row_ne rh rc (by decide)
  obtain ⟨fs, Ns, rs, rs2, rs3⟩ := own_row o1
  have lS := rs.lt
  have zS := h3.size
  have zE := h4.size
  have lE := own_lt o2 rfl
  refine ⟨fun j => Q j ∨ (W2.heap.size ≤ j ∧ j < w2.heap.size ∧ j ≠ bc), ⟨Y.heap.size, bc, cC, aR, cR, some ⟨bh, 0, none⟩, cH, gS, cS⟩, .slice (some ⟨gE, 0, none⟩) m.E.length cE, rfl, ⟨fun W hW => ?_, fun j hj => ?_, fun j hj => ?_, case_row2 Y _ _ _ _ rfl, ⟨fc, Nc, (rc.of_block (hX.block _ lc)).alloc _, rc2⟩, ⟨fs, Ns, (rs.of_block (h3.block _ lS)).alloc _, rs2, fun j hj => ?_⟩, ?_⟩, bX, fun j hj => ?_, fun j hj => ?_⟩
  · have hst : ∀ b, W2.heap.size ≤ b → b < w2.heap.size → b ≠ bc → W.heap[b]? = w2.heap[b]? := fun b h1 h2 h3 => (hW.2 b (Or.inr ⟨h1, h2, h3⟩) (by simp; omega)).trans ((Below.heap_alloc Y _ b (by omega)).trans (hX.block b h2))
    have zW := hW.1
    simp at zW
    have hb : KBase f p W := hK.base W ⟨by omega, fun j q hj => (hW.2 j (Or.inl q) (by simp; omega)).trans (bX.block j hj)⟩
    exact ⟨hb.1, q5 W (by omega) hst, some ⟨bh, 0, none⟩, cH, rfl, fun j hj => ⟨bh, 0, rfl, by omega, by rw [Nat.zero_add, (rh.of_block (hst bh q3 lh nbh)).cell (by omega), rh3 j (by omega)]⟩⟩
  · rcases hj with hj | hj
    · have := hK.qlt j hj
      simp
      omega
    · simp
      omega
  · have hne : j < Y.heap.size ∧ j ≠ bc ∧ j ≠ gS ∧ j ≠ gE := by
      rcases hj with hj | ⟨h1, h2, h5⟩
      · have := hK.qlt j hj
        exact ⟨by omega, by omega, by omega, by omega⟩
      · refine ⟨by omega, h5, ?_, ?_⟩
        · omega
        · omega
    exact ⟨by show j ≠ Y.heap.size; omega, hne.2.1, hne.2.2.1, fun e => hne.2.2.2 (own_blkF e).symm⟩
  · have := rs3 j hj
    simpa [hj] using this
  · exact own_alloc0 (own_of_block o2 (fun b hb hlt => h4.block b hlt)) _
  · rcases hj with h | h | h | h
    · have h' : j = Y.heap.size := h
      omega
    · have h' : j = bc := h
      omega
    · have h' : j = gS := h
      omega
    · have h' : gE = j := by simpa [Value.ownBlock] using h
      omega
  · rcases hj with hj | hj
    · exact Or.inl hj
    · exact Or.inr (by omega)

theorem own_srcAt {w : World} {base : Nat} {e : TypeId} {size : Nat} {a : Option Addr} {n c : Nat} {xs : List Value} (h : w.ownsRow base e size (.slice a n c) n xs) : SrcAt w a n xs := by
  obtain ⟨h1, h2⟩ := h
  rcases h2 with ⟨h2, rfl⟩ | ⟨g, cap, cur, h2, h3, h4, h5, h6, h7, h8⟩
  · exact Or.inl rfl
  · simp at h2
    obtain ⟨rfl, _⟩ := h2
    refine Or.inr ⟨_, rfl, ?_, fun j u hu => ?_⟩
    · rcases Nat.lt_or_ge g w.heap.size with h | h
      · exact h
      · rw [Array.getElem?_eq_none h] at h4; cases h4
    · have : (⟨g, 0, none⟩ : Addr).add j = ⟨g, j, none⟩ := by unfold Addr.add; split <;> simp_all
      have hj : j < xs.length := by
        rcases Nat.lt_or_ge j xs.length with h | h
        · exact h
        · rw [List.getElem?_eq_none h] at hu; cases hu
      have e1 : cur[j]? = xs[j]? := by rw [← h8, List.getElem?_take, if_pos (by omega)]; simp
      rw [this]
      simp [World.cell?, h4, e1, hu]

theorem sta_src {w : World} {b n : Nat} {S : Nat → St} (h : FRow w b 71 (n * 4) (stf S)) : SrcAt w (some ⟨b, 0, none⟩) n ((List.range (n * 4)).map (stf S)) := by
  refine Or.inr ⟨_, rfl, h.lt, fun j u hu => ?_⟩
  have hj : j < n * 4 := by
    rcases Nat.lt_or_ge j (n * 4) with h | h
    · exact h
    · rw [List.getElem?_eq_none (by simpa using h)] at hu; cases hu
  have : (⟨b, 0, none⟩ : Addr).add j = ⟨b, j, none⟩ := by unfold Addr.add; split <;> simp_all
  rw [this, h.cell hj, ← hu]
  simp [hj]

theorem sta_one (S : Nat → St) (n : Nat) : ∀ u ∈ (List.range n).map (stf S), u.oneCell' = true := by
  intro u hu
  simp at hu
  obtain ⟨j, _, rfl⟩ := hu
  exact stf_one S j

end Go.Proofs.YtmofidaojmiepaaGreatDoor
