/-
  THE CODE: a second case, just like this one.
-/
import Derived.Test.YtmofidaojmiepaaDoorGK9
import Derived.Test.YtmofidaojmiepaaDoorGD12
import Derived.Deep.AppendSrc
set_option linter.unusedVariables false
set_option linter.unusedSimpArgs false
namespace Go.Proofs.YtmofidaojmiepaaDoor

open Go.RowKit

attribute [local go_sem ↓] Go.wp_at_zero Go.wp_at_succ

theorem own_blkF {g n c j : Nat} (h : (Value.slice (some ⟨g, 0, none⟩) n c).ownBlock = some j) : g = j := by simpa [Value.ownBlock] using h

theorem heap_newF (w : World) (o : Obj) : (w.alloc o).heap[w.heap.size]? = some o := by
  show (w.heap.push o)[w.heap.size]? = _
  simp

theorem heap_newG (w : World) (o : Obj) {n : Nat} (h : n = w.heap.size) : (w.alloc o).heap[n]? = some o := by
  subst h
  exact heap_newF w o

set_option maxRecDepth 100000 in
/-- An append onto an empty list without room: what comes out owns its room, and nothing that was there has turned. -/
theorem app0 (w : World) (t ty e : TypeId) (i : TypeInfo) (z : Value) (size bytes : Nat) (ht : Tryd.prog.underlying t = some (.slice e)) (hi : Tryd.prog.info? e = some i) (hz : i.zero = some z)
    (hsize : i.size = size) (hby : i.bytes = bytes) (hzs : z.cells.size = size) (hsz : 0 < size) (N : Nat) (hN : w.heap[N]? = some (.cells #[] e)) (ax : Option Addr) (m c : Nat) (news : List Value) (hl : news.length = m * size) (hsrc : SrcAt w ax m news) (h1 : ∀ u ∈ news, u.oneCell' = true)
    (h63 : m ≤ maxLen) (hbytes : m * bytes ≤ 140737488355328) :
    ∃ g cap w', (Builtin.append_ #[t, t] ty #[.slice (some ⟨N, 0, none⟩) 0 0, .slice ax m c]).run Tryd.prog w = .ok (.slice (some ⟨g, 0, none⟩) m cap) w' ∧
      w'.ownsRow 0 e size (.slice (some ⟨g, 0, none⟩) m cap) m news ∧ Below w.heap.size w w' ∧ (g = N ∨ w.heap.size ≤ g) := by
  have own0 : w.ownsRow 0 e size (.slice (some ⟨N, 0, none⟩) 0 0) 0 [] := ⟨by simp, Or.inr ⟨N, 0, #[], rfl, Nat.zero_le _, hN, by simp⟩⟩
  by_cases hm : m = 0
  · subst hm
    have hn : news = [] := List.eq_nil_of_length_eq_zero (by simpa using hl)
    subst hn
    refine ⟨N, 0, w, ?_, own0, Below.refl _ _, Or.inl rfl⟩
    cases ax <;> simp [Builtin.append_, run_underlying ht, sizeOf, typeInfo, hi, Builtin.lenOf, Builtin.firstCells, loadCells, loadCellsFrom, storeCells]
  rcases hsrc with h0 | ⟨ad, rfl, hlt, hnews⟩
  · exact (hm h0).elim
  subst hsize
  subst hby
  have h63' : m ≤ 9223372036854775807 := h63
  have hr := run_append_grow_src (P := Tryd.prog) w t t ty e i z ht hi hz (some ⟨N, 0, none⟩) 0 0 [] (by simp [Builtin.firstCells, loadCells, loadCellsFrom]) (.slice (some ad) m c) m news (Src.ofSlice w ht ad m c news hl hnews h1) (by omega) (by omega) (by
    unfold Builtin.nextslicecap
    rw [if_pos (by omega), Nat.zero_add]
    omega)
  rw [Nat.zero_add, List.nil_append] at hr
  have hge := grownCap_ge w m 0 e
  have hcm : grownCap w m 0 e ≤ maxLen := grownCap_le_maxLen w m 0 e h63
  refine ⟨w.heap.size, _, _, hr, ⟨hl, Or.inr ⟨w.heap.size, _, _, rfl, Nat.zero_le _, heap_alloc_new w.drew _, hge, hcm, ?_, ?_⟩⟩, (Below.refl _ _).drew.alloc (Nat.le_refl _) _, Or.inr (Nat.le_refl _)⟩
  · simp only [Array.size_append, List.size_toArray, size_zeroCells, hzs, hl, ← Nat.add_mul]
    congr 1
    omega
  · simp only [Array.toList_append]
    rw [← hl]
    exact List.take_left

/-- At a step of a region that draws its order. -/
theorem step_app0 {ops : Array Oper} {o : Oper} {a : Act} {K : Act → World → Prop} {Q : Exit → Act → World → Prop} {E : Prop} (w : World) (hgd : o.guard = none) (s x : Operand) (t : TypeId)
    (ho : o.op = .call { callee := .builtin .append, args := #[s, x], argTypes := #[t, t] })
    (e : TypeId) (i : TypeInfo) (z : Value) (size bytes : Nat) (ht : Tryd.prog.underlying t = some (.slice e)) (hi : Tryd.prog.info? e = some i) (hz : i.zero = some z)
    (hsize : i.size = size) (hby : i.bytes = bytes) (hzs : z.cells.size = size) (hsz : 0 < size) (N : Nat) (hs : a.eval s = .slice (some ⟨N, 0, none⟩) 0 0) (hN : w.heap[N]? = some (.cells #[] e))
    (ax : Option Addr) (m c : Nat) (news : List Value) (hx : a.eval x = .slice ax m c) (hl : news.length = m * size) (hsrc : SrcAt w ax m news) (h1 : ∀ u ∈ news, u.oneCell' = true)
    (h63 : m ≤ maxLen) (hbytes : m * bytes ≤ 140737488355328)
    (h : ∀ g cap w', w'.ownsRow 0 e size (.slice (some ⟨g, 0, none⟩) m cap) m news → Below w.heap.size w w' → (g = N ∨ w.heap.size ≤ g) → K (a.put o.dst (.slice (some ⟨g, 0, none⟩) m cap)) w') :
    if Region.wanted o (yielded ops a.tmps) = true then Oper.wp Tryd.prog o a w K Q else E := by
  have hw : Region.wanted o (yielded ops a.tmps) = true := by simp [Region.wanted, hgd]
  rw [if_pos hw]
  obtain ⟨g, cap, w', hr, h2, h3, h4⟩ := app0 w t o.type e i z size bytes ht hi hz hsize hby hzs hsz N hN ax m c news hl hsrc h1 h63 hbytes
  unfold Oper.wp execOp
  simp only [ho, resolve, invoke, builtin, Sem.run_bind, Sem.run_pure, Result.andThen_ok, List.map_toArray, List.map_cons, List.map_nil, hs, hx, hr]
  exact h g cap w' h2 h3 h4

/-- What Fork answers: a case in memory of its own. -/
def FkK (Q : Nat → Prop) (f : Frm) (m : Cs) (w : World) (e : Ending) (w' : World) : Prop :=
  ∃ Q' p' vE', e = .returned (.pointer (some ⟨p'.bp, 0, none⟩)) ∧ KAt Q' f p' m vE' w' ∧ Below w.heap.size w w' ∧ (∀ j, KOwn p' vE' j → w.heap.size ≤ j) ∧ ∀ j, Q' j → Q j ∨ w.heap.size ≤ j

/-- The case's cells, wherever all that was there stands. -/
theorem eight {W w' : World} {b : Nat} {v0 v1 v2 v3 v4 v5 v6 v7 : Value} (x0 : W.cell? ⟨b, 0, none⟩ = some v0) (x1 : W.cell? ⟨b, 1, none⟩ = some v1) (x2 : W.cell? ⟨b, 2, none⟩ = some v2) (x3 : W.cell? ⟨b, 3, none⟩ = some v3) (x4 : W.cell? ⟨b, 4, none⟩ = some v4) (x5 : W.cell? ⟨b, 5, none⟩ = some v5) (x6 : W.cell? ⟨b, 6, none⟩ = some v6) (x7 : W.cell? ⟨b, 7, none⟩ = some v7) (z : b < W.heap.size) (h : Below W.heap.size W w') :
    Below W.heap.size W w' ∧ w'.cell? ⟨b, 0, none⟩ = some v0 ∧ w'.cell? ⟨b, 1, none⟩ = some v1 ∧ w'.cell? ⟨b, 2, none⟩ = some v2 ∧ w'.cell? ⟨b, 3, none⟩ = some v3 ∧ w'.cell? ⟨b, 4, none⟩ = some v4 ∧ w'.cell? ⟨b, 5, none⟩ = some v5 ∧ w'.cell? ⟨b, 6, none⟩ = some v6 ∧ w'.cell? ⟨b, 7, none⟩ = some v7 :=
  ⟨h, (h.cell (p := ⟨b, 0, none⟩) z).trans x0, (h.cell (p := ⟨b, 1, none⟩) z).trans x1, (h.cell (p := ⟨b, 2, none⟩) z).trans x2, (h.cell (p := ⟨b, 3, none⟩) z).trans x3, (h.cell (p := ⟨b, 4, none⟩) z).trans x4, (h.cell (p := ⟨b, 5, none⟩) z).trans x5, (h.cell (p := ⟨b, 6, none⟩) z).trans x6, (h.cell (p := ⟨b, 7, none⟩) z).trans x7⟩

theorem case_row2 {f : Frm} (w : World) (p : KPl) (T : Int) (op : Bool) (vE : Value) (hp : p.bp = w.heap.size) : (w.alloc (.cells #[.slice (some ⟨p.bc, 0, none⟩) f.n p.cC, .slice p.aR f.k p.cR, .int .i64 f.week, .slice p.aH f.hol.length p.cH, .int .i64 T, .bool (!op), .slice (some ⟨p.bS, 0, none⟩) f.k p.cS, vE] 91)).rowIs p.bp 91 8 (kf f p T op vE) := by
  rw [hp]
  exact World.rowIs_alloc w #[.slice (some ⟨p.bc, 0, none⟩) f.n p.cC, .slice p.aR f.k p.cR, .int .i64 f.week, .slice p.aH f.hol.length p.cH, .int .i64 T, .bool (!op), .slice (some ⟨p.bS, 0, none⟩) f.k p.cS, vE] 91 (kf f p T op vE) (fun i hi => by
    have hi' : i = 0 ∨ i = 1 ∨ i = 2 ∨ i = 3 ∨ i = 4 ∨ i = 5 ∨ i = 6 ∨ i = 7 := by simp at hi; omega
    rcases hi' with rfl | rfl | rfl | rfl | rfl | rfl | rfl | rfl <;> rfl)

/-- All has been copied, in whichever order. -/
theorem fork_of {Q : Nat → Prop} {f : Frm} {p : KPl} {m : Cs} {vE : Value} {w W2 w2 w3 w4 Y : World} {bc cC bh cH gS cS gE cE : Nat} {aR : Option Addr} {cR : Nat} (hS : KAt Q f p m vE w) (h12 : Below w.heap.size w W2) (hb2 : Below W2.heap.size W2 w2) (hX : Below w2.heap.size w2 Y)
    (q1 : W2.heap.size ≤ bc) (q2 : CRow w2 bc (effC f.C m.F) f.n) (q3 : W2.heap.size ≤ bh) (q4 : IRow w2 bh f.hol) (q5 : ∀ W, w2.heap.size ≤ W.heap.size → (∀ b, W2.heap.size ≤ b → b < w2.heap.size → b ≠ bc → W.heap[b]? = w2.heap[b]?) → RAt W aR f.k f.R)
    (o1 : w3.ownsRow 0 80 4 (.slice (some ⟨gS, 0, none⟩) f.k cS) f.k ((List.range (f.k * 4)).map (stf m.S))) (h3 : Below w3.heap.size w3 Y) (s3 : w.heap.size ≤ gS) (n3 : gS < W2.heap.size ∨ w2.heap.size ≤ gS)
    (o2 : w4.ownsRow 0 101 3 (.slice (some ⟨gE, 0, none⟩) m.E.length cE) m.E.length (evs m.E)) (h4 : Below w4.heap.size w4 Y) (s4 : w.heap.size ≤ gE) (n4 : gE < W2.heap.size ∨ w2.heap.size ≤ gE) :
    FkK Q f m w (.returned (.pointer (some ⟨Y.heap.size, 0, none⟩))) (Y.alloc (.cells #[.slice (some ⟨bc, 0, none⟩) f.n cC, .slice aR f.k cR, .int .i64 f.week, .slice (some ⟨bh, 0, none⟩) f.hol.length cH, .int .i64 m.T, .bool (!m.op), .slice (some ⟨gS, 0, none⟩) f.k cS, .slice (some ⟨gE, 0, none⟩) m.E.length cE] 91)) := by
  have hK : KSt Q f p m.F m.T m.op m.S vE m.E w := hS
  have z12 := h12.size
  have zb2 := hb2.size
  have zX := hX.size
  have bY : Below w.heap.size w Y := h12.trans ((hb2.mono z12).trans (hX.mono (by omega)))
  have bX : Below w.heap.size w (Y.alloc (.cells #[.slice (some ⟨bc, 0, none⟩) f.n cC, .slice aR f.k cR, .int .i64 f.week, .slice (some ⟨bh, 0, none⟩) f.hol.length cH, .int .i64 m.T, .bool (!m.op), .slice (some ⟨gS, 0, none⟩) f.k cS, .slice (some ⟨gE, 0, none⟩) m.E.length cE] 91)) := bY.alloc bY.size _
  have lc := q2.lt
  have lh := q4.lt
  obtain ⟨fc, Nc, rc, rc2⟩ := q2
  obtain ⟨fh, Nh, rh, rh2, rh3⟩ := q4
  have nbh : bh ≠ bc := row_ne rh rc (by decide)
  obtain ⟨fs, Ns, rs, rs2, rs3⟩ := own_row o1
  have lS := rs.lt
  have zS := h3.size
  have zE := h4.size
  have lE := own_lt o2 rfl
  refine ⟨fun j => Q j ∨ (W2.heap.size ≤ j ∧ j < w2.heap.size ∧ j ≠ bc), ⟨Y.heap.size, bc, cC, aR, cR, some ⟨bh, 0, none⟩, cH, gS, cS⟩, .slice (some ⟨gE, 0, none⟩) m.E.length cE, rfl, ⟨fun W hW => ?_, fun j hj => ?_, fun j hj => ?_, case_row2 Y _ _ _ _ rfl, ⟨fc, Nc, (rc.of_block (hX.block _ lc)).alloc _, rc2⟩, ⟨fs, Ns, (rs.of_block (h3.block _ lS)).alloc _, rs2, fun j hj => ?_⟩, ?_⟩, bX, fun j hj => ?_, fun j hj => ?_⟩
  · have hst : ∀ b, W2.heap.size ≤ b → b < w2.heap.size → b ≠ bc → W.heap[b]? = w2.heap[b]? := fun b h1 h2 h3 => (hW.2 b (Or.inr ⟨h1, h2, h3⟩) (by simp; omega)).trans ((Below.heap_alloc Y _ b (by omega)).trans (hX.block b h2))
    have zW := hW.1
    simp at zW
    have hb : KBase f p W := hK.base W ⟨by omega, fun j q hj => (hW.2 j (Or.inl q) (by simp; omega)).trans (bX.block j hj)⟩
    exact ⟨hb.1, q5 W (by omega) hst, some ⟨bh, 0, none⟩, cH, rfl, fun j hj => ⟨bh, 0, rfl, by omega, by rw [Nat.zero_add, (rh.of_block (hst bh q3 lh nbh)).cell (by omega), rh3 j (by omega)]⟩⟩
  · rcases hj with hj | hj
    · have := hK.qlt j hj
      simp
      omega
    · simp
      omega
  · have hne : j < Y.heap.size ∧ j ≠ bc ∧ j ≠ gS ∧ j ≠ gE := by
      rcases hj with hj | ⟨h1, h2, h5⟩
      · have := hK.qlt j hj
        exact ⟨by omega, by omega, by omega, by omega⟩
      · refine ⟨by omega, h5, ?_, ?_⟩
        · omega
        · omega
    exact ⟨by show j ≠ Y.heap.size; omega, hne.2.1, hne.2.2.1, fun e => hne.2.2.2 (own_blkF e).symm⟩
  · have := rs3 j hj
    simpa [hj] using this
  · exact own_alloc0 (own_of_block o2 (fun b hb hlt => h4.block b hlt)) _
  · rcases hj with h | h | h | h
    · have h' : j = Y.heap.size := h
      omega
    · have h' : j = bc := h
      omega
    · have h' : j = gS := h
      omega
    · have h' : gE = j := by simpa [Value.ownBlock] using h
      omega
  · rcases hj with hj | hj
    · exact Or.inl hj
    · exact Or.inr (by omega)

theorem own_srcAt {w : World} {base : Nat} {e : TypeId} {size : Nat} {a : Option Addr} {n c : Nat} {xs : List Value} (h : w.ownsRow base e size (.slice a n c) n xs) : SrcAt w a n xs := by
  obtain ⟨h1, h2⟩ := h
  rcases h2 with ⟨h2, rfl⟩ | ⟨g, cap, cur, h2, h3, h4, h5, h6, h7, h8⟩
  · exact Or.inl rfl
  · simp at h2
    obtain ⟨rfl, _⟩ := h2
    refine Or.inr ⟨_, rfl, ?_, fun j u hu => ?_⟩
    · rcases Nat.lt_or_ge g w.heap.size with h | h
      · exact h
      · rw [Array.getElem?_eq_none h] at h4; cases h4
    · have : (⟨g, 0, none⟩ : Addr).add j = ⟨g, j, none⟩ := by unfold Addr.add; split <;> simp_all
      have hj : j < xs.length := by
        rcases Nat.lt_or_ge j xs.length with h | h
        · exact h
        · rw [List.getElem?_eq_none h] at hu; cases hu
      have e1 : cur[j]? = xs[j]? := by rw [← h8, List.getElem?_take, if_pos (by omega)]; simp
      rw [this]
      simp [World.cell?, h4, e1, hu]

theorem sta_src {w : World} {b n : Nat} {S : Nat → St} (h : FRow w b 80 (n * 4) (stf S)) : SrcAt w (some ⟨b, 0, none⟩) n ((List.range (n * 4)).map (stf S)) := by
  refine Or.inr ⟨_, rfl, h.lt, fun j u hu => ?_⟩
  have hj : j < n * 4 := by
    rcases Nat.lt_or_ge j (n * 4) with h | h
    · exact h
    · rw [List.getElem?_eq_none (by simpa using h)] at hu; cases hu
  have : (⟨b, 0, none⟩ : Addr).add j = ⟨b, j, none⟩ := by unfold Addr.add; split <;> simp_all
  rw [this, h.cell hj, ← hu]
  simp [hj]

theorem sta_one (S : Nat → St) (n : Nat) : ∀ u ∈ (List.range n).map (stf S), u.oneCell' = true := by
  intro u hu
  simp at hu
  obtain ⟨j, _, rfl⟩ := hu
  exact stf_one S j

set_option maxRecDepth 100000 in
set_option maxHeartbeats 8000000 in
theorem kFork_any {Q : Nat → Prop} {f : Frm} {p : KPl} {m : Cs} {vE : Value} {w : World} (hS : KAt Q f p m vE w) (hf : f.Ok) (hE : m.E.length ≤ 1000000000000) :
    Calls Tryd.prog 36 #[.pointer (some ⟨p.bp, 0, none⟩)] w fun e w' => FkK Q f m w e w' := by
  have hK : KSt Q f p m.F m.T m.op m.S vE m.E w := hS
  obtain ⟨n1, hn, hk, wk1, wk2⟩ := hf.sizes
  have hhl : f.hol.length ≤ 20 := hf.hol.1
  obtain ⟨ae, ce, rfl⟩ := own_len hK.ev
  have r0 := hK.row.cell (i := 0) (by omega)
  have r1 := hK.row.cell (i := 1) (by omega)
  have r2 := hK.row.cell (i := 2) (by omega)
  have r3 := hK.row.cell (i := 3) (by omega)
  have r4 := hK.row.cell (i := 4) (by omega)
  have r5 := hK.row.cell (i := 5) (by omega)
  have r6 := hK.row.cell (i := 6) (by omega)
  have r7 := hK.row.cell (i := 7) (by omega)
  simp [kf] at r0 r1 r2 r3 r4 r5 r6 r7
  have zb := hK.row.lt
  obtain ⟨b1, b2, b3⟩ := hK.base.now
  obtain ⟨iS, y1, y2⟩ := Option.map_eq_some_iff.1 info92
  obtain ⟨iE, y3, y4⟩ := Option.map_eq_some_iff.1 info101
  simp only [Prod.mk.injEq] at y2 y4
  have IS := hid y1
  have ZS := hid y2
  have IE := hid y3
  have ZE := hid y4
  clear y1 y2 y3 y4
  have CF := hid (fun W (h : Below w.heap.size w W) => copyForm_any (effC f.C m.F) f.R f.hol p.bc 0 p.cC p.aR p.cR p.aH p.cH f.n f.k f.week W hn hk hhl (by have := hK.celLt; have := h.size; omega) (fun j hj => (hK.celIs hj).below h hK.celLt) (b2.below h) (SlAt.below b3 h (Nat.le_refl _)))
  have SS := hid (fun W (h : Below w.heap.size w W) => sta_src (hK.sta.of_block (h.block _ hK.sta.lt)))
  have SE := hid (fun W (h : Below w.heap.size w W) => own_srcAt (own_of_block hK.ev (w' := W) (fun b _ hlt => h.block b hlt)))
  have HS := hid hS
  clear hS hK b1 b2 b3 hf
  go_enter Tryd.func36, Tryd.ntmps36
  go_wp2
  go_region_held3 (fun w' => Below w.heap.size w w' ∧ w'.cell? ⟨p.bp, 0, none⟩ = some (.slice (some ⟨p.bc, 0, none⟩) f.n p.cC) ∧ w'.cell? ⟨p.bp, 1, none⟩ = some (.slice p.aR f.k p.cR) ∧ w'.cell? ⟨p.bp, 2, none⟩ = some (.int .i64 f.week) ∧ w'.cell? ⟨p.bp, 3, none⟩ = some (.slice p.aH f.hol.length p.cH) ∧ w'.cell? ⟨p.bp, 4, none⟩ = some (.int .i64 m.T) ∧ w'.cell? ⟨p.bp, 5, none⟩ = some (.bool (!m.op)) ∧ w'.cell? ⟨p.bp, 6, none⟩ = some (.slice (some ⟨p.bS, 0, none⟩) f.k p.cS) ∧ w'.cell? ⟨p.bp, 7, none⟩ = some (.slice ae m.E.length ce))
    ((refine eight r0 r1 r2 r3 r4 r5 r6 r7 zb ?_; first | (refine Below.trans (And.left (by assumption)) (Below.mono hb2 ?_); exact Below.size (And.left (by assumption))) | (refine Below.trans (And.left (by assumption)) (Below.mono hb3 ?_); exact Below.size (And.left (by assumption))) | (refine Below.trans (And.left (by assumption)) (Below.mono hb4 ?_); exact Below.size (And.left (by assumption))) | (repeat' (first | exact Below.refl _ _ | exact And.left (by assumption) | refine Below.drew ?_ | refine Below.alloc ?_ (by first | exact Nat.le_refl _ | exact Below.size (And.left (by assumption)) | (simp; done) | (simp; omega)) _))))
    (first
      | (go_at_call 67; refine (CF.out _ (by first | exact And.left (by assumption) | (repeat' (first | exact Below.refl _ _ | assumption | exact And.left (by assumption) | refine Below.drew ?_ | refine Below.alloc ?_ (by first | exact Nat.le_refl _ | (simp; done) | (simp; omega)) _)))).mono ?_; rintro e w2 ⟨bc, cC, aR, cR, bh, cH, rfl, q1, q2, q3, q4, q5, hb2⟩)
      | (refine step_app0 _ rfl (.tmp 16) (.tmp 20) 43 rfl 80 iS _ 4 32 underlyingE IS.out ZS.out.1 ZS.out.2.1 ZS.out.2.2 rfl (by omega) _ rfl (by repeat' (first | exact heap_newG _ _ (by first | rfl | (simp; done) | (simp; omega)) | (refine (Below.heap_alloc _ _ _ (by first | (simp; done) | (simp; omega) | (have z2 := hb2.size; simp at z2 ⊢; omega) | (have z3 := hb3.size; simp at z3 ⊢; omega) | (have z2 := hb2.size; have z3 := hb3.size; simp at z2 z3 ⊢; omega))).trans ?_) | (refine (hb3.block _ (by first | (simp; done) | (simp; omega) | (have z2 := hb2.size; simp at z2 ⊢; omega) | (have z3 := hb3.size; simp at z3 ⊢; omega) | (have z2 := hb2.size; have z3 := hb3.size; simp at z2 z3 ⊢; omega))).trans ?_) | (refine (hb2.block _ (by first | (simp; done) | (simp; omega) | (have z2 := hb2.size; simp at z2 ⊢; omega) | (have z3 := hb3.size; simp at z3 ⊢; omega) | (have z2 := hb2.size; have z3 := hb3.size; simp at z2 z3 ⊢; omega))).trans ?_) | fail)) (some ⟨p.bS, 0, none⟩) f.k p.cS ((List.range (f.k * 4)).map (stf m.S)) (by rfl) (by simp) (SS.out _ (by first | exact And.left (by assumption) | (repeat' (first | exact Below.refl _ _ | assumption | exact And.left (by assumption) | refine Below.drew ?_ | refine Below.alloc ?_ (by first | exact Nat.le_refl _ | (simp; done) | (simp; omega)) _)))) (sta_one _ _) (by unfold maxLen; omega) (by omega) ?_; intro gS cS w3 o1 hb3 hg1)
      | (refine step_app0 _ rfl (.tmp 22) (.tmp 26) 44 rfl 101 iE _ 3 24 Tryd.underlying44 IE.out ZE.out.1 ZE.out.2.1 ZE.out.2.2 rfl (by omega) _ rfl (by repeat' (first | exact heap_newG _ _ (by first | rfl | (simp; done) | (simp; omega)) | (refine (Below.heap_alloc _ _ _ (by first | (simp; done) | (simp; omega) | (have z2 := hb2.size; simp at z2 ⊢; omega) | (have z3 := hb3.size; simp at z3 ⊢; omega) | (have z2 := hb2.size; have z3 := hb3.size; simp at z2 z3 ⊢; omega))).trans ?_) | (refine (hb3.block _ (by first | (simp; done) | (simp; omega) | (have z2 := hb2.size; simp at z2 ⊢; omega) | (have z3 := hb3.size; simp at z3 ⊢; omega) | (have z2 := hb2.size; have z3 := hb3.size; simp at z2 z3 ⊢; omega))).trans ?_) | (refine (hb2.block _ (by first | (simp; done) | (simp; omega) | (have z2 := hb2.size; simp at z2 ⊢; omega) | (have z3 := hb3.size; simp at z3 ⊢; omega) | (have z2 := hb2.size; have z3 := hb3.size; simp at z2 z3 ⊢; omega))).trans ?_) | fail)) ae m.E.length ce (evs m.E) (by rfl) (evs_length _) (SE.out _ (by first | exact And.left (by assumption) | (repeat' (first | exact Below.refl _ _ | assumption | exact And.left (by assumption) | refine Below.drew ?_ | refine Below.alloc ?_ (by first | exact Nat.le_refl _ | (simp; done) | (simp; omega)) _)))) (evs_one _) (by unfold maxLen; omega) (by omega) ?_; intro gE cE w4 o2 hb4 hg2)
      | fail)
  all_goals (
    have B23 : Below w2.heap.size w2 w3 := by first | exact hb3 | exact ((Below.refl _ _).alloc (Nat.le_refl _) _).trans (hb3.mono (by simp)) | exact (((Below.refl _ _).alloc (Nat.le_refl _) _).alloc (by simp) _).trans (hb3.mono (by simp; omega))
    have B34 : Below w3.heap.size w3 w4 := by first | exact hb4 | exact ((Below.refl _ _).alloc (Nat.le_refl _) _).trans (hb4.mono (by simp))
    have z2 := hb2.size
    have z3 := hb3.size
    have z4 := hb4.size
    have g1 := hg1
    have g2 := hg2
    simp at z2 z3 z4 g1 g2
    have R := hid (fork_of (cC := cC) (cR := cR) (cH := cH) HS.out (by repeat' (first | exact Below.refl _ _ | refine Below.drew ?_ | refine Below.alloc ?_ (by first | exact Nat.le_refl _ | (simp; done) | (simp; omega)) _)) hb2 (B23.trans (B34.mono B23.size)) q1 q2 q3 q4 q5 o1 B34 (by omega) (by simp; omega) o2 (Below.refl _ _) (by omega) (by simp; omega))
    clear B23 B34 z2 z3 z4 g1 g2 hg1 hg2 hb2 hb3 hb4 q1 q2 q3 q4 q5 o1 o2
    go_wp2
    go_ret
    exact R.out)

end Go.Proofs.YtmofidaojmiepaaDoor
