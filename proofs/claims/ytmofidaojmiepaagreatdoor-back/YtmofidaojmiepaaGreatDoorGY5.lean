/-
  THE WALKS: the code's reader of texts: a kind.
-/
import Derived.Test.YtmofidaojmiepaaGreatDoorGY1
import Derived.Test.YtmofidaojmiepaaGreatDoorGD10
set_option linter.unusedVariables false
set_option linter.unusedSimpArgs false
namespace Go.Proofs.YtmofidaojmiepaaGreatDoor

open Go.RowKit

open Go.Lib (itoa decDigits nDigits)

attribute [local go_sem ↓] Go.wp_at_zero Go.wp_at_succ

/-- What kind leaves. -/
def KdP (br : Nat) (s : ByteArray) (k : Nat) (w : World) (e : Ending) (w' : World) : Prop :=
  (∃ (kd k' : Nat), e = .returned (.tuple #[.int .i64 kd, .bool true]) ∧ kd ≤ 12 ∧ rest s k = 32 :: (itoa kd ++ rest s k') ∧ (kd = 1 → ∀ c t, rest s k' = c :: t → ¬ (48 ≤ c.toNat ∧ c.toNat ≤ 50)) ∧ Rd br s k' w' ∧ Chg (· = br) w w') ∨
  (∃ k' : Nat, e = .returned (.tuple #[.int .i64 0, .bool false]) ∧ KindNo (rest s k) (rest s k') ∧ Rd br s k' w' ∧ Chg (· = br) w w')

theorem itoa_one {d : Nat} (h : d < 10) : itoa (d : Int) = [UInt8.ofNat (48 + d)] := by rw [itoa_pos, dec_one h]

theorem itoa_two {a d : Nat} (h0 : 0 < a) (ha : a < 10) (h : d < 10) : itoa ((10 * a + d : Nat) : Int) = [UInt8.ofNat (48 + a), UInt8.ofNat (48 + d)] := by
  rw [itoa_pos, dec_more h0 h, dec_one ha]
  rfl

set_option maxRecDepth 100000 in
set_option maxHeartbeats 2000000 in
theorem rkind_any {br k : Nat} {s : ByteArray} {w : World} (h : Rd br s k w) :
    Calls Tryz.prog 72 #[.pointer (some ⟨br, 0, none⟩)] w fun e w' => KdP br s k w e w' := by
  have TK := hid (take_any h 32 32 (by decide))
  clear h
  go_enter Tryz.func72, Tryz.ntmps72
  go_wp2_with fail
  refine TK.out.mono ?_
  rintro e w1 (⟨k1, rfl, rd, ch, hk1, hr⟩ | ⟨rfl, rd, ch, hr⟩)
  · clear hk1
    have RD := hid rd
    have CH := hid ch
    have HR := hid hr
    have DG := hid (digit_any rd)
    clear rd ch hr TK
    go_wp2_with fail
    refine DG.out.mono ?_
    rintro e w2 (⟨d, rfl, d10, hk, hr, hb⟩ | ⟨rfl, hn, hb⟩)
    · have RD2 := hid (RD.out.keep hb)
      have CH2 := hid (CH.out.low hb)
      have HR2 := hid hr
      have r1 : w2.cell? ⟨br, 1, none⟩ = some (.int .i64 k1) := RD2.out.row.cell (i := 1) (by omega)
      have zb := RD2.out.row.lt
      have fz := RD2.out.row.frozen 1
      have big := RD2.out.big
      have RD3 := hid (RD2.out.step hk)
      have CH3 : Hid (Chg (· = br) w (w2.setCell ⟨br, 1, none⟩ (.int .i64 (k1 + 1)))) := CH2.out.setCell _ _ rfl
      have DG2 := hid (digit_any RD3.out)
      clear hr hb DG RD CH RD2 CH2
      go_wp2_with fail
      refine DG2.out.mono ?_
      rintro e w3 (⟨d2, rfl, d210, hk2, hr2, hb3⟩ | ⟨rfl, hn2, hb3⟩)
      · have RD4 := hid (RD3.out.keep hb3)
        have CH4 := hid (CH3.out.low hb3)
        clear hb3 DG2 RD3 CH3 r1 fz
        by_cases d0 : d = 0
        · have R : Hid (KdP br s k w (.returned (.tuple #[.int .i64 d, .bool true])) w3) := Or.inl ⟨d, k1 + 1, rfl, by omega, by rw [HR.out, HR2.out, itoa_one d10]; rfl, fun e => by omega, RD4.out, CH4.out⟩
          subst d0
          clear hr2
          go_wp2
          go_ret2
          exact R.out
        · have gt : (0 : Int) < (d : Int) := by omega
          have KN := hid (known_any (10 * (d : Int) + d2) w3)
          by_cases hkn : 10 * d + d2 ≤ 12
          · have kt : M.knownB (10 * (d : Int) + d2) = true := by unfold M.knownB; simp; omega
            rw [kt] at KN
            have r1 : w3.cell? ⟨br, 1, none⟩ = some (.int .i64 ((k1 : Int) + 1)) := RD4.out.row.cell (i := 1) (by omega)
            have zb := RD4.out.row.lt
            have fz := RD4.out.row.frozen 1
            have R : Hid (KdP br s k w (.returned (.tuple #[.int .i64 (10 * (d : Int) + d2), .bool true])) (w3.setCell ⟨br, 1, none⟩ (.int .i64 ((k1 : Int) + 1 + 1)))) := by
              refine Or.inl ⟨10 * d + d2, k1 + 1 + 1, ?_, hkn, ?_, fun e => by omega, ?_, CH4.out.setCell _ _ rfl⟩
              · rw [show ((10 * d + d2 : Nat) : Int) = 10 * (d : Int) + d2 by omega]
              · rw [HR.out, HR2.out, hr2, itoa_two (by omega) d10 d210]; rfl
              · exact RD4.out.step hk2
            clear kt hr2 RD4 CH4 HR HR2
            go_wp2_with fail
            refine KN.out.mono ?_
            rintro e w' ⟨rfl, hw⟩
            rw [hw]
            clear hw w' KN
            go_wp2
            go_ret2
            exact R.out
          · have kt : M.knownB (10 * (d : Int) + d2) = false := by unfold M.knownB; simp; omega
            rw [kt] at KN
            have R : Hid (KdP br s k w (.returned (.tuple #[.int .i64 d, .bool true])) w3) := by
              refine Or.inl ⟨d, k1 + 1, rfl, by omega, by rw [HR.out, HR2.out, itoa_one d10]; rfl, fun e c t hc hcc => ?_, RD4.out, CH4.out⟩
              rw [hr2] at hc
              have := (List.cons.inj hc).1
              rw [← this, ofNat_toNat d210] at hcc
              omega
            clear kt hr2 RD4 CH4 HR HR2
            go_wp2_with fail
            refine KN.out.mono ?_
            rintro e w' ⟨rfl, hw⟩
            rw [hw]
            clear hw w' KN
            go_wp2
            go_ret2
            exact R.out
      · have R : Hid (KdP br s k w (.returned (.tuple #[.int .i64 d, .bool true])) w3) := by
          refine Or.inl ⟨d, k1 + 1, rfl, by omega, by rw [HR.out, HR2.out, itoa_one d10]; rfl, fun e c t hc hcc => hn2 c t hc ⟨by omega, by omega⟩, RD3.out.keep hb3, CH3.out.low hb3⟩
        clear hb3 DG2 RD3 CH3 hn2 HR HR2
        go_wp2
        go_ret2
        exact R.out
    · have R : Hid (KdP br s k w (.returned (.tuple #[.int .i64 0, .bool false])) w2) := Or.inr ⟨k1, rfl, Or.inr ⟨HR.out, hn⟩, RD.out.keep hb, CH.out.low hb⟩
      clear hn hb DG RD CH HR
      go_wp2
      go_ret2
      exact R.out
  · have R : Hid (KdP br s k w (.returned (.tuple #[.int .i64 0, .bool false])) w1) := Or.inr ⟨k, rfl, Or.inl ⟨rfl, hr⟩, rd, ch⟩
    clear rd ch hr TK
    go_wp2
    go_ret2
    exact R.out

end Go.Proofs.YtmofidaojmiepaaGreatDoor

/-
  THE WALKS: the code's reader of texts: what a cell needs.
-/
set_option linter.unusedVariables false
set_option linter.unusedSimpArgs false
namespace Go.Proofs.YtmofidaojmiepaaGreatDoor

open Go.RowKit

open Go.Lib (itoa decDigits nDigits)

attribute [local go_sem ↓] Go.wp_at_zero Go.wp_at_succ

/-- So far. -/
structure Nd (br : Nat) (s : ByteArray) (k : Nat) (w : World) (i : Nat) (l : List Int) (k' : Nat) (wr : World) : Prop where
  eq : rest s k = numsT l ++ rest s k'
  few : ∀ x ∈ l, N10 x
  mu : Mu l (rest s k')
  len : l.length = i
  zero : wr.rowIs w.heap.size 121 3 (fun _ => .int .i64 0)
  row : wr.rowIs (w.heap.size + 1) 121 3 (fun j => .int .i64 (l.getD j 0))
  rd : Rd br s k' wr
  chg : Chg (· = br) w wr

def arr3 (l : List Int) : Value := .agg #[.int .i64 (l.getD 0 0), .int .i64 (l.getD 1 0), .int .i64 (l.getD 2 0)]

/-- What needs leaves. -/
def NeP (br : Nat) (s : ByteArray) (k count : Nat) (w : World) (e : Ending) (w' : World) : Prop :=
  (∃ (l : List Int) (k' : Nat), e = .returned (.tuple #[arr3 l, .bool true]) ∧ l.length = count ∧ rest s k = numsT l ++ rest s k' ∧ (∀ x ∈ l, N10 x) ∧ Mu l (rest s k') ∧ Rd br s k' w' ∧ Chg (· = br) w w') ∨
  (∃ (l : List Int) (r1 : List UInt8) (k' : Nat), e = .returned (.tuple #[arr3 l, .bool false]) ∧ l.length < count ∧ rest s k = numsT l ++ r1 ∧ (∀ x ∈ l, N10 x) ∧ Mu l r1 ∧ NumNo r1 (rest s k') ∧ Rd br s k' w' ∧ Chg (· = br) w w')

theorem Rd.far {br k : Nat} {s : ByteArray} {w : World} (h : Rd br s k w) {b : Nat} (hb : b ≠ br) (o : Nat) (v : Value) : Rd br s k (w.setCell ⟨b, o, none⟩ v) :=
  ⟨h.row.setOther (fun e => hb e.symm) _, h.le, h.big⟩

theorem getD_snoc (l : List Int) (n : Int) (j : Nat) : (if j = l.length then n else l.getD j 0) = (l ++ [n]).getD j 0 := by
  by_cases h : j = l.length
  · subst h
    rw [if_pos rfl]
    simp [List.getD_eq_getElem?_getD]
  · rw [if_neg h]
    simp only [List.getD_eq_getElem?_getD]
    by_cases h2 : j < l.length
    · rw [List.getElem?_append_left h2]
    · rw [List.getElem?_append_right (by omega), List.getElem?_eq_none (by omega), List.getElem?_eq_none (by simp; omega)]

/-- Three places of a block of the call's own are written. -/
theorem put3 {br k : Nat} {s : ByteArray} {w W : World} (hr : Rd br s k W) (hc : Chg (· = br) w W) (zb : br < w.heap.size) (a b c : Value) :
    Rd br s k (((W.setCell ⟨w.heap.size, 0, none⟩ a).setCell ⟨w.heap.size, 1, none⟩ b).setCell ⟨w.heap.size, 2, none⟩ c) ∧ Chg (· = br) w (((W.setCell ⟨w.heap.size, 0, none⟩ a).setCell ⟨w.heap.size, 1, none⟩ b).setCell ⟨w.heap.size, 2, none⟩ c) := by
  refine ⟨((hr.far (by omega) _ _).far (by omega) _ _).far (by omega) _ _, hc.trans (Y := fun j => w.heap.size ≤ j) ?_ (fun j hj hx => by omega)⟩
  exact (((Chg.of (X := fun j => w.heap.size ≤ j) (Below.refl _ _)).setCell _ _ (Nat.le_refl _)).setCell _ _ (Nat.le_refl _)).setCell _ _ (Nat.le_refl _)

set_option maxRecDepth 100000 in
set_option maxHeartbeats 2000000 in
theorem needs_any {br k : Nat} {s : ByteArray} {w : World} (h : Rd br s k w) (count : Nat) (hc : count ≤ 3) :
    Calls Tryz.prog 73 #[.pointer (some ⟨br, 0, none⟩), .int .i64 count] w fun e w' => NeP br s k count w e w' := by
  have zb := h.row.lt
  have N0 : Hid (Nd br s k w 0 [] k ((w.alloc (.cells #[.int .i64 0, .int .i64 0, .int .i64 0] 121)).alloc (.cells #[.int .i64 0, .int .i64 0, .int .i64 0] 121))) := by
    have B : Below w.heap.size w ((w.alloc (.cells #[.int .i64 0, .int .i64 0, .int .i64 0] 121)).alloc (.cells #[.int .i64 0, .int .i64 0, .int .i64 0] 121)) := ((Below.refl _ _).alloc (Nat.le_refl _) _).alloc (by simp) _
    refine ⟨rfl, fun x hx => by simp at hx, mu_nil _, rfl, ?_, ?_, h.keep B, Chg.of B⟩
    · have h1 := World.rowIs_alloc w #[.int .i64 0, .int .i64 0, .int .i64 0] 121 (fun _ => .int .i64 0) (fun i hi => by
        have : i = 0 ∨ i = 1 ∨ i = 2 := by simp at hi; omega
        rcases this with rfl | rfl | rfl <;> rfl)
      exact h1.of_block (Below.heap_alloc _ _ _ h1.lt)
    · have h1 := World.rowIs_alloc (w.alloc (.cells #[.int .i64 0, .int .i64 0, .int .i64 0] 121)) #[.int .i64 0, .int .i64 0, .int .i64 0] 121 (fun j => .int .i64 (([] : List Int).getD j 0)) (fun i hi => by
        have : i = 0 ∨ i = 1 ∨ i = 2 := by simp at hi; omega
        rcases this with rfl | rfl | rfl <;> rfl)
      rw [World.size_alloc] at h1
      exact h1
  clear h
  go_enter Tryz.func73, Tryz.ntmps73
  go_wp2_with fail
  go_loopw [7] (fun t wr => ∃ (i : Nat) (l : List Int) (k' : Nat), i ≤ count ∧ t = .int .i64 i ∧ Hid (Nd br s k w i l k' wr)) (fun t _ => 3 - (intOf t).toNat)
  case atStart => exact ⟨0, [], k, by omega, rfl, N0⟩
  case round =>
    clear N0
    obtain ⟨i, l, k', i1, rfl, hn⟩ := hrel
    have zs := hn.out.chg.size
    have zrow := hn.out.row.lt
    by_cases hit : i < count
    · have lt' : (i : Int) < (count : Int) := by omega
      have lt3 : (i : Int) < 3 := by omega
      have NM := hid (number_any hn.out.rd)
      go_wp2_with fail
      refine NM.out.mono ?_
      rintro e w2 (⟨n, k2, rfl, ok, rd, ch⟩ | ⟨n, k2, rfl, no, rd, ch⟩)
      · have row2 := hn.out.row.of_block (ch.block _ zrow (by omega))
        have zero2 := hn.out.zero.of_block (ch.block _ hn.out.zero.lt (by omega))
        have zr2 := row2.lt
        have fz : ∀ j, w2.frozen? ⟨w.heap.size + 1, j, none⟩ = false := fun j => row2.frozen j
        have c0 : w2.cell? ⟨w.heap.size + 1, i, none⟩ = some (.int .i64 (l.getD i 0)) := row2.cell (i := i) (by omega)
        have N3 : Hid (Nd br s k w (i + 1) (l ++ [n]) k2 (w2.setCell ⟨w.heap.size + 1, i, none⟩ (.int .i64 n))) := by
          refine ⟨?_, ?_, Mu.snoc ok.munch, by simp [hn.out.len], zero2.setOther (by show w.heap.size ≠ w.heap.size + 1; omega) _, (row2.set i _).congr (fun j hj => ?_), rd.far (by omega) _ _, (hn.out.chg.trans ch (fun _ _ x => x)).trans (Y := fun j => w.heap.size ≤ j) ?_ (fun j hj hx => by omega)⟩
          · rw [hn.out.eq, ok.eq, numsT_snoc]; simp
          · intro x hx
            rcases List.mem_append.1 hx with h | h
            · exact hn.out.few x h
            · rw [List.mem_singleton.1 h]; exact ok.few
          · have := getD_snoc l n j
            rw [hn.out.len] at this
            rw [← this]
            by_cases e : j = i
            · rw [if_pos e, if_pos e]
            · rw [if_neg e, if_neg e]
          · exact (Chg.of (X := fun j => w.heap.size ≤ j) (Below.refl _ _)).setCell _ _ (by show w.heap.size ≤ w.heap.size + 1; omega)
        clear row2 zero2 ok rd ch NM hn
        go_wp2
        go_roundw
        case rel => exact ⟨i + 1, l ++ [n], k2, by omega, by go_num, N3⟩
        case measure => simp [intOf]; omega
      · have row2 := hn.out.row.of_block (ch.block _ zrow (by omega))
        have zero2 := hn.out.zero.of_block (ch.block _ hn.out.zero.lt (by omega))
        have c0 : w2.cell? ⟨w.heap.size + 1, 0, none⟩ = some (.int .i64 (l.getD 0 0)) := row2.cell (i := 0) (by omega)
        have c1 : w2.cell? ⟨w.heap.size + 1, 1, none⟩ = some (.int .i64 (l.getD 1 0)) := row2.cell (i := 1) (by omega)
        have c2 : w2.cell? ⟨w.heap.size + 1, 2, none⟩ = some (.int .i64 (l.getD 2 0)) := row2.cell (i := 2) (by omega)
        have z0 : w2.cell? ⟨w.heap.size, 0, none⟩ = some (.int .i64 0) := zero2.cell (i := 0) (by omega)
        have z1 : w2.cell? ⟨w.heap.size, 1, none⟩ = some (.int .i64 0) := zero2.cell (i := 1) (by omega)
        have z2 : w2.cell? ⟨w.heap.size, 2, none⟩ = some (.int .i64 0) := zero2.cell (i := 2) (by omega)
        have fz : ∀ j, w2.frozen? ⟨w.heap.size, j, none⟩ = false := fun j => zero2.frozen j
        have zz := zero2.lt
        have zr := row2.lt
        have R : Hid (NeP br s k count w (.returned (.tuple #[.agg #[.int .i64 (l.getD 0 0), .int .i64 (l.getD 1 0), .int .i64 (l.getD 2 0)], .bool false])) (((w2.setCell ⟨w.heap.size, 0, none⟩ (.int .i64 (l.getD 0 0))).setCell ⟨w.heap.size, 1, none⟩ (.int .i64 (l.getD 1 0))).setCell ⟨w.heap.size, 2, none⟩ (.int .i64 (l.getD 2 0)))) := by
          obtain ⟨p1, p2⟩ := put3 rd (hn.out.chg.trans ch (fun _ _ x => x)) zb (.int .i64 (l.getD 0 0)) (.int .i64 (l.getD 1 0)) (.int .i64 (l.getD 2 0))
          exact Or.inr ⟨l, rest s k', k2, rfl, by rw [hn.out.len]; omega, hn.out.eq, hn.out.few, hn.out.mu, no, p1, p2⟩
        clear row2 zero2 no rd ch NM hn
        generalize l.getD 0 0 = x0 at *
        generalize l.getD 1 0 = x1 at *
        generalize l.getD 2 0 = x2 at *
        go_wp2
        exact bodyPost_ret (v := .tuple #[.agg #[.int .i64 x0, .int .i64 x1, .int .i64 x2], .bool false]) (by simp [results, Tryz.results73, go_sem, *]) rfl R.out
    · obtain rfl : i = count := by omega
      have c0 : wr.cell? ⟨w.heap.size + 1, 0, none⟩ = some (.int .i64 (l.getD 0 0)) := hn.out.row.cell (i := 0) (by omega)
      have c1 : wr.cell? ⟨w.heap.size + 1, 1, none⟩ = some (.int .i64 (l.getD 1 0)) := hn.out.row.cell (i := 1) (by omega)
      have c2 : wr.cell? ⟨w.heap.size + 1, 2, none⟩ = some (.int .i64 (l.getD 2 0)) := hn.out.row.cell (i := 2) (by omega)
      have z0 : wr.cell? ⟨w.heap.size, 0, none⟩ = some (.int .i64 0) := hn.out.zero.cell (i := 0) (by omega)
      have z1 : wr.cell? ⟨w.heap.size, 1, none⟩ = some (.int .i64 0) := hn.out.zero.cell (i := 1) (by omega)
      have z2 : wr.cell? ⟨w.heap.size, 2, none⟩ = some (.int .i64 0) := hn.out.zero.cell (i := 2) (by omega)
      have fz : ∀ j, wr.frozen? ⟨w.heap.size, j, none⟩ = false := fun j => hn.out.zero.frozen j
      have zz := hn.out.zero.lt
      have zr := hn.out.row.lt
      have R : Hid (NeP br s k i w (.returned (.tuple #[.agg #[.int .i64 (l.getD 0 0), .int .i64 (l.getD 1 0), .int .i64 (l.getD 2 0)], .bool true])) (((wr.setCell ⟨w.heap.size, 0, none⟩ (.int .i64 (l.getD 0 0))).setCell ⟨w.heap.size, 1, none⟩ (.int .i64 (l.getD 1 0))).setCell ⟨w.heap.size, 2, none⟩ (.int .i64 (l.getD 2 0)))) := by
        obtain ⟨p1, p2⟩ := put3 hn.out.rd hn.out.chg zb (.int .i64 (l.getD 0 0)) (.int .i64 (l.getD 1 0)) (.int .i64 (l.getD 2 0))
        exact Or.inl ⟨l, k', rfl, hn.out.len, hn.out.eq, hn.out.few, hn.out.mu, p1, p2⟩
      clear hn
      generalize l.getD 0 0 = x0 at *
      generalize l.getD 1 0 = x1 at *
      generalize l.getD 2 0 = x2 at *
      go_wp2
      exact bodyPost_ret (v := .tuple #[.agg #[.int .i64 x0, .int .i64 x1, .int .i64 x2], .bool true]) (by simp [results, Tryz.results73, go_sem, *]) rfl R.out

end Go.Proofs.YtmofidaojmiepaaGreatDoor

/-
  THE WALKS: the code's reader of texts: a rule.
-/
set_option linter.unusedVariables false
set_option linter.unusedSimpArgs false
namespace Go.Proofs.YtmofidaojmiepaaGreatDoor

open Go.RowKit

open Go.Lib (itoa decDigits nDigits)

attribute [local go_sem ↓] Go.wp_at_zero Go.wp_at_succ

/-- What rule leaves. -/
def RuP (br : Nat) (s : ByteArray) (k : Nat) (w : World) (e : Ending) (w' : World) : Prop :=
  (∃ (g : Int) (a : Option Addr) (c : Nat) (l : List Int) (k' : Nat), e = .returned (.tuple #[.agg #[.int .i64 g, .slice a l.length c], .bool true]) ∧ rest s k = numsT (g :: l) ++ 10 :: rest s k' ∧ (∀ x ∈ g :: l, N10 x) ∧ w'.ownsRow w.heap.size 3 1 (.slice a l.length c) l.length (ints l) ∧ Rd br s k' w' ∧ Chg (· = br) w w') ∨
  (∃ (g : Int) (k' : Nat), e = .returned (.tuple #[.agg #[.int .i64 g, .slice none 0 0], .bool false]) ∧ LineNo (rest s k) (rest s k') ∧ Rd br s k' w' ∧ Chg (· = br) w w')

theorem own_monoY {w : World} {b1 b2 : Nat} {e : TypeId} {size : Nat} {v : Value} {n : Nat} {xs : List Value} (h : w.ownsRow b1 e size v n xs) (hb : b2 ≤ b1) : w.ownsRow b2 e size v n xs := by
  refine ⟨h.1, ?_⟩
  rcases h.2 with h2 | ⟨g, cap, cur, a1, a2, a3⟩
  · exact Or.inl h2
  · exact Or.inr ⟨g, cap, cur, a1, by omega, a3⟩

theorem own_not {w : World} {B t sz n : Nat} {v : Value} {xs : List Value} (h : w.ownsRow B t sz v n xs) {j : Nat} (hj : j < B) : v.ownBlock ≠ some j := fun e => by have := own_base h e; omega

theorem put2 {br k : Nat} {s : ByteArray} {w W : World} (hr : Rd br s k W) (hc : Chg (· = br) w W) (zb : br < w.heap.size) (a b : Value) :
    Rd br s k ((W.setCell ⟨w.heap.size, 0, none⟩ a).setCell ⟨w.heap.size, 1, none⟩ b) ∧ Chg (· = br) w ((W.setCell ⟨w.heap.size, 0, none⟩ a).setCell ⟨w.heap.size, 1, none⟩ b) := by
  refine ⟨(hr.far (by omega) _ _).far (by omega) _ _, hc.trans (Y := fun j => w.heap.size ≤ j) ?_ (fun j hj hx => by omega)⟩
  exact ((Chg.of (X := fun j => w.heap.size ≤ j) (Below.refl _ _)).setCell _ _ (Nat.le_refl _)).setCell _ _ (Nat.le_refl _)

/-- The first number of a line, and the others. -/
theorem line_no {r r1 r2 r' : List UInt8} {n : Int} {l : List Int} (h : NumOk r n r1) (e : r1 = numsT l ++ r2) (hl : ∀ x ∈ l, N10 x) (hm : Mu l r2) (h10 : Not 10 r2) (hn : NumNo r2 r') : LineNo r r' := by
  refine ⟨n :: l, r2, ?_, ?_, ?_, fun _ => h10, hn⟩
  · rw [h.eq, e, numsT_cons]; simp
  · intro x hx
    rcases List.mem_cons.1 hx with rfl | hx
    · exact h.few
    · exact hl x hx
  · intro x l' he
    cases l with
    | nil =>
      have e1 : [n] = l' ++ [x] := he
      have := (List.append_inj' (show [] ++ [n] = l' ++ [x] from e1) rfl).2
      have : n = x := (List.cons.inj this).1
      subst this
      have e2 : r1 = r2 := e
      rw [← e2]
      exact h.munch
    | cons y t =>
      cases l' with
      | nil => exact absurd (congrArg List.length he) (by simp)
      | cons z t' => exact hm x t' (List.cons.inj he).2

set_option maxRecDepth 100000 in
set_option maxHeartbeats 2000000 in
theorem rule_any {br k : Nat} {s : ByteArray} {w : World} (h : Rd br s k w) :
    Calls Tryz.prog 63 #[.pointer (some ⟨br, 0, none⟩)] w fun e w' => RuP br s k w e w' := by
  have zb := h.row.lt
  have B0 : Below w.heap.size w (w.alloc (.cells #[.int .i64 0, .slice none 0 0] 51)) := (Below.refl _ _).alloc (Nat.le_refl _) _
  have RD0 := hid (h.keep B0)
  have CH0 : Hid (Chg (· = br) w (w.alloc (.cells #[.int .i64 0, .slice none 0 0] 51))) := Chg.of B0
  have RW0 : Hid ((w.alloc (.cells #[.int .i64 0, .slice none 0 0] 51)).rowIs w.heap.size 51 2 (fun j => if j = 0 then .int .i64 0 else .slice none 0 0)) := World.rowIs_alloc w #[.int .i64 0, .slice none 0 0] 51 _ (fun i hi => by
    have : i = 0 ∨ i = 1 := by simp at hi; omega
    rcases this with rfl | rfl <;> rfl)
  have NM := hid (number_any RD0.out)
  clear h B0
  go_enter Tryz.func63, Tryz.ntmps63
  go_wp2_with fail
  refine NM.out.mono ?_
  rintro e w1 (⟨n, k1, rfl, ok, rd, ch⟩ | ⟨n, k1, rfl, no, rd, ch⟩)
  · have RW1 := hid (RW0.out.of_block (ch.block _ RW0.out.lt (by omega)))
    have RD1 := hid rd
    have CH1 : Hid (Chg (· = br) w w1) := CH0.out.trans ch (fun _ _ x => x)
    have OK := hid ok
    have NS := hid (numbers_any rd)
    have zb1 := rd.row.lt
    clear ok rd ch NM RD0 CH0 RW0
    go_wp2_with fail
    refine NS.out.mono ?_
    rintro e w2 (⟨v, l, k2, rfl, hr, few, own, rd, ch⟩ | ⟨l, r1, k2, rfl, hr, few, mu, n10, no, rd, ch⟩)
    · obtain ⟨a, c, rfl⟩ := own_len own
      have zw1 := RW1.out.lt
      have row2 := RW1.out.of_block (ch.block _ zw1 (by omega))
      have z0 : w2.cell? ⟨w.heap.size, 0, none⟩ = some (.int .i64 0) := row2.cell (i := 0) (by omega)
      have z1 : w2.cell? ⟨w.heap.size, 1, none⟩ = some (.slice none 0 0) := row2.cell (i := 1) (by omega)
      have fz : ∀ j, w2.frozen? ⟨w.heap.size, j, none⟩ = false := fun j => row2.frozen j
      have zz := row2.lt
      have R : Hid (RuP br s k w (.returned (.tuple #[.agg #[.int .i64 n, .slice a l.length c], .bool true])) ((w2.setCell ⟨w.heap.size, 0, none⟩ (.int .i64 n)).setCell ⟨w.heap.size, 1, none⟩ (.slice a l.length c))) := by
        obtain ⟨p1, p2⟩ := put2 rd (CH1.out.trans ch (fun _ _ x => x)) zb (.int .i64 n) (.slice a l.length c)
        have nb := own_not own zw1
        refine Or.inl ⟨n, a, c, l, k2, rfl, ?_, ?_, own_monoY (ownsRow_setCell_other (ownsRow_setCell_other own nb _) nb _) (by omega), p1, p2⟩
        · rw [OK.out.eq, hr, numsT_cons]; simp
        · intro x hx
          rcases List.mem_cons.1 hx with rfl | hx
          · exact OK.out.few
          · exact few x hx
      clear row2 own few hr rd ch NS RW1 RD1 CH1 OK
      go_wp2
      exact bodyPost_ret (v := .tuple #[.agg #[.int .i64 n, .slice a l.length c], .bool true]) (by simp [results, Tryz.results63, go_sem, *]) rfl R.out
    · have zw1 := RW1.out.lt
      have row2 := RW1.out.of_block (ch.block _ zw1 (by omega))
      have z0 : w2.cell? ⟨w.heap.size, 0, none⟩ = some (.int .i64 0) := row2.cell (i := 0) (by omega)
      have z1 : w2.cell? ⟨w.heap.size, 1, none⟩ = some (.slice none 0 0) := row2.cell (i := 1) (by omega)
      have fz : ∀ j, w2.frozen? ⟨w.heap.size, j, none⟩ = false := fun j => row2.frozen j
      have zz := row2.lt
      have R : Hid (RuP br s k w (.returned (.tuple #[.agg #[.int .i64 n, .slice none 0 0], .bool false])) ((w2.setCell ⟨w.heap.size, 0, none⟩ (.int .i64 n)).setCell ⟨w.heap.size, 1, none⟩ (.slice none 0 0))) := by
        obtain ⟨p1, p2⟩ := put2 rd (CH1.out.trans ch (fun _ _ x => x)) zb (.int .i64 n) (.slice none 0 0)
        exact Or.inr ⟨n, k2, rfl, line_no OK.out hr few mu n10 no, p1, p2⟩
      clear row2 few hr mu n10 no rd ch NS RW1 RD1 CH1 OK
      go_wp2
      exact bodyPost_ret (v := .tuple #[.agg #[.int .i64 n, .slice none 0 0], .bool false]) (by simp [results, Tryz.results63, go_sem, *]) rfl R.out
  · have row2 := RW0.out.of_block (ch.block _ RW0.out.lt (by omega))
    have z0 : w1.cell? ⟨w.heap.size, 0, none⟩ = some (.int .i64 0) := row2.cell (i := 0) (by omega)
    have z1 : w1.cell? ⟨w.heap.size, 1, none⟩ = some (.slice none 0 0) := row2.cell (i := 1) (by omega)
    have fz : ∀ j, w1.frozen? ⟨w.heap.size, j, none⟩ = false := fun j => row2.frozen j
    have zz := row2.lt
    have R : Hid (RuP br s k w (.returned (.tuple #[.agg #[.int .i64 0, .slice none 0 0], .bool false])) ((w1.setCell ⟨w.heap.size, 0, none⟩ (.int .i64 0)).setCell ⟨w.heap.size, 1, none⟩ (.slice none 0 0))) := by
      obtain ⟨p1, p2⟩ := put2 rd (CH0.out.trans ch (fun _ _ x => x)) zb (.int .i64 0) (.slice none 0 0)
      exact Or.inr ⟨0, k1, rfl, ⟨[], rest s k, rfl, fun x hx => by simp at hx, mu_nil _, fun h => absurd rfl h, no⟩, p1, p2⟩
    clear row2 no rd ch NM RD0 CH0 RW0
    go_wp2
    exact bodyPost_ret (v := .tuple #[.agg #[.int .i64 0, .slice none 0 0], .bool false]) (by simp [results, Tryz.results63, go_sem, *]) rfl R.out

end Go.Proofs.YtmofidaojmiepaaGreatDoor
