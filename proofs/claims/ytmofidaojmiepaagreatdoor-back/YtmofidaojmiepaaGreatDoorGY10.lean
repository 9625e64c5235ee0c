/-
  THE WALKS: the code's reader of texts: a cell.
-/
import Derived.Test.YtmofidaojmiepaaGreatDoorGY8
set_option linter.unusedVariables false
set_option linter.unusedSimpArgs false
namespace Go.Proofs.YtmofidaojmiepaaGreatDoor

open Go.RowKit

open Go.Lib (itoa decDigits nDigits)

attribute [local go_sem ↓] Go.wp_at_zero Go.wp_at_succ

def kL (kd : Nat) (K : Int) : List Int := if hasKB kd = true then [K] else []

/-- What cell leaves. -/
def CeP (br : Nat) (s : ByteArray) (k : Nat) (w : World) (e : Ending) (w' : World) : Prop :=
  (∃ (kd : Nat) (ln : List Int) (K : Int) (k' : Nat), e = .returned (.tuple #[.agg #[.int .i64 kd, .int .i64 (ln.getD 0 0), .int .i64 (ln.getD 1 0), .int .i64 (ln.getD 2 0), .int .i64 K], .bool true]) ∧ kd ≤ 12 ∧ (ln.length : Int) = needsN kd ∧ (hasKB kd = false → K = 0) ∧ rest s k = 32 :: (itoa kd ++ (numsT (ln ++ kL kd K) ++ 10 :: rest s k')) ∧ (∀ x ∈ ln ++ kL kd K, N10 x) ∧ Rd br s k' w' ∧ Chg (· = br) w w') ∨
  (∃ k' : Nat, e = .returned (.tuple #[.agg #[.int .i64 0, .int .i64 0, .int .i64 0, .int .i64 0, .int .i64 0], .bool false]) ∧ CellNo (rest s k) (rest s k') ∧ Rd br s k' w' ∧ Chg (· = br) w w')

theorem put5 {br k : Nat} {s : ByteArray} {w W : World} (hr : Rd br s k W) (hc : Chg (· = br) w W) (zb : br < w.heap.size) (a b c d e : Value) :
    Rd br s k (((((W.setCell ⟨w.heap.size, 0, none⟩ a).setCell ⟨w.heap.size, 1, none⟩ b).setCell ⟨w.heap.size, 2, none⟩ c).setCell ⟨w.heap.size, 3, none⟩ d).setCell ⟨w.heap.size, 4, none⟩ e) ∧ Chg (· = br) w (((((W.setCell ⟨w.heap.size, 0, none⟩ a).setCell ⟨w.heap.size, 1, none⟩ b).setCell ⟨w.heap.size, 2, none⟩ c).setCell ⟨w.heap.size, 3, none⟩ d).setCell ⟨w.heap.size, 4, none⟩ e) := by
  refine ⟨((((hr.far (by omega) _ _).far (by omega) _ _).far (by omega) _ _).far (by omega) _ _).far (by omega) _ _, hc.trans (Y := fun j => w.heap.size ≤ j) ?_ (fun j hj hx => by omega)⟩
  exact (((((Chg.of (X := fun j => w.heap.size ≤ j) (Below.refl _ _)).setCell _ _ (Nat.le_refl _)).setCell _ _ (Nat.le_refl _)).setCell _ _ (Nat.le_refl _)).setCell _ _ (Nat.le_refl _)).setCell _ _ (Nat.le_refl _)

theorem muK_of {kd : Nat} {ln : List Int} {r0 r1 : List UInt8} (e : r0 = numsT ln ++ r1) (mu : Mu ln r1) (hk : kd = 1 → ∀ c t, r0 = c :: t → ¬ (48 ≤ c.toNat ∧ c.toNat ≤ 50)) : MuK kd ln r1 := by
  refine ⟨fun _ => mu, fun h h1 => ?_⟩
  subst h
  have e2 : r0 = r1 := e
  rw [← e2]
  exact hk (by omega)

theorem muK_snoc {kd : Nat} {ln : List Int} {r : List UInt8} {n : Int} (h : n ≠ 0 → nDigits n.natAbs < 10 → NoDg r) : MuK kd (ln ++ [n]) r := ⟨fun _ => Mu.snoc h, fun e => by simp at e⟩

theorem few_snoc {ln : List Int} {n : Int} (h : ∀ x ∈ ln, N10 x) (hn : N10 n) : ∀ x ∈ ln ++ [n], N10 x := fun x hx => by
  rcases List.mem_append.1 hx with h1 | h1
  · exact h x h1
  · rw [List.mem_singleton.1 h1]; exact hn

set_option maxRecDepth 100000 in
set_option maxHeartbeats 2000000 in
theorem cell_any {br k : Nat} {s : ByteArray} {w : World} (h : Rd br s k w) (ht : Tab w) (hb0 : 0 < br) :
    Calls Tryz.prog 62 #[.pointer (some ⟨br, 0, none⟩)] w fun e w' => CeP br s k w e w' := by
  have zb := h.row.lt
  have B0 : Below w.heap.size w (w.alloc (.cells #[.int .i64 0, .int .i64 0, .int .i64 0, .int .i64 0, .int .i64 0] 47)) := (Below.refl _ _).alloc (Nat.le_refl _) _
  have RD0 := hid (h.keep B0)
  have HT := hid ht
  have CH0 : Hid (Chg (· = br) w (w.alloc (.cells #[.int .i64 0, .int .i64 0, .int .i64 0, .int .i64 0, .int .i64 0] 47))) := Chg.of B0
  have RW0 : Hid ((w.alloc (.cells #[.int .i64 0, .int .i64 0, .int .i64 0, .int .i64 0, .int .i64 0] 47)).rowIs w.heap.size 47 5 (fun _ => .int .i64 0)) := World.rowIs_alloc w #[.int .i64 0, .int .i64 0, .int .i64 0, .int .i64 0, .int .i64 0] 47 _ (fun i hi => by
    have : i = 0 ∨ i = 1 ∨ i = 2 ∨ i = 3 ∨ i = 4 := by simp at hi; omega
    rcases this with rfl | rfl | rfl | rfl | rfl <;> rfl)
  have KK := hid (rkind_any RD0.out)
  clear h B0 ht
  go_enter Tryz.func62, Tryz.ntmps62
  go_wp2_with fail
  refine KK.out.mono ?_
  rintro e w1 (⟨kd, k1, rfl, kd12, hr1, mu1, rd, ch⟩ | ⟨k1, rfl, no, rd, ch⟩)
  · have RW1 := hid (RW0.out.of_block (ch.block _ RW0.out.lt (by omega)))
    have CH1 : Hid (Chg (· = br) w w1) := CH0.out.trans ch (fun _ _ x => x)
    have KD : Hid (kd ≤ 12 ∧ rest s k = 32 :: (itoa kd ++ rest s k1) ∧ (kd = 1 → ∀ c t, rest s k1 = c :: t → ¬ (48 ≤ c.toNat ∧ c.toNat ≤ 50))) := ⟨kd12, hr1, mu1⟩
    have ND := hid (pneeds_any kd w1 (HT.out.chg hb0 CH1.out))
    obtain ⟨cn, hcn⟩ := Int.eq_ofNat_of_zero_le (need0_bd kd).1
    have c3 : cn ≤ 3 := by have := (need0_bd kd).2; omega
    have WN : Hid ((cn : Int) = needsN kd) := by show (cn : Int) = _; rw [← need_want kd12]; exact hcn.symm
    rw [hcn] at ND
    have NE := hid (needs_any rd cn c3)
    clear kd12 hr1 mu1 rd ch hcn KK RD0 CH0 RW0
    go_wp2_with fail
    refine ND.out.mono ?_
    rintro e w' ⟨rfl, hw⟩
    rw [hw]
    clear hw w' ND
    go_wp2_with fail
    refine NE.out.mono ?_
    rintro e w2 (⟨ln, k2, rfl, len, hr2, few, mu, rd, ch⟩ | ⟨ln, r1, k2, rfl, len, hr2, few, mu, no, rd, ch⟩)
    · unfold arr3
      obtain ⟨x0, hx0⟩ : ∃ x, ln.getD 0 0 = x := ⟨_, rfl⟩
      obtain ⟨x1, hx1⟩ : ∃ x, ln.getD 1 0 = x := ⟨_, rfl⟩
      obtain ⟨x2, hx2⟩ : ∃ x, ln.getD 2 0 = x := ⟨_, rfl⟩
      rw [hx0, hx1, hx2]
      have HX := hid (And.intro hx0 (And.intro hx1 hx2))
      clear hx0 hx1 hx2
      have B3 : Hid (Below w2.heap.size w2 (w2.alloc (.cells #[.int .i64 x0, .int .i64 x1, .int .i64 x2] 121))) := (Below.refl _ _).alloc (Nat.le_refl _) _
      have RWB : Hid ((w2.alloc (.cells #[.int .i64 x0, .int .i64 x1, .int .i64 x2] 121)).rowIs w2.heap.size 121 3 (fun j => .int .i64 (if j = 0 then x0 else if j = 1 then x1 else x2))) := World.rowIs_alloc w2 #[.int .i64 x0, .int .i64 x1, .int .i64 x2] 121 _ (fun i hi => by
        have : i = 0 ∨ i = 1 ∨ i = 2 := by simp at hi; omega
        rcases this with rfl | rfl | rfl <;> rfl)
      have RW2 := RW1.out.of_block (ch.block _ RW1.out.lt (by omega))
      have RW3 := hid (RW2.of_block (B3.out.block _ RW2.lt))
      have zw2 := RW2.lt
      have RD3 := hid (rd.keep B3.out)
      have CH3 := hid ((CH1.out.trans ch (fun _ _ x => x)).low B3.out)
      have LN : Hid ((ln.length : Int) = needsN kd) := by show (ln.length : Int) = _; rw [len]; exact WN.out
      have NX : Hid (rest s k1 = numsT ln ++ rest s k2 ∧ (∀ x ∈ ln, N10 x) ∧ Mu ln (rest s k2)) := ⟨hr2, few, mu⟩
      have HKA := hid (fun W => hask_any kd W)
      clear len hr2 few mu rd ch NE RW1 CH1 RW2
      go_upto_region 6 with (fail)
      generalize w2.alloc (.cells #[.int .i64 x0, .int .i64 x1, .int .i64 x2] 121) = w3 at *
      generalize w2.heap.size = gb at *
      clear B3
      have gbr : gb ≠ br := by omega
      go_wp2_with fail
      refine (HKA.out _).mono ?_
      rintro e w' ⟨rfl, hw⟩
      rw [hw]
      clear hw w' HKA
      cases hk : hasKB kd
      · have HK := hid hk
        have WK : Hid (wantK kd = (ln.length : Int)) := by show wantK _ = _; unfold wantK; rw [HK.out, LN.out]; simp
        have KLe : Hid (∀ K, kL kd K = []) := fun K => by unfold kL; rw [HK.out]; simp
        have TK := hid (take_any RD3.out 10 10 (by decide))
        clear hk
        go_wp2_with fail
        refine TK.out.mono ?_
        rintro e w4 (⟨k4, rfl, rd, ch, hk4, hr4⟩ | ⟨rfl, rd, ch, hr4⟩)
        · clear hk4
          have row9 := RW3.out.of_block (ch.block _ RW3.out.lt (by omega))
          have z0 : w4.cell? ⟨w.heap.size, 0, none⟩ = some (.int .i64 0) := row9.cell (i := 0) (by omega)
          have z1 : w4.cell? ⟨w.heap.size, 1, none⟩ = some (.int .i64 0) := row9.cell (i := 1) (by omega)
          have z2 : w4.cell? ⟨w.heap.size, 2, none⟩ = some (.int .i64 0) := row9.cell (i := 2) (by omega)
          have z3 : w4.cell? ⟨w.heap.size, 3, none⟩ = some (.int .i64 0) := row9.cell (i := 3) (by omega)
          have z4 : w4.cell? ⟨w.heap.size, 4, none⟩ = some (.int .i64 0) := row9.cell (i := 4) (by omega)
          have fz : ∀ j, w4.frozen? ⟨w.heap.size, j, none⟩ = false := fun j => row9.frozen j
          have zz := row9.lt
          have b0 : w4.cell? ⟨gb, 0, none⟩ = some (.int .i64 x0) := (RWB.out.of_block (ch.block _ RWB.out.lt gbr)).cell (i := 0) (by omega)
          have b1 : w4.cell? ⟨gb, 1, none⟩ = some (.int .i64 x1) := (RWB.out.of_block (ch.block _ RWB.out.lt gbr)).cell (i := 1) (by omega)
          have b2 : w4.cell? ⟨gb, 2, none⟩ = some (.int .i64 x2) := (RWB.out.of_block (ch.block _ RWB.out.lt gbr)).cell (i := 2) (by omega)
          have bz := (RWB.out.of_block (ch.block _ RWB.out.lt gbr)).lt
          have R : Hid (CeP br s k w (.returned (.tuple #[.agg #[.int .i64 kd, .int .i64 x0, .int .i64 x1, .int .i64 x2, .int .i64 0], .bool true])) (((((w4.setCell ⟨w.heap.size, 0, none⟩ (.int .i64 kd)).setCell ⟨w.heap.size, 1, none⟩ (.int .i64 x0)).setCell ⟨w.heap.size, 2, none⟩ (.int .i64 x1)).setCell ⟨w.heap.size, 3, none⟩ (.int .i64 x2)).setCell ⟨w.heap.size, 4, none⟩ (.int .i64 0))) := by
            obtain ⟨p1, p2⟩ := put5 rd (CH3.out.trans ch (fun _ _ x => x)) zb (.int .i64 kd) (.int .i64 x0) (.int .i64 x1) (.int .i64 x2) (.int .i64 0)
            refine Or.inl ⟨kd, ln, 0, k4, by rw [HX.out.1, HX.out.2.1, HX.out.2.2], KD.out.1, LN.out, fun _ => rfl, ?_, ?_, p1, p2⟩
            · rw [KLe.out, List.append_nil, KD.out.2.1, NX.out.1, hr4]
            · rw [KLe.out, List.append_nil]; exact NX.out.2.1
          clear row9 rd ch hr4 TK RD3 CH3 RW3 RWB KD LN NX WK KLe HK
          go_wp2
          exact bodyPost_ret (v := .tuple #[.agg #[.int .i64 kd, .int .i64 x0, .int .i64 x1, .int .i64 x2, .int .i64 0], .bool true]) (by simp [results, Tryz.results62, go_sem, *]) rfl R.out
        · have row9 := RW3.out.of_block (ch.block _ RW3.out.lt (by omega))
          have z0 : w4.cell? ⟨w.heap.size, 0, none⟩ = some (.int .i64 0) := row9.cell (i := 0) (by omega)
          have z1 : w4.cell? ⟨w.heap.size, 1, none⟩ = some (.int .i64 0) := row9.cell (i := 1) (by omega)
          have z2 : w4.cell? ⟨w.heap.size, 2, none⟩ = some (.int .i64 0) := row9.cell (i := 2) (by omega)
          have z3 : w4.cell? ⟨w.heap.size, 3, none⟩ = some (.int .i64 0) := row9.cell (i := 3) (by omega)
          have z4 : w4.cell? ⟨w.heap.size, 4, none⟩ = some (.int .i64 0) := row9.cell (i := 4) (by omega)
          have fz : ∀ j, w4.frozen? ⟨w.heap.size, j, none⟩ = false := fun j => row9.frozen j
          have zz := row9.lt
          have R : Hid (CeP br s k w (.returned (.tuple #[.agg #[.int .i64 0, .int .i64 0, .int .i64 0, .int .i64 0, .int .i64 0], .bool false])) (((((w4.setCell ⟨w.heap.size, 0, none⟩ (.int .i64 0)).setCell ⟨w.heap.size, 1, none⟩ (.int .i64 0)).setCell ⟨w.heap.size, 2, none⟩ (.int .i64 0)).setCell ⟨w.heap.size, 3, none⟩ (.int .i64 0)).setCell ⟨w.heap.size, 4, none⟩ (.int .i64 0))) := by
            obtain ⟨p1, p2⟩ := put5 rd (CH3.out.trans ch (fun _ _ x => x)) zb (.int .i64 0) (.int .i64 0) (.int .i64 0) (.int .i64 0) (.int .i64 0)
            exact Or.inr ⟨k2, rfl, Or.inr ⟨kd, ln, rest s k2, by rw [KD.out.2.1, NX.out.1], by omega, by have := KD.out.1; omega, NX.out.2.1, muK_of NX.out.1 NX.out.2.2 KD.out.2.2, Or.inr ⟨WK.out.symm, hr4, rfl⟩⟩, p1, p2⟩
          clear row9 rd ch hr4 TK RD3 CH3 RW3 RWB KD LN NX WK KLe HK
          go_wp2
          exact bodyPost_ret (v := .tuple #[.agg #[.int .i64 0, .int .i64 0, .int .i64 0, .int .i64 0, .int .i64 0], .bool false]) (by simp [results, Tryz.results62, go_sem, *]) rfl R.out
      · have HK := hid hk
        have WK : Hid (wantK kd = (ln.length : Int) + 1) := by show wantK _ = _; unfold wantK; rw [HK.out, LN.out]; simp
        have KLe : Hid (∀ K, kL kd K = [K]) := fun K => by unfold kL; rw [HK.out]; simp
        have NM := hid (number_any RD3.out)
        clear hk
        go_wp2_with fail
        refine NM.out.mono ?_
        rintro e w4 (⟨n, k4, rfl, ok, rd, ch⟩ | ⟨n, k4, rfl, no, rd, ch⟩)
        · have RW4 := hid (RW3.out.of_block (ch.block _ RW3.out.lt (by omega)))
          have RWB4 := hid (RWB.out.of_block (ch.block _ RWB.out.lt gbr))
          have CH4 : Hid (Chg (· = br) w w4) := CH3.out.trans ch (fun _ _ x => x)
          have OK := hid ok
          have TK := hid (take_any rd 10 10 (by decide))
          clear ok rd ch NM RD3 CH3 RW3 RWB
          go_wp2_with fail
          refine TK.out.mono ?_
          rintro e w5 (⟨k5, rfl, rd, ch, hk5, hr5⟩ | ⟨rfl, rd, ch, hr5⟩)
          · clear hk5
            have row9 := RW4.out.of_block (ch.block _ RW4.out.lt (by omega))
            have z0 : w5.cell? ⟨w.heap.size, 0, none⟩ = some (.int .i64 0) := row9.cell (i := 0) (by omega)
            have z1 : w5.cell? ⟨w.heap.size, 1, none⟩ = some (.int .i64 0) := row9.cell (i := 1) (by omega)
            have z2 : w5.cell? ⟨w.heap.size, 2, none⟩ = some (.int .i64 0) := row9.cell (i := 2) (by omega)
            have z3 : w5.cell? ⟨w.heap.size, 3, none⟩ = some (.int .i64 0) := row9.cell (i := 3) (by omega)
            have z4 : w5.cell? ⟨w.heap.size, 4, none⟩ = some (.int .i64 0) := row9.cell (i := 4) (by omega)
            have fz : ∀ j, w5.frozen? ⟨w.heap.size, j, none⟩ = false := fun j => row9.frozen j
            have zz := row9.lt
            have b0 : w5.cell? ⟨gb, 0, none⟩ = some (.int .i64 x0) := (RWB4.out.of_block (ch.block _ RWB4.out.lt gbr)).cell (i := 0) (by omega)
            have b1 : w5.cell? ⟨gb, 1, none⟩ = some (.int .i64 x1) := (RWB4.out.of_block (ch.block _ RWB4.out.lt gbr)).cell (i := 1) (by omega)
            have b2 : w5.cell? ⟨gb, 2, none⟩ = some (.int .i64 x2) := (RWB4.out.of_block (ch.block _ RWB4.out.lt gbr)).cell (i := 2) (by omega)
            have bz := (RWB4.out.of_block (ch.block _ RWB4.out.lt gbr)).lt
            have R : Hid (CeP br s k w (.returned (.tuple #[.agg #[.int .i64 kd, .int .i64 x0, .int .i64 x1, .int .i64 x2, .int .i64 n], .bool true])) (((((w5.setCell ⟨w.heap.size, 0, none⟩ (.int .i64 kd)).setCell ⟨w.heap.size, 1, none⟩ (.int .i64 x0)).setCell ⟨w.heap.size, 2, none⟩ (.int .i64 x1)).setCell ⟨w.heap.size, 3, none⟩ (.int .i64 x2)).setCell ⟨w.heap.size, 4, none⟩ (.int .i64 n))) := by
              obtain ⟨p1, p2⟩ := put5 rd (CH4.out.trans ch (fun _ _ x => x)) zb (.int .i64 kd) (.int .i64 x0) (.int .i64 x1) (.int .i64 x2) (.int .i64 n)
              refine Or.inl ⟨kd, ln, n, k5, by rw [HX.out.1, HX.out.2.1, HX.out.2.2], KD.out.1, LN.out, (fun e => by rw [HK.out] at e; cases e), ?_, ?_, p1, p2⟩
              · rw [KLe.out, KD.out.2.1, NX.out.1, OK.out.eq, hr5, numsT_snoc]; simp
              · rw [KLe.out]; exact few_snoc NX.out.2.1 OK.out.few
            clear row9 rd ch hr5 TK CH4 RW4 RWB4 OK KD LN NX WK KLe HK
            go_wp2
            exact bodyPost_ret (v := .tuple #[.agg #[.int .i64 kd, .int .i64 x0, .int .i64 x1, .int .i64 x2, .int .i64 n], .bool true]) (by simp [results, Tryz.results62, go_sem, *]) rfl R.out
          · have row9 := RW4.out.of_block (ch.block _ RW4.out.lt (by omega))
            have z0 : w5.cell? ⟨w.heap.size, 0, none⟩ = some (.int .i64 0) := row9.cell (i := 0) (by omega)
            have z1 : w5.cell? ⟨w.heap.size, 1, none⟩ = some (.int .i64 0) := row9.cell (i := 1) (by omega)
            have z2 : w5.cell? ⟨w.heap.size, 2, none⟩ = some (.int .i64 0) := row9.cell (i := 2) (by omega)
            have z3 : w5.cell? ⟨w.heap.size, 3, none⟩ = some (.int .i64 0) := row9.cell (i := 3) (by omega)
            have z4 : w5.cell? ⟨w.heap.size, 4, none⟩ = some (.int .i64 0) := row9.cell (i := 4) (by omega)
            have fz : ∀ j, w5.frozen? ⟨w.heap.size, j, none⟩ = false := fun j => row9.frozen j
            have zz := row9.lt
            have R : Hid (CeP br s k w (.returned (.tuple #[.agg #[.int .i64 0, .int .i64 0, .int .i64 0, .int .i64 0, .int .i64 0], .bool false])) (((((w5.setCell ⟨w.heap.size, 0, none⟩ (.int .i64 0)).setCell ⟨w.heap.size, 1, none⟩ (.int .i64 0)).setCell ⟨w.heap.size, 2, none⟩ (.int .i64 0)).setCell ⟨w.heap.size, 3, none⟩ (.int .i64 0)).setCell ⟨w.heap.size, 4, none⟩ (.int .i64 0))) := by
              obtain ⟨p1, p2⟩ := put5 rd (CH4.out.trans ch (fun _ _ x => x)) zb (.int .i64 0) (.int .i64 0) (.int .i64 0) (.int .i64 0) (.int .i64 0)
              exact Or.inr ⟨k4, rfl, Or.inr ⟨kd, ln ++ [n], rest s k4, by rw [KD.out.2.1, NX.out.1, OK.out.eq, numsT_snoc]; simp, by omega, by have := KD.out.1; omega, few_snoc NX.out.2.1 OK.out.few, muK_snoc OK.out.munch, Or.inr ⟨by rw [WK.out]; simp, hr5, rfl⟩⟩, p1, p2⟩
            clear row9 rd ch hr5 TK CH4 RW4 RWB4 OK KD LN NX WK KLe HK
            go_wp2
            exact bodyPost_ret (v := .tuple #[.agg #[.int .i64 0, .int .i64 0, .int .i64 0, .int .i64 0, .int .i64 0], .bool false]) (by simp [results, Tryz.results62, go_sem, *]) rfl R.out
        · have row9 := RW3.out.of_block (ch.block _ RW3.out.lt (by omega))
          have z0 : w4.cell? ⟨w.heap.size, 0, none⟩ = some (.int .i64 0) := row9.cell (i := 0) (by omega)
          have z1 : w4.cell? ⟨w.heap.size, 1, none⟩ = some (.int .i64 0) := row9.cell (i := 1) (by omega)
          have z2 : w4.cell? ⟨w.heap.size, 2, none⟩ = some (.int .i64 0) := row9.cell (i := 2) (by omega)
          have z3 : w4.cell? ⟨w.heap.size, 3, none⟩ = some (.int .i64 0) := row9.cell (i := 3) (by omega)
          have z4 : w4.cell? ⟨w.heap.size, 4, none⟩ = some (.int .i64 0) := row9.cell (i := 4) (by omega)
          have fz : ∀ j, w4.frozen? ⟨w.heap.size, j, none⟩ = false := fun j => row9.frozen j
          have zz := row9.lt
          have R : Hid (CeP br s k w (.returned (.tuple #[.agg #[.int .i64 0, .int .i64 0, .int .i64 0, .int .i64 0, .int .i64 0], .bool false])) (((((w4.setCell ⟨w.heap.size, 0, none⟩ (.int .i64 0)).setCell ⟨w.heap.size, 1, none⟩ (.int .i64 0)).setCell ⟨w.heap.size, 2, none⟩ (.int .i64 0)).setCell ⟨w.heap.size, 3, none⟩ (.int .i64 0)).setCell ⟨w.heap.size, 4, none⟩ (.int .i64 0))) := by
            obtain ⟨p1, p2⟩ := put5 rd (CH3.out.trans ch (fun _ _ x => x)) zb (.int .i64 0) (.int .i64 0) (.int .i64 0) (.int .i64 0) (.int .i64 0)
            exact Or.inr ⟨k4, rfl, Or.inr ⟨kd, ln, rest s k2, by rw [KD.out.2.1, NX.out.1], by omega, by have := KD.out.1; omega, NX.out.2.1, muK_of NX.out.1 NX.out.2.2 KD.out.2.2, Or.inl ⟨by rw [WK.out]; omega, no⟩⟩, p1, p2⟩
          clear row9 rd ch no NM RD3 CH3 RW3 RWB KD LN NX WK KLe HK
          go_wp2
          exact bodyPost_ret (v := .tuple #[.agg #[.int .i64 0, .int .i64 0, .int .i64 0, .int .i64 0, .int .i64 0], .bool false]) (by simp [results, Tryz.results62, go_sem, *]) rfl R.out
    · unfold arr3
      obtain ⟨x0, hx0⟩ : ∃ x, ln.getD 0 0 = x := ⟨_, rfl⟩
      obtain ⟨x1, hx1⟩ : ∃ x, ln.getD 1 0 = x := ⟨_, rfl⟩
      obtain ⟨x2, hx2⟩ : ∃ x, ln.getD 2 0 = x := ⟨_, rfl⟩
      rw [hx0, hx1, hx2]
      have HX := hid (And.intro hx0 (And.intro hx1 hx2))
      clear hx0 hx1 hx2
      have B3 : Hid (Below w2.heap.size w2 (w2.alloc (.cells #[.int .i64 x0, .int .i64 x1, .int .i64 x2] 121))) := (Below.refl _ _).alloc (Nat.le_refl _) _
      have RW2 := RW1.out.of_block (ch.block _ RW1.out.lt (by omega))
      have RW3 := hid (RW2.of_block (B3.out.block _ RW2.lt))
      have RD3 := hid (rd.keep B3.out)
      have CH3 := hid ((CH1.out.trans ch (fun _ _ x => x)).low B3.out)
      go_upto_region 6 with (fail)
      generalize w2.alloc (.cells #[.int .i64 x0, .int .i64 x1, .int .i64 x2] 121) = w3 at *
      clear B3 RW2
      have row9 := RW3.out
      have z0 : w3.cell? ⟨w.heap.size, 0, none⟩ = some (.int .i64 0) := row9.cell (i := 0) (by omega)
      have z1 : w3.cell? ⟨w.heap.size, 1, none⟩ = some (.int .i64 0) := row9.cell (i := 1) (by omega)
      have z2 : w3.cell? ⟨w.heap.size, 2, none⟩ = some (.int .i64 0) := row9.cell (i := 2) (by omega)
      have z3 : w3.cell? ⟨w.heap.size, 3, none⟩ = some (.int .i64 0) := row9.cell (i := 3) (by omega)
      have z4 : w3.cell? ⟨w.heap.size, 4, none⟩ = some (.int .i64 0) := row9.cell (i := 4) (by omega)
      have fz : ∀ j, w3.frozen? ⟨w.heap.size, j, none⟩ = false := fun j => row9.frozen j
      have zz := row9.lt
      have R : Hid (CeP br s k w (.returned (.tuple #[.agg #[.int .i64 0, .int .i64 0, .int .i64 0, .int .i64 0, .int .i64 0], .bool false])) (((((w3.setCell ⟨w.heap.size, 0, none⟩ (.int .i64 0)).setCell ⟨w.heap.size, 1, none⟩ (.int .i64 0)).setCell ⟨w.heap.size, 2, none⟩ (.int .i64 0)).setCell ⟨w.heap.size, 3, none⟩ (.int .i64 0)).setCell ⟨w.heap.size, 4, none⟩ (.int .i64 0))) := by
        obtain ⟨p1, p2⟩ := put5 RD3.out CH3.out zb (.int .i64 0) (.int .i64 0) (.int .i64 0) (.int .i64 0) (.int .i64 0)
        exact Or.inr ⟨k2, rfl, Or.inr ⟨kd, ln, r1, by rw [KD.out.2.1, hr2], by omega, by have := KD.out.1; omega, few, muK_of hr2 mu KD.out.2.2, Or.inl ⟨by have := WN.out; unfold wantK; split <;> omega, no⟩⟩, p1, p2⟩
      clear row9 len hr2 few mu no rd ch NE RW1 CH1 RW3 RD3 CH3 KD WN
      go_wp2
      exact bodyPost_ret (v := .tuple #[.agg #[.int .i64 0, .int .i64 0, .int .i64 0, .int .i64 0, .int .i64 0], .bool false]) (by simp [results, Tryz.results62, go_sem, *]) rfl R.out
  · have row9 := RW0.out.of_block (ch.block _ RW0.out.lt (by omega))
    have z0 : w1.cell? ⟨w.heap.size, 0, none⟩ = some (.int .i64 0) := row9.cell (i := 0) (by omega)
    have z1 : w1.cell? ⟨w.heap.size, 1, none⟩ = some (.int .i64 0) := row9.cell (i := 1) (by omega)
    have z2 : w1.cell? ⟨w.heap.size, 2, none⟩ = some (.int .i64 0) := row9.cell (i := 2) (by omega)
    have z3 : w1.cell? ⟨w.heap.size, 3, none⟩ = some (.int .i64 0) := row9.cell (i := 3) (by omega)
    have z4 : w1.cell? ⟨w.heap.size, 4, none⟩ = some (.int .i64 0) := row9.cell (i := 4) (by omega)
    have fz : ∀ j, w1.frozen? ⟨w.heap.size, j, none⟩ = false := fun j => row9.frozen j
    have zz := row9.lt
    have R : Hid (CeP br s k w (.returned (.tuple #[.agg #[.int .i64 0, .int .i64 0, .int .i64 0, .int .i64 0, .int .i64 0], .bool false])) (((((w1.setCell ⟨w.heap.size, 0, none⟩ (.int .i64 0)).setCell ⟨w.heap.size, 1, none⟩ (.int .i64 0)).setCell ⟨w.heap.size, 2, none⟩ (.int .i64 0)).setCell ⟨w.heap.size, 3, none⟩ (.int .i64 0)).setCell ⟨w.heap.size, 4, none⟩ (.int .i64 0))) := by
      obtain ⟨p1, p2⟩ := put5 rd (CH0.out.trans ch (fun _ _ x => x)) zb (.int .i64 0) (.int .i64 0) (.int .i64 0) (.int .i64 0) (.int .i64 0)
      exact Or.inr ⟨k1, rfl, Or.inl no, p1, p2⟩
    clear row9 no rd ch KK RD0 CH0 RW0
    go_wp2
    exact bodyPost_ret (v := .tuple #[.agg #[.int .i64 0, .int .i64 0, .int .i64 0, .int .i64 0, .int .i64 0], .bool false]) (by simp [results, Tryz.results62, go_sem, *]) rfl R.out

end Go.Proofs.YtmofidaojmiepaaGreatDoor
