/-
  THE WALKS: the code's reader of texts: bytes.
-/
import Derived.Test.YtmofidaojmiepaaGreatDoorGX1
import Derived.Test.YtmofidaojmiepaaGreatDoorGH3
import Derived.BigQuiet
import Derived.Test.YtmofidaojmiepaaGreatDoorGE1
import Derived.Test.YtmofidaojmiepaaGreatDoorGD10
import Derived.Deep.AppendLies
import Derived.OwnWalk
set_option linter.unusedVariables false
set_option linter.unusedSimpArgs false
namespace Go.Proofs.YtmofidaojmiepaaGreatDoor

open Go.RowKit

attribute [local go_sem ↓] Go.wp_at_zero Go.wp_at_succ

def rdf (s : ByteArray) (k : Nat) (j : Nat) : Value := if j = 0 then .string s else .int .i64 k

/-- A reader. -/
structure Rd (br : Nat) (s : ByteArray) (k : Nat) (w : World) : Prop where
  row : w.rowIs br 87 2 (rdf s k)
  le : k ≤ s.size
  big : s.size ≤ 1000000000000

/-- What is still to be read. -/
def rest (s : ByteArray) (k : Nat) : List UInt8 := s.data.toList.drop k

theorem rest_nil {s : ByteArray} {k : Nat} (h : s.size ≤ k) : rest s k = [] := List.drop_eq_nil_of_le (by simpa using h)

theorem rest_cons {s : ByteArray} {k : Nat} (h : k < s.size) : rest s k = s[k] :: rest s (k + 1) := by
  unfold rest
  rw [List.drop_eq_getElem_cons (by simpa using h)]
  rfl

theorem Rd.keep {br k : Nat} {s : ByteArray} {w w' : World} (h : Rd br s k w) (hb : Below w.heap.size w w') : Rd br s k w' := ⟨h.row.of_block (hb.block _ h.row.lt), h.le, h.big⟩

theorem Rd.step {br k : Nat} {s : ByteArray} {w : World} (h : Rd br s k w) (hk : k < s.size) : Rd br s (k + 1) (w.setCell ⟨br, 1, none⟩ (.int .i64 (k + 1))) :=
  ⟨(h.row.set 1 _).congr (fun j hj => by
    have : j = 0 ∨ j = 1 := by omega
    rcases this with rfl | rfl
    · rfl
    · show Value.int .i64 ((k : Int) + 1) = .int .i64 ((k + 1 : Nat) : Int); rw [Int.natCast_succ]), by omega, h.big⟩

/-- What take leaves. -/
def TkP (br : Nat) (s : ByteArray) (k : Nat) (b : UInt8) (w : World) (e : Ending) (w' : World) : Prop :=
  (∃ k', e = .returned (.bool true) ∧ Rd br s k' w' ∧ Chg (· = br) w w' ∧ k' = k + 1 ∧ rest s k = b :: rest s k') ∨ (e = .returned (.bool false) ∧ Rd br s k w' ∧ Chg (· = br) w w' ∧ Not b (rest s k))

set_option maxRecDepth 100000 in
set_option maxHeartbeats 1000000 in
theorem take_any {br k : Nat} {s : ByteArray} {w : World} (h : Rd br s k w) (b : UInt8) (c : Int) (hc : (b.toNat : Int) = c) :
    Calls Tryz.prog 61 #[.pointer (some ⟨br, 0, none⟩), .int .u8 c] w fun e w' => TkP br s k b w e w' := by
  have r0 : w.cell? ⟨br, 0, none⟩ = some (.string s) := h.row.cell (i := 0) (by omega)
  have r1 : w.cell? ⟨br, 1, none⟩ = some (.int .i64 k) := h.row.cell (i := 1) (by omega)
  have zb := h.row.lt
  have le := h.le
  have big := h.big
  have H := hid h
  have HC := hid hc
  clear h hc
  by_cases hk : k < s.size
  · have d1 : decide (s.size ≤ k) = false := decide_eq_false (by omega)
    by_cases hb : s[k] = b
    · have e2 : ((s[k].toNat : Int) != c) = false := by rw [hb, HC.out]; simp
      have R : Hid (∀ nq, TkP br s k b w (.returned (.bool true)) ((w.drewN nq).setCell ⟨br, 1, none⟩ (.int .i64 (k + 1)))) := fun nq =>
        Or.inl ⟨k + 1, rfl, (H.out.keep (below_drewN (Below.refl _ _) nq)).step hk, ((Chg.of (X := (· = br)) (Below.refl _ _)).drewN nq).setCell _ _ rfl, rfl, by rw [rest_cons hk, hb]⟩
      have fz : w.frozen? ⟨br, 1, none⟩ = false := H.out.row.frozen 1
      clear hb
      go_enter Tryz.func61, Tryz.ntmps61
      go_wp2_with fail
      go_quiet (fail)
      go_wp2
      go_ret
      exact R.out _
    · have e2 : ((s[k].toNat : Int) != c) = true := bne_iff_ne.2 (fun e => hb (UInt8.toNat_inj.1 (by have := HC.out; omega)))
      have R : Hid (∀ nq, TkP br s k b w (.returned (.bool false)) (w.drewN nq)) := fun nq =>
        Or.inr ⟨rfl, H.out.keep (below_drewN (Below.refl _ _) nq), (Chg.of (X := (· = br)) (Below.refl _ _)).drewN nq, fun t e => hb (by rw [rest_cons hk] at e; exact (List.cons.inj e).1)⟩
      clear hb
      go_enter Tryz.func61, Tryz.ntmps61
      go_wp2_with fail
      go_quiet (fail)
      go_wp2
      go_ret
      exact R.out _
  · have d1 : decide (s.size ≤ k) = true := decide_eq_true (by omega)
    have R : Hid (∀ nq, TkP br s k b w (.returned (.bool false)) (w.drewN nq)) := fun nq =>
      Or.inr ⟨rfl, H.out.keep (below_drewN (Below.refl _ _) nq), (Chg.of (X := (· = br)) (Below.refl _ _)).drewN nq, fun t e => by rw [rest_nil (by omega)] at e; cases e⟩
    go_enter Tryz.func61, Tryz.ntmps61
    go_wp2_with fail
    go_quiet (fail)
    go_wp2
    go_ret
    exact R.out _

end Go.Proofs.YtmofidaojmiepaaGreatDoor

/-
  THE WALKS: the code's reader of texts: digits and numbers.
-/
set_option linter.unusedVariables false
set_option linter.unusedSimpArgs false
namespace Go.Proofs.YtmofidaojmiepaaGreatDoor

open Go.RowKit

open Go.Lib (itoa decDigits nDigits)

attribute [local go_sem ↓] Go.wp_at_zero Go.wp_at_succ

/-- What digit leaves. -/
def DgP (s : ByteArray) (k : Nat) (w : World) (e : Ending) (w' : World) : Prop :=
  (∃ d : Nat, e = .returned (.tuple #[.int .i64 d, .bool true]) ∧ d < 10 ∧ k < s.size ∧ rest s k = UInt8.ofNat (48 + d) :: rest s (k + 1) ∧ Below w.heap.size w w') ∨ (e = .returned (.tuple #[.int .i64 0, .bool false]) ∧ NoDg (rest s k) ∧ Below w.heap.size w w')

set_option maxRecDepth 100000 in
set_option maxHeartbeats 1000000 in
theorem digit_any {br k : Nat} {s : ByteArray} {w : World} (h : Rd br s k w) :
    Calls Tryz.prog 79 #[.pointer (some ⟨br, 0, none⟩)] w fun e w' => DgP s k w e w' := by
  have r0 : w.cell? ⟨br, 0, none⟩ = some (.string s) := h.row.cell (i := 0) (by omega)
  have r1 : w.cell? ⟨br, 1, none⟩ = some (.int .i64 k) := h.row.cell (i := 1) (by omega)
  have zb := h.row.lt
  have le := h.le
  have big := h.big
  clear h
  by_cases hk : k < s.size
  · have d1 : decide (s.size ≤ k) = false := decide_eq_false (by omega)
    by_cases hd : Dg s[k]
    · obtain ⟨d, d10, hd1, hd2⟩ := of_dg hd
      have R : Hid (∀ n1, DgP s k w (.returned (.tuple #[.int .i64 d, .bool true])) (w.drewN n1)) := fun n1 =>
        Or.inl ⟨d, rfl, d10, hk, by rw [rest_cons hk, hd1], below_drewN (Below.refl _ _) n1⟩
      have HD2 : (s[k].toNat : Int) = 48 + (d : Int) := by omega
      clear hd hd1 hd2
      go_enter Tryz.func79, Tryz.ntmps79
      go_wp2_with fail
      go_quiet (fail)
      go_wp2_with fail
      go_quiet (fail)
      go_wp2
      go_ret2
      rw [show (48 + (d : Int) - 48) = d by omega]
      exact R.out _
    · have R : Hid (∀ n1, DgP s k w (.returned (.tuple #[.int .i64 0, .bool false])) (w.drewN n1)) := fun n1 =>
        Or.inr ⟨rfl, fun c t e hc => hd (by rw [rest_cons hk] at e; rw [(List.cons.inj e).1]; exact hc), below_drewN (Below.refl _ _) n1⟩
      have HV : (s[k].toNat : Int) < 48 ∨ 57 < (s[k].toNat : Int) := by unfold Dg at hd; omega
      have HV0 : 0 ≤ (s[k].toNat : Int) := by omega
      have HV1 : (s[k].toNat : Int) < 256 := by have := UInt8.toNat_lt s[k]; omega
      clear hd
      rcases HV with hv | hv
      · go_enter Tryz.func79, Tryz.ntmps79
        go_wp2_with fail
        go_quiet (fail)
        go_wp2_with fail
        go_quiet (fail)
        go_wp2
        go_ret2
        exact R.out _
      · have hv2 : ¬ (s[k].toNat : Int) < 48 := by omega
        go_enter Tryz.func79, Tryz.ntmps79
        go_wp2_with fail
        go_quiet (fail)
        go_wp2_with fail
        go_quiet (fail)
        go_wp2
        go_ret2
        exact R.out _
  · have d1 : decide (s.size ≤ k) = true := decide_eq_true (by omega)
    have R : Hid (∀ n1, DgP s k w (.returned (.tuple #[.int .i64 0, .bool false])) (w.drewN n1)) := fun n1 =>
      Or.inr ⟨rfl, (fun c t e => by rw [rest_nil (by omega)] at e; cases e), below_drewN (Below.refl _ _) n1⟩
    go_enter Tryz.func79, Tryz.ntmps79
    go_wp2_with fail
    go_quiet (fail)
    go_wp2
    go_ret2
    exact R.out _

/-- What digits leaves. -/
def DsP (br : Nat) (s : ByteArray) (k : Nat) (w : World) (e : Ending) (w' : World) : Prop :=
  (∃ n k' : Nat, e = .returned (.tuple #[.int .i64 n, .bool true]) ∧ 0 < n ∧ nDigits n ≤ 10 ∧ rest s k = decDigits n ++ rest s k' ∧ (nDigits n < 10 → NoDg (rest s k')) ∧ Rd br s k' w' ∧ Chg (· = br) w w') ∨ (e = .returned (.tuple #[.int .i64 0, .bool false]) ∧ (∀ c t, rest s k = c :: t → ¬ (49 ≤ c.toNat ∧ c.toNat ≤ 57)) ∧ Rd br s k w' ∧ Chg (· = br) w w')

/-- What stands next. -/
def Nxt (s : ByteArray) (k : Nat) (dv : Int) (more : Bool) : Prop :=
  (∃ d : Nat, dv = d ∧ more = true ∧ d < 10 ∧ k < s.size ∧ rest s k = UInt8.ofNat (48 + d) :: rest s (k + 1)) ∨ (dv = 0 ∧ more = false ∧ NoDg (rest s k))

/-- So far. -/
def SoFar (s : ByteArray) (k : Nat) (c n k' : Nat) : Prop := (c = 0 ∧ n = 0 ∧ k' = k) ∨ (0 < c ∧ 0 < n ∧ nDigits n = c ∧ rest s k = decDigits n ++ rest s k')

theorem SoFar.next {s : ByteArray} {k c n k' d : Nat} (h : SoFar s k c n k') (hd : d < 10) (h0 : c = 0 → 0 < d) (hr : rest s k' = UInt8.ofNat (48 + d) :: rest s (k' + 1)) : SoFar s k (c + 1) (10 * n + d) (k' + 1) := by
  rcases h with ⟨rfl, rfl, rfl⟩ | ⟨h1, h2, h3, h4⟩
  · have := h0 rfl
    refine Or.inr ⟨by omega, by omega, ?_, ?_⟩
    · rw [show 10 * 0 + d = d by omega, nDigits, dif_pos hd]
    · rw [show 10 * 0 + d = d by omega, dec_one hd]
      exact hr
  · refine Or.inr ⟨by omega, by omega, by rw [nd_more h2 hd, h3], ?_⟩
    rw [dec_more h2 hd, h4, hr]
    simp

set_option maxRecDepth 100000 in
set_option maxHeartbeats 2000000 in
theorem digits_any {br k : Nat} {s : ByteArray} {w : World} (h : Rd br s k w) :
    Calls Tryz.prog 78 #[.pointer (some ⟨br, 0, none⟩)] w fun e w' => DsP br s k w e w' := by
  have H := hid h
  have DG := hid (digit_any h)
  clear h
  go_enter Tryz.func78, Tryz.ntmps78
  go_wp2_with fail
  refine DG.out.mono ?_
  rintro e w1 (⟨d, rfl, d10, hk, hr, hb⟩ | ⟨rfl, hn, hb⟩)
  · have H1 := hid (H.out.keep hb)
    have C1 : Hid (Chg (· = br) w w1) := Chg.of hb
    clear hb DG H
    by_cases hd0 : d = 0
    · have R : Hid (DsP br s k w (.returned (.tuple #[.int .i64 0, .bool false])) w1) := Or.inr ⟨rfl, fun c t e hc => by
        rw [hr, hd0] at e
        have := (List.cons.inj e).1
        subst this
        revert hc
        decide, H1.out, C1.out⟩
      subst hd0
      clear hr
      go_wp2
      go_ret2
      exact R.out
    · have ne : ((d : Int) == 0) = false := beq_eq_false_iff_ne.2 (by omega)
      have NX : Hid (Nxt s k d true) := Or.inl ⟨d, rfl, rfl, d10, hk, hr⟩
      have SF : Hid (SoFar s k 0 0 k) := Or.inl ⟨rfl, rfl, rfl⟩
      have HD0 : Hid (0 < (d : Int) ∧ (d : Int) < 10) := ⟨by omega, by omega⟩
      clear hr hk hd0
      go_wp2_with fail
      go_loopw [4, 5, 6, 7] (fun td tm tn tc wr => ∃ (c n k' : Nat) (dv : Int) (more : Bool), c ≤ 10 ∧ n < 10000000000 ∧ td = .int .i64 dv ∧ tm = .bool more ∧ tn = .int .i64 n ∧ tc = .int .i64 c ∧ Hid ((c = 0 → 0 < dv) ∧ dv < 10) ∧ Hid (Nxt s k' dv more) ∧ Hid (SoFar s k c n k') ∧ Hid (Rd br s k' wr) ∧ Hid (Chg (· = br) w wr)) (fun _ _ _ tc _ => 10 - (intOf tc).toNat)
      case atStart => exact ⟨0, 0, k, d, true, by omega, by omega, rfl, rfl, rfl, rfl, ⟨fun _ => HD0.out.1, HD0.out.2⟩, NX, SF, H1, C1⟩
      case round =>
        clear NX SF HD0 H1 C1
        obtain ⟨c, n, k', dv, more, c10, n10, rfl, rfl, rfl, rfl, hd, nx, sf, rd, ch⟩ := hrel
        cases more
        · have R : Hid (DsP br s k w (.returned (.tuple #[.int .i64 n, .bool true])) wr) := by
            rcases nx.out with ⟨_, _, e, _⟩ | ⟨e0, _, hno⟩
            · cases e
            · rcases sf.out with ⟨e, _⟩ | ⟨h1, h2, h3, h4⟩
              · have := hd.out.1 e; omega
              · exact Or.inl ⟨n, k', rfl, h2, by omega, h4, fun _ => hno, rd.out, ch.out⟩
          go_wp2
          go_ret2
          exact R.out
        · by_cases hc : c < 10
          · have lt' : (c : Int) < 10 := by omega
            obtain ⟨d, hdv, d10', kz, hr⟩ : ∃ d : Nat, dv = d ∧ d < 10 ∧ k' < s.size ∧ rest s k' = UInt8.ofNat (48 + d) :: rest s (k' + 1) := by
              rcases nx.out with ⟨d, h1, _, h2, h3, h4⟩ | ⟨_, e, _⟩
              · exact ⟨d, h1, h2, h3, h4⟩
              · cases e
            have SF2 : Hid (SoFar s k (c + 1) (10 * n + d) (k' + 1)) := sf.out.next d10' (fun e => by have := hd.out.1 e; omega) hr
            have n2 : 10 * n + d < 10000000000 := by
              rcases SF2.out with ⟨e, _⟩ | ⟨_, h2, h3, _⟩
              · omega
              · exact (nd_ten h2).1 (by omega)
            subst hdv
            have r1 : wr.cell? ⟨br, 1, none⟩ = some (.int .i64 k') := rd.out.row.cell (i := 1) (by omega)
            have zb := rd.out.row.lt
            have fz := rd.out.row.frozen 1
            have big := rd.out.big
            have RD2 := hid (rd.out.step kz)
            have CH2 : Hid (Chg (· = br) w (wr.setCell ⟨br, 1, none⟩ (.int .i64 (k' + 1)))) := ch.out.setCell _ _ rfl
            have DG := hid (digit_any RD2.out)
            clear hr nx sf rd ch hd
            go_wp2_with fail
            refine DG.out.mono ?_
            rintro e w2 hdg
            have NX2 : Hid (∃ dv more, e = .returned (.tuple #[.int .i64 dv, .bool more]) ∧ Nxt s (k' + 1) dv more ∧ dv < 10 ∧ Below (wr.setCell ⟨br, 1, none⟩ (.int .i64 (k' + 1))).heap.size (wr.setCell ⟨br, 1, none⟩ (.int .i64 (k' + 1))) w2) := by
              rcases hdg with ⟨d', h1, h2, h3, h4, h5⟩ | ⟨h1, h2, h3⟩
              · exact ⟨d', true, h1, Or.inl ⟨d', rfl, rfl, h2, h3, h4⟩, by omega, h5⟩
              · exact ⟨0, false, h1, Or.inr ⟨rfl, rfl, h2⟩, by omega, h3⟩
            clear hdg
            obtain ⟨dv2, more2, rfl, nx2, dl, hb2⟩ := NX2.out
            clear NX2
            have NX2 := hid nx2
            have RD3 := hid (RD2.out.keep hb2)
            have CH3 := hid (CH2.out.low hb2)
            clear nx2 hb2 RD2 CH2 DG r1 fz
            go_wp2
            go_roundw
            case rel => exact ⟨c + 1, 10 * n + d, k' + 1, dv2, more2, by omega, n2, rfl, rfl, by go_num, by go_num, ⟨fun e => by omega, dl⟩, NX2, SF2, RD3, CH3⟩
            case measure => simp [intOf]; omega
          · obtain rfl : c = 10 := by omega
            have R : Hid (DsP br s k w (.returned (.tuple #[.int .i64 n, .bool true])) wr) := by
              rcases sf.out with ⟨e, _⟩ | ⟨h1, h2, h3, h4⟩
              · omega
              · exact Or.inl ⟨n, k', rfl, h2, by omega, h4, fun h => by omega, rd.out, ch.out⟩
            go_wp2
            go_ret2
            exact R.out
  · have R : Hid (DsP br s k w (.returned (.tuple #[.int .i64 0, .bool false])) w1) := Or.inr ⟨rfl, fun c t e hc => hn c t e ⟨by omega, by omega⟩, H.out.keep hb, Chg.of hb⟩
    clear hb hn DG H
    go_wp2
    go_ret2
    exact R.out

end Go.Proofs.YtmofidaojmiepaaGreatDoor

/-
  THE WALKS: the code's reader of texts: numbers.
-/
set_option linter.unusedVariables false
set_option linter.unusedSimpArgs false
namespace Go.Proofs.YtmofidaojmiepaaGreatDoor

open Go.RowKit

open Go.Lib (itoa decDigits nDigits)

attribute [local go_sem ↓] Go.wp_at_zero Go.wp_at_succ

/-- What number leaves. -/
def NmP (br : Nat) (s : ByteArray) (k : Nat) (w : World) (e : Ending) (w' : World) : Prop :=
  (∃ (n : Int) (k' : Nat), e = .returned (.tuple #[.int .i64 n, .bool true]) ∧ NumOk (rest s k) n (rest s k') ∧ Rd br s k' w' ∧ Chg (· = br) w w') ∨ (∃ (n : Int) (k' : Nat), e = .returned (.tuple #[.int .i64 n, .bool false]) ∧ NumNo (rest s k) (rest s k') ∧ Rd br s k' w' ∧ Chg (· = br) w w')

set_option maxRecDepth 100000 in
set_option maxHeartbeats 2000000 in
theorem number_any {br k : Nat} {s : ByteArray} {w : World} (h : Rd br s k w) :
    Calls Tryz.prog 70 #[.pointer (some ⟨br, 0, none⟩)] w fun e w' => NmP br s k w e w' := by
  have H := hid h
  have TK := hid (take_any h 32 32 (by decide))
  clear h
  go_enter Tryz.func70, Tryz.ntmps70
  go_wp2_with fail
  refine TK.out.mono ?_
  rintro e w1 (⟨k1, rfl, rd, ch, _, hr⟩ | ⟨rfl, rd, ch, hr⟩)
  · have RD := hid rd
    have CH := hid ch
    have HR := hid hr
    have TK2 := hid (take_any rd 48 48 (by decide))
    clear rd ch hr TK H
    go_wp2_with fail
    refine TK2.out.mono ?_
    rintro e w2 (⟨k2, rfl, rd, ch, _, hr⟩ | ⟨rfl, rd, ch, hr⟩)
    · have R : Hid (NmP br s k w (.returned (.tuple #[.int .i64 0, .bool true])) w2) := by
        refine Or.inl ⟨0, k2, rfl, ⟨?_, ?_, fun h => absurd rfl h⟩, rd, CH.out.trans ch (fun _ _ x => x)⟩
        · rw [HR.out, hr, itoa_zero]; rfl
        · unfold N10; decide
      clear rd ch hr TK2 RD CH HR
      go_wp2
      go_ret2
      exact R.out
    · have RD2 := hid rd
      have CH2 : Hid (Chg (· = br) w w2) := CH.out.trans ch (fun _ _ x => x)
      have HR0 := hid hr
      have TK3 := hid (take_any rd 45 45 (by decide))
      clear rd ch hr TK2 RD CH
      go_wp2_with fail
      refine TK3.out.mono ?_
      rintro e w3 (⟨k3, rfl, rd, ch, _, hr⟩ | ⟨rfl, rd, ch, hr⟩)
      · have RD3 := hid rd
        have CH3 : Hid (Chg (· = br) w w3) := CH2.out.trans ch (fun _ _ x => x)
        have HR3 := hid hr
        have DS := hid (digits_any rd)
        clear rd ch hr TK3 RD2 CH2
        go_wp2_with fail
        refine DS.out.mono ?_
        rintro e w4 (⟨n, k4, rfl, n0, n10, hr, mu, rd, ch⟩ | ⟨rfl, hr, rd, ch⟩)
        · have nb := (nd_ten n0).1 n10
          have R : Hid (NmP br s k w (.returned (.tuple #[.int .i64 (-(n : Int)), .bool true])) w4) := by
            refine Or.inl ⟨-(n : Int), k4, rfl, ⟨?_, ?_, fun _ h => mu (by rwa [Int.natAbs_neg, Int.natAbs_natCast] at h)⟩, rd, CH3.out.trans ch (fun _ _ x => x)⟩
            · rw [HR.out, HR3.out, hr, itoa_neg n0]; rfl
            · unfold N10; rw [Int.natAbs_neg, Int.natAbs_natCast]; exact nb
          clear hr mu rd ch DS RD3 CH3 HR3 HR HR0
          go_wp2
          go_ret2
          exact R.out
        · have R : Hid (NmP br s k w (.returned (.tuple #[.int .i64 0, .bool false])) w4) :=
            Or.inr ⟨0, k3, rfl, Or.inr (Or.inr ⟨by rw [HR.out, HR3.out], hr⟩), rd, CH3.out.trans ch (fun _ _ x => x)⟩
          clear hr rd ch DS RD3 CH3 HR3 HR HR0
          go_wp2
          go_ret2
          exact R.out
      · have RD3 := hid rd
        have CH3 : Hid (Chg (· = br) w w3) := CH2.out.trans ch (fun _ _ x => x)
        have HR3 := hid hr
        have DS := hid (digits_any rd)
        clear rd ch hr TK3 RD2 CH2
        go_wp2_with fail
        refine DS.out.mono ?_
        rintro e w4 (⟨n, k4, rfl, n0, n10, hr, mu, rd, ch⟩ | ⟨rfl, hr, rd, ch⟩)
        · have nb := (nd_ten n0).1 n10
          have R : Hid (NmP br s k w (.returned (.tuple #[.int .i64 n, .bool true])) w4) := by
            refine Or.inl ⟨n, k4, rfl, ⟨?_, ?_, fun _ h => mu (by rwa [Int.natAbs_natCast] at h)⟩, rd, CH3.out.trans ch (fun _ _ x => x)⟩
            · rw [HR.out, hr, itoa_pos]
            · unfold N10; rw [Int.natAbs_natCast]; exact nb
          clear hr mu rd ch DS RD3 CH3 HR3 HR HR0
          go_wp2
          go_ret2
          exact R.out
        · have R : Hid (NmP br s k w (.returned (.tuple #[.int .i64 0, .bool false])) w4) := by
            refine Or.inr ⟨0, k1, rfl, Or.inr (Or.inl ⟨HR.out, fun c t e hd => ?_, HR3.out⟩), rd, CH3.out.trans ch (fun _ _ x => x)⟩
            by_cases h0 : c = 48
            · exact HR0.out t (by rw [e, h0])
            · refine hr c t e ⟨?_, hd.2⟩
              have h1 : c.toNat ≠ 48 := fun e => h0 (UInt8.toNat_inj.1 (by rw [e]; rfl))
              have := hd.1
              omega
          clear hr rd ch DS RD3 CH3 HR3 HR HR0
          go_wp2
          go_ret2
          exact R.out
  · have R : Hid (NmP br s k w (.returned (.tuple #[.int .i64 0, .bool false])) w1) := Or.inr ⟨0, k, rfl, Or.inl ⟨rfl, hr⟩, rd, ch⟩
    clear rd ch hr TK H
    go_wp2
    go_ret2
    exact R.out

end Go.Proofs.YtmofidaojmiepaaGreatDoor

/-
  THE WALKS: the code's reader of texts: the numbers of a line.
-/
set_option linter.unusedVariables false
set_option linter.unusedSimpArgs false
namespace Go.Proofs.YtmofidaojmiepaaGreatDoor

open Go.RowKit

open Go.Lib (itoa decDigits nDigits)

attribute [local go_sem ↓] Go.wp_at_zero Go.wp_at_succ

/-- Where a reader stands. -/
def atOf (b : Nat) (w : World) : Nat := match w.cell? ⟨b, 1, none⟩ with
  | some (.int _ v) => v.toNat
  | _ => 0

theorem Rd.at {br k : Nat} {s : ByteArray} {w : World} (h : Rd br s k w) : atOf br w = k := by
  have r1 : w.cell? ⟨br, 1, none⟩ = some (.int .i64 k) := h.row.cell (i := 1) (by omega)
  unfold atOf
  rw [r1]
  show ((k : Int)).toNat = k
  omega

theorem rest_len {s : ByteArray} {k : Nat} : (rest s k).length = s.size - k := by
  unfold rest
  rw [List.length_drop]
  rfl

theorem NumOk.far {s : ByteArray} {k k' : Nat} {n : Int} (h : NumOk (rest s k) n (rest s k')) (hk : k' ≤ s.size) : k < k' := by
  have e := congrArg List.length h.eq
  rw [List.length_cons, List.length_append, rest_len, rest_len] at e
  omega

theorem numsT_len : ∀ l : List Int, l.length ≤ (numsT l).length := by
  intro l
  induction l with
  | nil => simp
  | cons n l ih => rw [numsT_cons]; simp; omega

def ints (l : List Int) : List Value := l.map (fun x => Value.int .i64 x)

/-- What numbers leaves. -/
def NbP (br : Nat) (s : ByteArray) (k : Nat) (w : World) (e : Ending) (w' : World) : Prop :=
  (∃ (v : Value) (l : List Int) (k' : Nat), e = .returned (.tuple #[v, .bool true]) ∧ rest s k = numsT l ++ 10 :: rest s k' ∧ (∀ x ∈ l, N10 x) ∧ w'.ownsRow w.heap.size 3 1 v l.length (ints l) ∧ Rd br s k' w' ∧ Chg (· = br) w w') ∨
  (∃ (l : List Int) (r1 : List UInt8) (k' : Nat), e = .returned (.tuple #[.slice none 0 0, .bool false]) ∧ rest s k = numsT l ++ r1 ∧ (∀ x ∈ l, N10 x) ∧ Mu l r1 ∧ Not 10 r1 ∧ NumNo r1 (rest s k') ∧ Rd br s k' w' ∧ Chg (· = br) w w')

/-- So far. -/
structure Ns (br : Nat) (s : ByteArray) (k : Nat) (w : World) (v : Value) (l : List Int) (k' : Nat) (wr : World) : Prop where
  eq : rest s k = numsT l ++ rest s k'
  few : ∀ x ∈ l, N10 x
  mu : Mu l (rest s k')
  own : wr.ownsRow w.heap.size 3 1 v l.length (ints l)
  rd : Rd br s k' wr
  chg : Chg (· = br) w wr

theorem Mu.snoc {l : List Int} {r : List UInt8} {n : Int} (h : n ≠ 0 → nDigits n.natAbs < 10 → NoDg r) : Mu (l ++ [n]) r := by
  intro x l' e
  have h1 := (List.append_inj' e rfl).2
  have : n = x := List.cons.inj h1 |>.1
  subst this
  exact h

theorem mu_nil (r : List UInt8) : Mu [] r := fun x l' e => by simp at e

theorem own_chg {w0 w w' : World} {br : Nat} {v : Value} {n : Nat} {xs : List Value} (h : w.ownsRow w0.heap.size 3 1 v n xs) (hb : br < w0.heap.size) (hc : Chg (· = br) w w') : w'.ownsRow w0.heap.size 3 1 v n xs :=
  own_of_block h (fun g hg hlt => hc.block g hlt (fun e => by have := own_base h hg; omega))

set_option maxRecDepth 100000 in
set_option maxHeartbeats 2000000 in
theorem numbers_any {br k : Nat} {s : ByteArray} {w : World} (h : Rd br s k w) :
    Calls Tryz.prog 71 #[.pointer (some ⟨br, 0, none⟩)] w fun e w' => NbP br s k w e w' := by
  obtain ⟨i3, y3, y4⟩ := Option.map_eq_some_iff.1 info3
  simp only [Prod.mk.injEq] at y4
  have I3 := hid y3
  have Z3 := hid y4
  clear y3 y4
  have zb := h.row.lt
  have big := h.big
  have N0 : Hid (Ns br s k w (.slice none 0 0) [] k w) := ⟨rfl, fun x hx => by simp at hx, mu_nil _, ⟨rfl, Or.inl ⟨rfl, rfl⟩⟩, h, Chg.of (Below.refl _ _)⟩
  clear h
  go_enter Tryz.func71, Tryz.ntmps71
  go_wp2_with fail
  go_loopw [4] (fun tv wr => ∃ (v : Value) (l : List Int) (k' : Nat), v = tv ∧ Hid (Ns br s k w v l k' wr)) (fun _ wr => s.size - atOf br wr)
  case atStart => exact ⟨.slice none 0 0, [], k, rfl, N0⟩
  case round =>
    clear N0
    obtain ⟨v, l, k', rfl, hn⟩ := hrel
    have TK := hid (take_any hn.out.rd 10 10 (by decide))
    have AT := hid hn.out.rd.at
    go_wp2_with fail
    refine TK.out.mono ?_
    rintro e w1 (⟨k1, rfl, rd, ch, _, hr⟩ | ⟨rfl, rd, ch, hr⟩)
    · have R : Hid (NbP br s k w (.returned (.tuple #[v, .bool true])) w1) := Or.inl ⟨v, l, k1, rfl, by rw [hn.out.eq, hr], hn.out.few, own_chg hn.out.own zb ch, rd, hn.out.chg.trans ch (fun _ _ x => x)⟩
      clear rd ch hr TK hn
      go_wp2
      go_ret2
      exact R.out
    · have N1 : Hid (Ns br s k w v l k' w1) := ⟨hn.out.eq, hn.out.few, hn.out.mu, own_chg hn.out.own zb ch, rd, hn.out.chg.trans ch (fun _ _ x => x)⟩
      have HR := hid hr
      have NM := hid (number_any rd)
      clear rd ch hr TK hn
      go_wp2_with fail
      refine NM.out.mono ?_
      rintro e w2 (⟨n, k2, rfl, ok, rd, ch⟩ | ⟨n, k2, rfl, no, rd, ch⟩)
      · have far := ok.far rd.le
        have N2 : Hid (rest s k = numsT (l ++ [n]) ++ rest s k2 ∧ (∀ x ∈ l ++ [n], N10 x) ∧ Mu (l ++ [n]) (rest s k2) ∧ w2.ownsRow w.heap.size 3 1 v l.length (ints l) ∧ Rd br s k2 w2 ∧ Chg (· = br) w w2) := by
          refine ⟨?_, ?_, Mu.snoc ok.munch, own_chg N1.out.own zb ch, rd, N1.out.chg.trans ch (fun _ _ x => x)⟩
          · rw [N1.out.eq, ok.eq, numsT_snoc]; simp
          · intro x hx
            rcases List.mem_append.1 hx with h | h
            · exact N1.out.few x h
            · rw [List.mem_singleton.1 h]; exact ok.few
        have ln : l.length ≤ s.size := by
          have e := congrArg List.length N1.out.eq
          rw [List.length_append, rest_len] at e
          have := numsT_len l
          omega
        have k2le := rd.le
        have zw : w.heap.size ≤ w2.heap.size := N2.out.2.2.2.2.2.size
        clear ok rd ch NM N1 HR
        go_wp2_with (at_builtin; refine wpList_append_lies _ rfl (.tmp 17) (.tmp 19) 24 rfl w.heap.size 3 i3 _ 1 8 Tryz.underlying24 I3.out Z3.out.1 Z3.out.2.1 Z3.out.2.2 rfl (by omega) v l.length (ints l) (by rfl) (own_alloc0 N2.out.2.2.2.1 _) ⟨w2.heap.size, 0, none⟩ 1 1 [.int .i64 n] (by rfl) (by rfl) (news1k _ _ _) (by simp [Value.oneCell']) (by omega) (by unfold maxLen; omega) (by omega) (by simp; omega) (w2.heap.size + 1) (by simp) ?_; intro g cap w6 hown2 hgrow hat hlt; refine stopH ?_)
        have hb6 : Below w.heap.size w2 w6 := grow_below0 hgrow zw (fun g hg => own_base N2.out.2.2.2.1 hg)
        have N3 : Hid (Ns br s k w (.slice (some ⟨g, 0, none⟩) (l.length + 1) cap) (l ++ [n]) k2 w6) := by
          obtain ⟨q1, q2, q3, _, q5, q6⟩ := N2.out
          refine ⟨q1, q2, q3, ?_, ⟨q5.row.of_block (hb6.block _ zb), q5.le, q5.big⟩, ?_⟩
          · rw [List.length_append, show ints (l ++ [n]) = ints l ++ [.int .i64 n] by simp [ints]]
            exact hown2
          · exact q6.trans (Y := fun j => w.heap.size ≤ j) ⟨hb6.os, hb6.tape, hb6.output, hb6.size, fun j hj hx => hb6.block j (by omega)⟩ (fun j hj hx => by omega)
        have AT6 := hid N3.out.rd.at
        clear hown2 hgrow hat hlt hb6 N2
        refine hid ?_
        go_wp2
        go_roundw
        case rel => exact ⟨_, l ++ [n], k2, rfl, N3⟩
        case measure => rw [AT6.out, AT.out]; omega
      · have R : Hid (NbP br s k w (.returned (.tuple #[.slice none 0 0, .bool false])) w2) := Or.inr ⟨l, rest s k', k2, rfl, N1.out.eq, N1.out.few, N1.out.mu, HR.out, no, rd, N1.out.chg.trans ch (fun _ _ x => x)⟩
        clear no rd ch NM N1 HR
        go_wp2
        go_ret2
        exact R.out

end Go.Proofs.YtmofidaojmiepaaGreatDoor
