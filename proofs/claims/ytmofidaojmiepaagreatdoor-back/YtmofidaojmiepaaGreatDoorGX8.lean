/-
  TEXTS, as mathematics: the numbers of a line, read byte by byte; a list that owns its room is stored into.
-/
import Derived.Test.YtmofidaojmiepaaGreatDoorGZ1
import Derived.Shelf.Strconv.Itoa3
import Derived.Test.YtmofidaojmiepaaGreatDoorGE1
import Derived.Lib.LaidTab
set_option linter.unusedVariables false
set_option linter.unusedSimpArgs false
namespace Go.Proofs.YtmofidaojmiepaaGreatDoor

open Go.RowKit

open Go.Lib (itoa decDigits nDigits)

/-- Within a line's numbers: l is what was read of L, rem is still to be read. -/
def NSt (L l : List Int) (m : Bool) (rem : List UInt8) : Prop :=
  (l = [] ∧ rem = numsT L) ∨ ∃ dn n t cur q, L = dn ++ n :: t ∧ l = dn ++ [cur] ∧ NumSt n cur m q ∧ rem = q ++ numsT t

theorem NSt.done {L l : List Int} {m : Bool} (h : NSt L l m []) : l = L := by
  rcases h with ⟨rfl, h⟩ | ⟨dn, n, t, cur, q, rfl, rfl, h1, h2⟩
  · cases L with
    | nil => rfl
    | cons n t => rw [numsT_cons] at h; cases h
  · obtain ⟨e1, e2⟩ := List.append_eq_nil_iff.1 h2.symm
    subst e1
    cases t with
    | nil => rw [h1.done]
    | cons n t => rw [numsT_cons] at e2; cases e2

theorem NSt.step {L l : List Int} {m : Bool} {c : UInt8} {rem : List UInt8} (hL : ∀ x ∈ L, N10 x) (h : NSt L l m (c :: rem)) :
    (c = 32 ∧ NSt L (l ++ [0]) false rem) ∨ (c = 45 ∧ NSt L l true rem) ∨
    (Dg c ∧ ∃ dn cur, l = dn ++ [cur] ∧ N10 cur ∧ NSt L (dn ++ [10 * cur + (if m = true then -((c.toNat : Int) - 48) else (c.toNat : Int) - 48)]) m rem) := by
  rcases h with ⟨rfl, h⟩ | ⟨dn, n, t, cur, q, rfl, rfl, h1, h2⟩
  · cases L with
    | nil => cases h
    | cons n t =>
      rw [numsT_cons] at h
      obtain ⟨rfl, rfl⟩ := List.cons.inj h
      exact Or.inl ⟨rfl, Or.inr ⟨[], n, t, 0, itoa n, rfl, rfl, NumSt.start n, rfl⟩⟩
  · cases q with
    | nil =>
      have e := h1.done
      subst e
      cases t with
      | nil => cases h2
      | cons n' t' =>
        rw [List.nil_append, numsT_cons] at h2
        obtain ⟨rfl, rfl⟩ := List.cons.inj h2
        exact Or.inl ⟨rfl, Or.inr ⟨dn ++ [cur], n', t', 0, itoa n', by simp, rfl, NumSt.start n', rfl⟩⟩
    | cons c' q' =>
      obtain ⟨rfl, rfl⟩ := List.cons.inj h2
      rcases h1.step with ⟨rfl, g⟩ | ⟨g1, g2, g3⟩
      · exact Or.inr (Or.inl ⟨rfl, Or.inr ⟨dn, n, t, cur, q', rfl, rfl, g, rfl⟩⟩)
      · refine Or.inr (Or.inr ⟨g1, dn, cur, rfl, ?_, Or.inr ⟨dn, n, t, _, q', rfl, rfl, g2, rfl⟩⟩)
        have := hL n (by simp)
        unfold N10 at this ⊢
        omega

theorem nst_start (L : List Int) : NSt L [] false (numsT L) := Or.inl ⟨rfl, rfl⟩

theorem NSt.len {L l : List Int} {m : Bool} {rem : List UInt8} (h : NSt L l m rem) : l.length ≤ L.length := by
  rcases h with ⟨rfl, _⟩ | ⟨dn, n, t, cur, q, rfl, rfl, _, _⟩
  · simp
  · simp

/-- A store into a list that owns its room. -/
theorem own_setG {w : World} {B g n c size : Nat} {e : TypeId} {xs : List Value} (h : w.ownsRow B e size (.slice (some ⟨g, 0, none⟩) n c) n xs) (k : Nat) (v : Value) : (w.setCell ⟨g, k, none⟩ v).ownsRow B e size (.slice (some ⟨g, 0, none⟩) n c) n (xs.set k v) := by
  obtain ⟨h1, h2⟩ := h
  refine ⟨by simpa using h1, Or.inr ?_⟩
  rcases h2 with ⟨e, _⟩ | ⟨g', cap, cur, e, a1, a2, a3, a4, a5, a6⟩
  · cases e
  · simp at e
    obtain ⟨rfl, rfl⟩ := e
    refine ⟨g, c, cur.setIfInBounds k v, rfl, a1, ?_, a3, a4, by simpa using a5, ?_⟩
    · simp [World.setCell, Array.getElem?_modify, a2]
    · rw [Array.toList_setIfInBounds, List.take_set, a6]

theorem own_cellG {w : World} {B g n c size : Nat} {e : TypeId} {xs : List Value} (h : w.ownsRow B e size (.slice (some ⟨g, 0, none⟩) n c) n xs) {k : Nat} (hk : k < n * size) : w.cell? ⟨g, k, none⟩ = xs[k]? := by
  obtain ⟨a, c', e1, h2⟩ := own_at h
  rcases h2 with h2 | ⟨g', e2, _, h3⟩
  · subst h2; simp at hk
  · injection e1 with e1 _ _
    rw [e2] at e1
    injection e1 with e1
    injection e1 with e1
    subst e1
    exact h3 k hk

theorem own_frozenG {w : World} {B g n c size : Nat} {e : TypeId} {xs : List Value} (h : w.ownsRow B e size (.slice (some ⟨g, 0, none⟩) n c) n xs) (k : Nat) : w.frozen? ⟨g, k, none⟩ = false := by
  rcases h.2 with ⟨e, _⟩ | ⟨g', cap, cur, e, a1, a2, _⟩
  · cases e
  · simp at e
    obtain ⟨rfl, rfl⟩ := e
    simp [World.frozen?, a2]

theorem own_succ {W : World} {base : Nat} {e : TypeId} {size : Nat} {v : Value} {k : Nat} {xs : List Value} (h : W.ownsRow base e size v (k + 1) xs) : ∃ g cap, v = .slice (some ⟨g, 0, none⟩) (k + 1) cap := by
  rcases h.2 with ⟨_, h0⟩ | ⟨g, cap, cur, hv, _⟩
  · omega
  · exact ⟨g, cap, hv⟩

theorem ints_set (dn : List Int) (cur x : Int) : (ints (dn ++ [cur])).set dn.length (.int .i64 x) = ints (dn ++ [x]) := by
  unfold ints
  simp [List.set_append]

theorem ints_last (dn : List Int) (cur : Int) : (ints (dn ++ [cur]))[dn.length]? = some (.int .i64 cur) := by
  unfold ints
  simp

end Go.Proofs.YtmofidaojmiepaaGreatDoor

/-
  THE LIBRARY: strconv.Itoa, by the contract of the shelf, at this program.
-/
set_option linter.unusedVariables false
set_option linter.unusedSimpArgs false
namespace Go.Proofs.YtmofidaojmiepaaGreatDoor

open Go.Shelf

def itoaRen : Go.Shelf.Ren := ⟨fun | 171 => 56 | 243 => 69 | 246 => 77 | 283 => 86 | 284 => 87 | 285 => 88 | 286 => 89 | 129 => 96 | 317 => 95 | 318 => 97 | 319 => 98 | 320 => 99 | 337 => 103 | 338 => 104 | n => n, fun | 3 => 3 | 9 => 9 | 2 => 2 | 4 => 4 | 171 => 134 | 0 => 0 | 53 => 135 | 37 => 77 | 5 => 5 | 173 => 138 | 212 => 142 | 51 => 143 | 20 => 20 | 213 => 144 | 46 => 145 | 232 => 148 | 233 => 149 | n => n, fun | 17 => 1 | 18 => 2 | 19 => 3 | n => n⟩

theorem itoaLays : Go.Proofs.LaysM.n171 Tryz.prog itoaRen := {
  mixed := by kernel_rfl
  f129 := Tryz.func96.trans (congrArg some (by kernel_rfl))
  f171 := Tryz.func56.trans (congrArg some (by kernel_rfl))
  f243 := Tryz.func69.trans (congrArg some (by kernel_rfl))
  f246 := Tryz.func77.trans (congrArg some (by kernel_rfl))
  f283 := Tryz.func86.trans (congrArg some (by kernel_rfl))
  f284 := Tryz.func87.trans (congrArg some (by kernel_rfl))
  f285 := Tryz.func88.trans (congrArg some (by kernel_rfl))
  f286 := Tryz.func89.trans (congrArg some (by kernel_rfl))
  f317 := Tryz.func95.trans (congrArg some (by kernel_rfl))
  f318 := Tryz.func97.trans (congrArg some (by kernel_rfl))
  f319 := Tryz.func98.trans (congrArg some (by kernel_rfl))
  f320 := Tryz.func99.trans (congrArg some (by kernel_rfl))
  f337 := Tryz.func103.trans (congrArg some (by kernel_rfl))
  f338 := Tryz.func104.trans (congrArg some (by kernel_rfl))
  t0 := Tryz.underlying0
  a0 := Tryz.isAgg0
  z0 := Tryz.sizeOf0
  v0 := Tryz.zeroValue0
  t2 := Tryz.underlying2
  a2 := Tryz.isAgg2
  z2 := Tryz.sizeOf2
  v2 := Tryz.zeroValue2
  t3 := Tryz.underlying3
  a3 := Tryz.isAgg3
  z3 := Tryz.sizeOf3
  v3 := Tryz.zeroValue3
  t4 := Tryz.underlying4
  a4 := Tryz.isAgg4
  z4 := Tryz.sizeOf4
  v4 := Tryz.zeroValue4
  t5 := Tryz.underlying5
  a5 := Tryz.isAgg5
  z5 := Tryz.sizeOf5
  v5 := Tryz.zeroValue5
  t9 := Tryz.underlying9
  a9 := Tryz.isAgg9
  z9 := Tryz.sizeOf9
  v9 := Tryz.zeroValue9
  t20 := Tryz.underlying20
  a20 := Tryz.isAgg20
  z20 := Tryz.sizeOf20
  v20 := Tryz.zeroValue20
  t37 := Tryz.underlying77
  a37 := Tryz.isAgg77
  z37 := Tryz.sizeOf77
  v37 := Tryz.zeroValue77
  t46 := Tryz.underlying145
  a46 := Tryz.isAgg145
  z46 := Tryz.sizeOf145
  v46 := Tryz.zeroValue145
  t51 := Tryz.underlying143
  a51 := Tryz.isAgg143
  z51 := Tryz.sizeOf143
  v51 := Tryz.zeroValue143
  t53 := Tryz.underlying135
  a53 := Tryz.isAgg135
  z53 := Tryz.sizeOf135
  v53 := Tryz.zeroValue135
  t171 := Tryz.underlying134
  a171 := Tryz.isAgg134
  z171 := Tryz.sizeOf134
  v171 := Tryz.zeroValue134
  t173 := Tryz.underlying138
  a173 := Tryz.isAgg138
  z173 := Tryz.sizeOf138
  v173 := Tryz.zeroValue138
  t212 := Tryz.underlying142
  a212 := Tryz.isAgg142
  z212 := Tryz.sizeOf142
  v212 := Tryz.zeroValue142
  t213 := Tryz.underlying144
  a213 := Tryz.isAgg144
  z213 := Tryz.sizeOf144
  t232 := Tryz.underlying148
  a232 := Tryz.isAgg148
  z232 := Tryz.sizeOf148
  v232 := Tryz.zeroValue148
  t233 := Tryz.underlying149
  a233 := Tryz.isAgg149
  z233 := Tryz.sizeOf149
  v233 := Tryz.zeroValue149
  g17 := by kernel_rfl
  g18 := by kernel_rfl
  g19 := by kernel_rfl
  i0 := by kernel_rfl
  i2 := by kernel_rfl
  i3 := by kernel_rfl
  i4 := by kernel_rfl
  i5 := by kernel_rfl
  i9 := by kernel_rfl
  i20 := by kernel_rfl
  i37 := by kernel_rfl
  i46 := by kernel_rfl
  i51 := by kernel_rfl
  i53 := by kernel_rfl
  i171 := by kernel_rfl
  i173 := by kernel_rfl
  i212 := by kernel_rfl
  i232 := by kernel_rfl
  i233 := by kernel_rfl
  m17 := by kernel_rfl
  m18 := by kernel_rfl
  m19 := by kernel_rfl }

open Go.RowKit Go.Sort Go.Lib

/-- The table of the powers of ten, as it is laid. -/
def Pow (w : World) : Prop := Lib.TabIs Tryz.prog w "internal/strconv.uint64pow10" .u64 Lib.pow10Tab

theorem gPow : Tryz.prog.globalNamed "internal/strconv.uint64pow10" = some 1 := by kernel_rfl

theorem Pow.of_block {w w' : World} (h : Pow w) (hb : w'.heap[1]? = w.heap[1]?) : Pow w' := by
  unfold Pow Lib.TabIs World.var? at h ⊢
  rw [gPow] at h ⊢
  simp only [Option.bind] at h ⊢
  rw [hb]
  exact h

theorem Pow.lt {w : World} (h : Pow w) : 1 < w.heap.size := by
  unfold Pow Lib.TabIs World.var? at h
  rw [gPow] at h
  simp only [Option.bind] at h
  rcases Nat.lt_or_ge 1 w.heap.size with g | g
  · exact g
  · rw [Array.getElem?_eq_none g] at h
    cases h

theorem Pow.below {B : Nat} {w w' : World} (h : Pow w) (hb : Below B w w') (hB : w.heap.size ≤ B) : Pow w' := h.of_block (hb.block _ (by have := h.lt; omega))

/-- Bytes. -/
def bs (l : List UInt8) : ByteArray := ⟨l.toArray⟩

theorem bs_append (a b : List UInt8) : bs a ++ bs b = bs (a ++ b) := by
  unfold bs
  apply ByteArray.ext
  simp

theorem bs_size (l : List UInt8) : (bs l).size = l.length := by unfold bs; simp [ByteArray.size]

theorem itoa_any (n : Int) (h0 : -9223372036854775808 ≤ n) (h1 : n ≤ 9223372036854775807) (w : World) (hp : Pow w) :
    Calls Tryz.prog 56 #[.int .i64 n] w fun e w' => e = .returned (.string (bs (Lib.itoa n))) ∧ Below w.heap.size w w' := by
  refine (Any.strconv_Itoa itoaLays n h0 h1 w hp).mono ?_
  rintro e w' ⟨rfl, k, os, rfl⟩
  exact ⟨rfl, ⟨rfl, rfl, rfl, by simp [grow], fun j hj => by
    show (w.heap ++ os)[j]? = w.heap[j]?
    rw [Array.getElem?_append_left hj]⟩⟩

end Go.Proofs.YtmofidaojmiepaaGreatDoor

/-
  THE WALKS: the code's writer of texts: a line.
-/
set_option linter.unusedVariables false
set_option linter.unusedSimpArgs false
namespace Go.Proofs.YtmofidaojmiepaaGreatDoor

open Go.RowKit

open Go.Lib (itoa decDigits nDigits)

attribute [local go_sem ↓] Go.wp_at_zero Go.wp_at_succ

def I64 (n : Int) : Prop := -9223372036854775808 ≤ n ∧ n ≤ 9223372036854775807

/-- What line answers. -/
def StP (t : List UInt8) (w : World) (e : Ending) (w' : World) : Prop := e = .returned (.string (bs t)) ∧ Below w.heap.size w w'

theorem take_more {l : List Int} {i : Nat} (h : i < l.length) : numsT (l.take (i + 1)) = numsT (l.take i) ++ 32 :: itoa (l.getD i 0) := by
  rw [take_snoc l i h, numsT_snoc]

theorem dec_len {n : Nat} : ∀ {d : Nat}, n < 10 ^ d → 0 < d → (decDigits n).length ≤ d := by
  induction n using Nat.strongRecOn with
  | ind n ih =>
    intro d h hd
    by_cases h10 : n < 10
    · rw [dec_one h10]; simp; omega
    · have h1 : n = 10 * (n / 10) + n % 10 := by omega
      have hd2 : 1 < d := by
        rcases Nat.lt_or_ge 1 d with g | g
        · exact g
        · obtain rfl : d = 1 := by omega
          omega
      obtain ⟨e, rfl⟩ : ∃ e, d = e + 1 := ⟨d - 1, by omega⟩
      have h2 := ih (n / 10) (by omega) (d := e) (by rw [Nat.pow_succ] at h; omega) (by omega)
      rw [h1, dec_more (by omega) (by omega), List.length_append]
      simp
      omega

theorem itoa_len {n : Int} (h : I64 n) : (itoa n).length ≤ 21 := by
  unfold I64 at h
  by_cases hn : n < 0
  · obtain ⟨k, hk⟩ := Int.eq_ofNat_of_zero_le (show 0 ≤ -n by omega)
    obtain rfl : n = -(k : Int) := by omega
    rw [itoa_neg (by omega), List.length_cons]
    have := dec_len (n := k) (d := 20) (by omega) (by omega)
    omega
  · obtain ⟨k, rfl⟩ := Int.eq_ofNat_of_zero_le (show 0 ≤ n by omega)
    rw [itoa_pos]
    have := dec_len (n := k) (d := 20) (by omega) (by omega)
    omega

theorem nums_len {l : List Int} (h : ∀ n ∈ l, I64 n) : (numsT l).length ≤ 22 * l.length := by
  induction l with
  | nil => simp [numsT_nil]
  | cons n l ih =>
    rw [numsT_cons, List.length_cons, List.length_append, List.length_cons]
    have := ih (fun m hm => h m (by simp [hm]))
    have := itoa_len (h n (by simp))
    omega

theorem line_len {c : UInt8} {l : List Int} (h : ∀ n ∈ l, I64 n) : (lineT c l).length ≤ 22 * l.length + 2 := by
  unfold lineT
  rw [List.length_cons, List.length_append]
  have := nums_len h
  simp
  omega

set_option maxRecDepth 100000 in
set_option maxHeartbeats 2000000 in
theorem wline_any (c : UInt8) (first : Int) (l : List Int) (a : Option Addr) (cap : Nat) (w : World) (hp : Pow w) (h1 : I64 first) (hl : ∀ i, i < l.length → I64 (l.getD i 0)) (hn : l.length ≤ 1000000000) (hat : IntsAt w (.slice a l.length cap) l) :
    Calls Tryz.prog 40 #[.string (bs [c]), .int .i64 first, .slice a l.length cap] w fun e w' => StP (lineT c (first :: l)) w e w' := by
  have IT := hid (itoa_any first h1.1 h1.2 w hp)
  have HP := hid hp
  have HL := hid hl
  have HM : Hid (∀ n ∈ l, I64 n) := fun n hm => by
    obtain ⟨i, hi, rfl⟩ := List.mem_iff_getElem.1 hm
    have := hl i hi
    rwa [show l.getD i 0 = l[i] by simp [List.getD, hi]] at this
  have HA := hid hat
  have s1 : (bs [c]).size ≤ 1 := by rw [bs_size]; simp
  have s2 : (bs (itoa first)).size ≤ 21 := by rw [bs_size]; exact itoa_len h1
  have S0 : Hid (bs [c] ++ { data := #[32] } ++ bs (itoa first) = bs (c :: 32 :: (itoa first ++ numsT (l.take 0)))) := by
    show bs [c] ++ bs [32] ++ bs (itoa first) = _
    rw [bs_append, bs_append]
    simp [numsT_nil]
  have H1 := hid h1
  clear hp h1 hl hat
  go_enter Tryz.func40, Tryz.ntmps40
  go_wp2_with fail
  refine IT.out.mono ?_
  rintro e w1 ⟨rfl, b1⟩
  have B1 := hid b1
  clear b1
  go_wp2_with fail
  go_loopw [7, 17] (fun ts ti wr => ∃ (t : ByteArray) (i : Nat), ts = .string t ∧ ti = .int .i64 i ∧ i ≤ l.length ∧ Hid (t = bs (c :: 32 :: (itoa first ++ numsT (l.take i)))) ∧ Hid (Below w.heap.size w wr)) (fun _ ti _ => l.length - (intOf ti).toNat)
  case atStart => exact ⟨_, 0, rfl, by go_num, by omega, S0, B1⟩
  case round =>
    clear S0 B1 IT
    obtain ⟨t, i, rfl, rfl, hi, ht, hb⟩ := hrel
    by_cases hil : i < l.length
    · obtain ⟨n, hn0⟩ : ∃ n, l.getD i 0 = n := ⟨_, rfl⟩
      have HN := hid (HL.out i hil)
      rw [hn0] at HN
      obtain ⟨b, o, ha, hbl, hc⟩ : ∃ b o, a = some ⟨b, o, none⟩ ∧ b < wr.heap.size ∧ wr.cell? ⟨b, o + i, none⟩ = some (.int .i64 n) := by
        rcases IntsAt.cases (SlAt.below HA.out hb.out (Nat.le_refl _)) with h0 | ⟨b, o, e, hb', hc⟩
        · omega
        · exact ⟨b, o, e, hb', by rw [hc i hil, hn0]⟩
      subst ha
      have s3 : (bs (itoa n)).size ≤ 21 := by rw [bs_size]; exact itoa_len HN.out
      have s4 : t.size ≤ 22000000100 := by
        rw [ht.out, bs_size]
        have := nums_len (l := l.take i) (fun x hx => HM.out x (List.mem_of_mem_take hx))
        have := itoa_len H1.out
        simp at *
        omega
      have IT2 := hid (itoa_any n HN.out.1 HN.out.2 wr (HP.out.below hb.out (Nat.le_refl _)))
      have S1 : Hid (t ++ ({ data := #[32] } ++ bs (itoa n)) = bs (c :: 32 :: (itoa first ++ numsT (l.take (i + 1))))) := by
        show t ++ (bs [32] ++ bs (itoa n)) = _
        rw [ht.out, bs_append, bs_append, take_more hil, hn0]
        simp
      clear hn0 ht
      go_wp2_with fail
      refine IT2.out.mono ?_
      rintro e w2 ⟨rfl, b2⟩
      have B2 := hid (hb.out.trans (b2.mono (hb.out.size)))
      clear b2 hc IT2 hb
      go_wp2
      go_roundw
      case rel => exact ⟨_, i + 1, rfl, by go_num, by omega, S1, B2⟩
      case measure => simp [intOf]; omega
    · obtain rfl : i = l.length := by omega
      have R : Hid (StP (lineT c (first :: l)) w (.returned (.string (t ++ { data := #[10] }))) wr) := by
        refine ⟨?_, hb.out⟩
        show Ending.returned (.string (t ++ bs [10])) = _
        rw [ht.out, List.take_length, bs_append]
        unfold lineT
        rw [numsT_cons]
        simp
      have s4 : t.size ≤ 22000000100 := by
        rw [ht.out, bs_size]
        have := nums_len (l := l.take l.length) (fun x hx => HM.out x (List.mem_of_mem_take hx))
        have := itoa_len H1.out
        simp at *
        omega
      clear ht hb
      go_wp2
      go_ret
      exact R.out

end Go.Proofs.YtmofidaojmiepaaGreatDoor
