/-
  THE WALKS: the document's writer of texts: a number, a line.
-/
import Derived.Test.YtcondcffllaaoaaDoorGZ3
import Derived.Deep.AppendSrc
import Derived.Test.YtcondcffllaaoaaDoorGW16
set_option linter.unusedVariables false
set_option linter.unusedSimpArgs false
namespace Go.Proofs.YtcondcffllaaoaaDoor
open Go.RowKit
open Go.Lib (itoa decDigits nDigits)
attribute [local go_sem ↓] Go.wp_at_zero Go.wp_at_succ

/-- Where a list's values lie: nowhere, if there are none. -/
def SrcAt (w : World) (ax : Option Addr) (m : Nat) (news : List Value) : Prop := m = 0 ∨ ∃ ad, ax = some ad ∧ ad.block < w.heap.size ∧ ∀ j u, news[j]? = some u → w.cell? (ad.add j) = some u

/-- At the operation: a list is put behind one that owns its room. -/
theorem wpList_append_srcs {ops : Array Oper} {rest : List Oper} {o : Oper} {a : Act} {Q : Exit → Act → World → Prop} (w : World) (hgd : o.guard = none) (s x : Operand) (t : TypeId)
    (ho : o.op = .call { callee := .builtin .append, args := #[s, x], argTypes := #[t, t] })
    (base : Nat) (e : TypeId) (i : TypeInfo) (z : Value) (size bytes : Nat) (ht : Tryd.prog.underlying t = some (.slice e)) (hi : Tryd.prog.info? e = some i) (hz : i.zero = some z)
    (hsize : i.size = size) (hby : i.bytes = bytes) (hzs : z.cells.size = size) (hsz : 0 < size)
    (v : Value) (n : Nat) (xs : List Value) (hs : a.eval s = v) (hown : w.ownsRow base e size v n xs) (hn : 0 < n)
    (ax : Option Addr) (m c : Nat) (news : List Value) (hx : a.eval x = .slice ax m c) (hl : news.length = m * size) (hsrc : SrcAt w ax m news) (h1 : ∀ u ∈ news, u.oneCell' = true)
    (h63 : n + m ≤ maxLen) (hbytes : (n + m) * bytes ≤ 140737488355328) (hbase : base ≤ w.heap.size)
    (h : ∀ g cap w', w'.ownsRow base e size (.slice (some ⟨g, 0, none⟩) (n + m) cap) (n + m) (xs ++ news) → w.grownBy w' v.ownBlock → wpList Tryd.prog ops Q rest (a.put o.dst (.slice (some ⟨g, 0, none⟩) (n + m) cap)) w') :
    wpList Tryd.prog ops Q (o :: rest) a w := by
  rcases hsrc with rfl | ⟨ad, rfl, hlt, hnews⟩
  · have hne : news = [] := List.eq_nil_of_length_eq_zero (by simpa using hl)
    subst hne
    obtain ⟨g, cap, rfl⟩ : ∃ g cap, v = .slice (some ⟨g, 0, none⟩) n cap := by
      rcases hown.2 with ⟨_, h0⟩ | ⟨g, cap, cur, hv, _⟩
      · omega
      · exact ⟨g, cap, hv⟩
    have hcap : n ≤ cap := by
      rcases hown.2 with ⟨_, h0⟩ | ⟨g', cap', cur, hv, _, _, h5, _⟩
      · omega
      · injection hv with _ _ e3
        omega
    refine wpList_plain hgd fun K hK => ?_
    have hr : (Builtin.append_ #[t, t] o.type #[.slice (some ⟨g, 0, none⟩) n cap, .slice ax 0 c]).run Tryd.prog w = .ok (.slice (some ⟨g, 0, none⟩) n cap) w := by
      cases ax <;> simp [Builtin.append_, run_underlying ht, sizeOf, typeInfo, hi, Builtin.lenOf, Builtin.firstCells, loadCells, loadCellsFrom, storeCells, hcap]
    unfold Oper.wp execOp
    simp only [ho, resolve, invoke, builtin, Sem.run_bind, Sem.run_pure, Result.andThen_ok, List.map_toArray, List.map_cons, List.map_nil, hs, hx, hr]
    refine hK _ _ (h g cap w ?_ ⟨rfl, rfl, rfl, Nat.le_refl _, fun _ _ _ => rfl⟩)
    rw [List.append_nil]
    exact hown
  · by_cases hm : m = 0
    · subst hm
      have hne : news = [] := List.eq_nil_of_length_eq_zero (by simpa using hl)
      subst hne
      obtain ⟨g, cap, rfl⟩ : ∃ g cap, v = .slice (some ⟨g, 0, none⟩) n cap := by
        rcases hown.2 with ⟨_, h0⟩ | ⟨g, cap, cur, hv, _⟩
        · omega
        · exact ⟨g, cap, hv⟩
      have hcap : n ≤ cap := by
        rcases hown.2 with ⟨_, h0⟩ | ⟨g', cap', cur, hv, _, _, h5, _⟩
        · omega
        · injection hv with _ _ e3
          omega
      refine wpList_plain hgd fun K hK => ?_
      have hr : (Builtin.append_ #[t, t] o.type #[.slice (some ⟨g, 0, none⟩) n cap, .slice (some ad) 0 c]).run Tryd.prog w = .ok (.slice (some ⟨g, 0, none⟩) n cap) w := by
        simp [Builtin.append_, run_underlying ht, sizeOf, typeInfo, hi, Builtin.lenOf, Builtin.firstCells, loadCells, loadCellsFrom, storeCells, hcap]
      unfold Oper.wp execOp
      simp only [ho, resolve, invoke, builtin, Sem.run_bind, Sem.run_pure, Result.andThen_ok, List.map_toArray, List.map_cons, List.map_nil, hs, hx, hr]
      refine hK _ _ (h g cap w ?_ ⟨rfl, rfl, rfl, Nat.le_refl _, fun _ _ _ => rfl⟩)
      rw [List.append_nil]
      exact hown
    · exact wpList_append_lies w hgd s x t ho base e i z size bytes ht hi hz hsize hby hzs hsz v n xs hs hown ad m c news hx hl hnews h1 (by omega) h63 hbytes hbase _ rfl (fun g cap w' q1 q2 _ _ => h g cap w' q1 q2)

theorem own_one (w : World) (v : Value) : (w.alloc (.cells #[v] 3)).ownsRow w.heap.size 3 1 (.slice (some ⟨w.heap.size, 0, none⟩) 1 1) 1 [v] := by
  refine ⟨by simp, Or.inr ⟨w.heap.size, 1, #[v], rfl, Nat.le_refl _, ?_, ?_⟩⟩
  · show (w.heap.push _)[w.heap.size]? = _
    simp
  · simp [maxLen]

/-- Numbers that lie somewhere can be put behind others. -/
theorem srcAt_ints {w : World} {a : Option Addr} {cap : Nat} {l : List Int} (h : IntsAt w (.slice a l.length cap) l) : SrcAt w a l.length (ints l) := by
  rcases IntsAt.cases h with h0 | ⟨b, o, e, hlt, hc⟩
  · exact Or.inl h0
  · refine Or.inr ⟨⟨b, o, none⟩, e, hlt, fun j u hu => ?_⟩
    unfold ints at hu
    rw [List.getElem?_map] at hu
    rcases Nat.lt_or_ge j l.length with hj | hj
    · rw [show l[j]? = some (l.getD j 0) by simp [List.getD, hj]] at hu
      obtain rfl := Option.some.inj hu
      have : (⟨b, o, none⟩ : Addr).add j = ⟨b, o + j, none⟩ := by unfold Addr.add; simp
      rw [this]
      exact hc j hj
    · rw [List.getElem?_eq_none hj] at hu
      cases hu
theorem ints_one (l : List Int) : ∀ u ∈ ints l, u.oneCell' = true := fun u hu => by
  unfold ints at hu
  obtain ⟨x, _, rfl⟩ := List.mem_map.1 hu
  rfl
theorem ints_len (l : List Int) : (ints l).length = l.length * 1 := by unfold ints; simp

theorem rhask_any (k : Int) (w : World) : Calls Tryd.prog 22 #[.int .i64 k] w fun e w' => e = .returned (.bool (hasKB k)) ∧ w' = w := by
  have cs : k = 0 ∨ k = 1 ∨ k = 11 ∨ k = 12 ∨ (k ≠ 0 ∧ k ≠ 1 ∧ k ≠ 11 ∧ k ≠ 12) := by omega
  rcases cs with rfl | rfl | rfl | rfl | ⟨h0, h1, h2, h3⟩
  · go_enter Tryd.func22, Tryd.ntmps22
    go_wp2
    go_ret
    exact ⟨rfl, rfl⟩
  · go_enter Tryd.func22, Tryd.ntmps22
    go_wp2
    go_ret
    exact ⟨rfl, rfl⟩
  · go_enter Tryd.func22, Tryd.ntmps22
    go_wp2
    go_ret
    exact ⟨rfl, rfl⟩
  · go_enter Tryd.func22, Tryd.ntmps22
    go_wp2
    go_ret
    exact ⟨rfl, rfl⟩
  · have R : Hid (hasKB k = false) := by unfold hasKB; exact decide_eq_false (by omega)
    have e0 : (k == 0) = false := beq_eq_false_iff_ne.2 h0
    have e1 : (k == 1) = false := beq_eq_false_iff_ne.2 h1
    have e2 : (k == 11) = false := beq_eq_false_iff_ne.2 h2
    have e3 : (k == 12) = false := beq_eq_false_iff_ne.2 h3
    go_enter Tryd.func22, Tryd.ntmps22
    go_wp2
    go_ret
    exact ⟨by rw [R.out]; rfl, rfl⟩

set_option maxRecDepth 100000 in
set_option maxHeartbeats 1000000 in
theorem shown_nat (n : Nat) : ∀ (w : World), n ≤ 1000000000000 → Calls Tryd.prog 41 #[.int .i64 n] w fun e w' => StP (decDigits n) w e w' := by
  induction n using Nat.strongRecOn with
  | ind n ih =>
    intro w hn
    by_cases h10 : n < 10
    · have R := hid (dec_one h10)
      have CV : Sem.run Tryd.prog (convert 90 9 (Value.slice (some ⟨w.heap.size, 0, none⟩) 1 1)) (w.alloc (.cells #[.int .u8 (48 + (n : Int))] 5)) = .ok (.string (bs [UInt8.ofNat (48 + n)])) (w.alloc (.cells #[.int .u8 (48 + (n : Int))] 5)) := by
        refine run_convert_bytes_back (P := Tryd.prog) (w.alloc (.cells #[.int .u8 (48 + (n : Int))] 5)) 90 9 5 ⟨w.heap.size, 0, none⟩ 1 [UInt8.ofNat (48 + n)] Tryd.underlying90 Tryd.underlying5 Tryd.underlying9 (fun j hj => ?_)
        obtain rfl : j = 0 := by simp at hj; omega
        have : ((UInt8.ofNat (48 + n)).toNat : Int) = 48 + (n : Int) := by rw [ofNat_toNat h10]; omega
        simp [Addr.add]
        omega
      obtain ⟨sb, hsb⟩ : ∃ x, bs [UInt8.ofNat (48 + n)] = x := ⟨_, rfl⟩
      rw [hsb] at CV
      have R2 : Hid (StP (decDigits n) w (.returned (.string sb)) (w.alloc (.cells #[.int .u8 (48 + (n : Int))] 5))) := ⟨by rw [R.out, hsb], (Below.refl _ _).alloc (Nat.le_refl _) _⟩
      clear ih R hsb
      go_enter Tryd.func41, Tryd.ntmps41
      go_wp2
      go_ret
      exact R2.out
    · have I1 := hid (ih (n / 10) (by omega) w (by omega))
      have I2 : Hid (∀ W, Calls Tryd.prog 41 #[.int .i64 ((n : Int) % 10)] W fun e w' => StP (decDigits (n % 10)) W e w') := fun W => by
        have := ih (n % 10) (by omega) W (by omega)
        simpa using this
      have I1' : Hid (Calls Tryd.prog 41 #[.int .i64 ((n : Int) / 10)] w fun e w' => StP (decDigits (n / 10)) w e w') := by
        have := I1.out
        show Calls _ _ _ _ _
        simpa using this
      have s1 : (bs (decDigits (n / 10))).size ≤ 20 := by rw [bs_size]; exact dec_len (by omega) (by omega)
      have s2 : (bs (decDigits (n % 10))).size ≤ 20 := by rw [bs_size]; exact dec_len (by omega) (by omega)
      have SE : Hid (bs (decDigits (n / 10)) ++ bs (decDigits (n % 10)) = bs (decDigits n)) := by
        show _ = _
        rw [bs_append]
        have h1 : n = 10 * (n / 10) + n % 10 := by omega
        have h2 := dec_more (n := n / 10) (d := n % 10) (by omega) (by omega)
        rw [← h1] at h2
        rw [h2, dec_one (d := n % 10) (by omega)]
      clear ih I1
      go_enter Tryd.func41, Tryd.ntmps41
      go_wp2_with fail
      refine I1'.out.mono ?_
      rintro e w1 ⟨rfl, b1⟩
      have J2 := hid (I2.out w1)
      have B1 := hid b1
      clear b1 I1' I2
      go_wp2_with fail
      refine J2.out.mono ?_
      rintro e w2 ⟨rfl, b2⟩
      have R : Hid (StP (decDigits n) w (.returned (.string (bs (decDigits (n / 10)) ++ bs (decDigits (n % 10))))) w2) := ⟨by rw [SE.out], B1.out.trans (b2.mono B1.out.size)⟩
      clear b2 J2 SE
      go_wp2
      go_ret
      exact R.out

set_option maxRecDepth 100000 in
set_option maxHeartbeats 1000000 in
theorem shown_any (n : Int) (hn : N10 n) (w : World) : Calls Tryd.prog 41 #[.int .i64 n] w fun e w' => StP (itoa n) w e w' := by
  unfold N10 at hn
  by_cases h0 : n < 0
  · obtain ⟨k, hk⟩ := Int.eq_ofNat_of_zero_le (show 0 ≤ -n by omega)
    have e1 : itoa n = 45 :: decDigits k := by
      obtain rfl : n = -(k : Int) := by omega
      exact itoa_neg (by omega)
    have SN := hid (shown_nat k w (by omega))
    rw [← hk] at SN
    have s1 : (bs (decDigits k)).size ≤ 20 := by rw [bs_size]; exact dec_len (by omega) (by omega)
    have SE : Hid ({ data := #[45] } ++ bs (decDigits k) = bs (itoa n)) := by
      show bs [45] ++ bs (decDigits k) = _
      rw [bs_append, e1]
      rfl
    clear e1 hk
    go_enter Tryd.func41, Tryd.ntmps41
    go_wp2_with fail
    refine SN.out.mono ?_
    rintro e w2 ⟨rfl, b2⟩
    have R : Hid (StP (itoa n) w (.returned (.string ({ data := #[45] } ++ bs (decDigits k)))) w2) := ⟨by rw [SE.out], b2⟩
    clear b2 SN SE
    go_wp2
    go_ret
    exact R.out
  · obtain ⟨k, rfl⟩ := Int.eq_ofNat_of_zero_le (show 0 ≤ n by omega)
    have := shown_nat k w (by omega)
    rw [itoa_pos]
    exact this

end Go.Proofs.YtcondcffllaaoaaDoor

/-
  THE WALKS: the document's writer of texts: a line.
-/
set_option linter.unusedVariables false
set_option linter.unusedSimpArgs false
namespace Go.Proofs.YtcondcffllaaoaaDoor
open Go.RowKit
open Go.Lib (itoa decDigits nDigits)
attribute [local go_sem ↓] Go.wp_at_zero Go.wp_at_succ

set_option maxRecDepth 100000 in
set_option maxHeartbeats 2000000 in
theorem rline_any (c : UInt8) (l : List Int) (a : Option Addr) (m cap : Nat) (w : World) (hm : m = l.length) (hl : ∀ i, i < l.length → N10 (l.getD i 0)) (hn : l.length ≤ 1000000000) (hat : IntsAt w (.slice a l.length cap) l) :
    Calls Tryd.prog 20 #[.string (bs [c]), .slice a m cap] w fun e w' => StP (lineT c l) w e w' := by
  have HL := hid hl
  have HM : Hid (∀ n ∈ l, I64 n) := fun n hm => by
    obtain ⟨i, hi, rfl⟩ := List.mem_iff_getElem.1 hm
    have := hl i hi
    rw [show l.getD i 0 = l[i] by simp [List.getD, hi]] at this
    exact n10_i64 this
  have HA := hid hat
  have HMM := hid hm
  have hml : m ≤ l.length ∧ l.length ≤ m := by omega
  have B1 := hid (Below.refl w.heap.size w)
  have S0 : Hid (bs [c] = bs (c :: numsT (l.take 0))) := by show _ = _; simp [numsT_nil]
  clear hl hat hm
  go_enter Tryd.func20, Tryd.ntmps20
  go_wp2_with fail
  go_loopw [0, 5] (fun ts ti wr => ∃ (t : ByteArray) (i : Nat), ts = .string t ∧ ti = .int .i64 i ∧ i ≤ m ∧ Hid (t = bs (c :: numsT (l.take i))) ∧ Hid (Below w.heap.size w wr)) (fun _ ti _ => m - (intOf ti).toNat)
  case atStart => exact ⟨_, 0, rfl, by go_num, by omega, S0, B1⟩
  case round =>
    clear S0 B1
    obtain ⟨t, i, rfl, rfl, hi, ht, hb⟩ := hrel
    have s4 : t.size ≤ 22000000100 := by
      rw [ht.out, bs_size]
      have := nums_len (l := l.take i) (fun x hx => HM.out x (List.mem_of_mem_take hx))
      simp at *
      omega
    by_cases hil : i < m
    · obtain ⟨n, hn0⟩ : ∃ n, l.getD i 0 = n := ⟨_, rfl⟩
      have HN := hid (HL.out i (by omega))
      rw [hn0] at HN
      obtain ⟨b, o, ha, hbl, hc⟩ : ∃ b o, a = some ⟨b, o, none⟩ ∧ b < wr.heap.size ∧ wr.cell? ⟨b, o + i, none⟩ = some (.int .i64 n) := by
        rcases IntsAt.cases (SlAt.below HA.out hb.out (Nat.le_refl _)) with h0 | ⟨b, o, e, hb', hc⟩
        · omega
        · exact ⟨b, o, e, hb', by rw [hc i (by omega), hn0]⟩
      subst ha
      have s3 : (bs (itoa n)).size ≤ 21 := by rw [bs_size]; exact itoa_len (n10_i64 HN.out)
      have IT2 := hid (shown_any n HN.out wr)
      have S1 : Hid (t ++ { data := #[32] } ++ bs (itoa n) = bs (c :: numsT (l.take (i + 1)))) := by
        show t ++ bs [32] ++ bs (itoa n) = _
        rw [ht.out, bs_append, bs_append, take_more (by omega), hn0]
        simp
      clear hn0 ht
      go_wp2_with fail
      refine IT2.out.mono ?_
      rintro e w2 ⟨rfl, b2⟩
      have B2 := hid (hb.out.trans (b2.mono (hb.out.size)))
      clear b2 hc IT2 hb
      go_wp2
      go_roundw
      case rel => exact ⟨_, i + 1, rfl, by go_num, by omega, S1, B2⟩
      case measure => simp [intOf]; omega
    · have hil2 : l.take i = l := List.take_of_length_le (by omega)
      have R : Hid (StP (lineT c l) w (.returned (.string (t ++ { data := #[10] }))) wr) := by
        refine ⟨?_, hb.out⟩
        show Ending.returned (.string (t ++ bs [10])) = _
        rw [ht.out, hil2, bs_append]
        rfl
      clear ht hb hil2
      go_wp2
      go_ret
      exact R.out

end Go.Proofs.YtcondcffllaaoaaDoor
