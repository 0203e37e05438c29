/-
  What pack's writers do: folded, number, slices.Grow and slices.Concat, Num, Text; bytes.Clone.
-/
import Derived.Test.YtdgpbdedaafdiaaGreatStr
import Derived.Test.YtdgpbdedaafdiaaGreatPk
import Derived.Lib.AppendZerosOnto
import Derived.Lib.AppendZeros
namespace Go.Proofs.YtdgpbdedaafdiaaGreat
open Go.RowKit

theorem ret_u64 {a b : Int} (h : a = b) : Ending.returned (.int .u64 a) = .returned (.int .u64 b) := by rw [h]

/-- A slice of bytes in memory of the call's own, or none. -/
structure RowB (w : World) (base : Nat) (v : Value) (ps : List Nat) : Prop where
  own : w.ownsRow base 5 1 v ps.length (vals ps)
  byte : Gf.Bytes ps

theorem RowB.none (w : World) (base : Nat) : RowB w base (.slice Option.none 0 0) [] := ⟨World.ownsRow_nil _ _ _ _, bytes_nil⟩

theorem OwnB.row {w : World} {base g cap : Nat} {ps : List Nat} (h : OwnB w base g cap ps) : RowB w base (.slice (some ⟨g, 0, Option.none⟩) ps.length cap) ps := ⟨h.own, h.byte⟩

theorem RowB.below {w w' : World} {base : Nat} {v : Value} {ps : List Nat} (h : RowB w base v ps) (hb : Below w.heap.size w w') : RowB w' base v ps :=
  ⟨(Chg.of_below (gs := []) hb).owns h.own (by simp), h.byte⟩

/-- append(s, x...): s of the call's own, or nil; x not empty. -/
theorem wpList_appR {ops : Array Oper} {rest : List Oper} {o : Oper} {a : Act} {Q : Exit → Act → World → Prop} {w : World} (hgd : o.guard = none) (s x : Operand)
    (ho : o.op = .call { callee := .builtin .append, args := #[s, x], argTypes := #[39, 39] })
    (base : Nat) (v : Value) (ps qs : List Nat) (hs : a.eval s = v) (hown : RowB w base v ps)
    (xa : Option Addr) (xc : Nat) (hx : a.eval x = .slice xa qs.length xc) (hq : SeenAt w xa xc qs) (hpos : 0 < qs.length) (hb : ps.length + qs.length ≤ 1000000000) (hbase : base ≤ w.heap.size)
    (h : ∀ g' cap' w', OwnB w' base g' cap' (ps ++ qs) → (∀ B w0, Below B w0 w → B ≤ base → Below B w0 w') → wpList Tryz.prog ops Q rest (a.put o.dst (.slice (some ⟨g', 0, none⟩) (ps ++ qs).length cap')) w') :
    wpList Tryz.prog ops Q (o :: rest) a w := by
  obtain ⟨i, hi, hz, hsz, hby⟩ := info8
  obtain ⟨b, off, rfl, _⟩ := hq.cell 0 hpos
  refine wpList_append_lies w hgd s x 39 ho base 5 i (.int .u8 0) 1 1 Tryz.underlying39 hi hz hsz hby rfl (by omega) _ _ _ hs hown.own ⟨b, off, none⟩ qs.length xc (vals qs) hx (by rw [vals_len]; omega)
    (fun j u hj => ?_) (vals_one qs) hpos (by unfold maxLen; omega) (by omega) hbase w.heap.size rfl ?_
  · have hl : j < qs.length := by
      rcases Nat.lt_or_ge j qs.length with hlt | hge
      · exact hlt
      · rw [List.getElem?_eq_none (by rw [vals_len]; exact hge)] at hj; cases hj
    rw [vals_at qs j hl] at hj
    rw [← hj, Go.WideShapes.add_plain]
    obtain ⟨b', off', e, hc⟩ := hq.cell j hl
    cases e
    exact hc
  · intro g' cap' w' hown' hg hat hlt
    rw [← List.length_append]
    refine h g' cap' w' ⟨?_, bytes_app hown.byte hq.byte⟩ (fun B w0 hB hBb => hB.grown hg (by omega) fun k hk => ?_)
    · rw [vals_app, List.length_append]
      exact hown'
    · have := World.ownsRow.lt hown.own k hk
      omega

/-- A new address, or none. -/
def Fresh (w w' : World) (a : Option Addr) : Prop := a = none ∨ ∃ b off, a = some ⟨b, off, none⟩ ∧ w.heap.size ≤ b ∧ b < w'.heap.size

/-- Bytes handed back, in new memory (or none). -/
def RetB (w : World) (ps : List Nat) (e : Ending) (w' : World) : Prop :=
  ∃ a cap, e = .returned (.slice a ps.length cap) ∧ SeenAt w' a cap ps ∧ Fresh w w' a ∧ Below w.heap.size w w'

theorem RetB.of {w w' : World} {g cap : Nat} {ps : List Nat} (h : OwnB w' w.heap.size g cap ps) (hb : Below w.heap.size w w') : RetB w ps (.returned (.slice (some ⟨g, 0, none⟩) ps.length cap)) w' :=
  ⟨_, _, rfl, h.seenAt, .inr ⟨g, 0, rfl, h.lt⟩, hb⟩

/-- Bytes handed back, in memory of the call's own. -/
def RetO (w : World) (ps : List Nat) (e : Ending) (w' : World) : Prop :=
  ∃ g cap, e = .returned (.slice (some ⟨g, 0, none⟩) ps.length cap) ∧ OwnB w' w.heap.size g cap ps ∧ Below w.heap.size w w'

theorem RetO.toB {w w' : World} {ps : List Nat} {e : Ending} (h : RetO w ps e w') : RetB w ps e w' := by
  obtain ⟨g, cap, rfl, ho, hb⟩ := h
  exact RetB.of ho hb

theorem RetO.later {w w1 : World} {ps qs : List Nat} {e : Ending} {w' : World} (h : RetO w1 ps e w') (hb : Below w.heap.size w w1) (he : ps = qs) : RetO w qs e w' := by
  subst he
  obtain ⟨g, cap, rfl, ho, hb'⟩ := h
  exact ⟨g, cap, rfl, ho.base hb.size, hb.trans (hb'.mono hb.size)⟩

set_option maxHeartbeats 400000 in
theorem folded_any (n : Int) (w : World) (h0 : -9223372036854775808 ≤ n) (h1 : n ≤ 9223372036854775807) :
    Calls Tryz.prog 108 #[.int .i64 n] w fun e w' => e = .returned (.int .u64 ((Pk.fold n : Nat) : Int)) ∧ w = w' := by
  by_cases h : n < 0
  · have HF : Hid ((-1 - n) * 2 + 1 = ((Pk.fold n : Nat) : Int)) := by show _ = _; rw [Pk.fold_neg n h]; omega
    go_enter Tryz.func108, Tryz.ntmps108
    go_wp2
    go_ret
    exact ⟨ret_u64 (by rw [← HF.out]; omega), rfl⟩
  · have HF : Hid (n * 2 = ((Pk.fold n : Nat) : Int)) := by show _ = _; rw [Pk.fold_pos n h]; omega
    have h' : 0 ≤ n := by omega
    go_enter Tryz.func108, Tryz.ntmps108
    go_wp2
    go_ret
    exact ⟨ret_u64 (by rw [← HF.out]; omega), rfl⟩

set_option maxHeartbeats 1000000 in
theorem clone_any (a : Option Addr) (cap l : Nat) (ps : List Nat) (w : World) (hl : ps.length = l) (hm : l ≤ 1000000000) (h : SeenAt w a cap ps) :
    Calls Tryz.prog 52 #[.slice a l cap] w (RetB w ps) := by
  have q22 : ∀ (w : World) (a : Option Addr) (n c n' c' : Nat), (binOp .eql 39 (.slice a n c) (.slice none n' c')).run Tryz.prog w = .ok (.bool a.isNone) w := fun w a n c n' c' => Lib.run_eql_slice_nil w _ _ a n c n' c' Tryz.underlying39
  have HL := Lib.hid hl
  have HS := Lib.hid h
  rcases a with _ | ad
  · have h0 : ps = [] := by
      cases ps with
      | nil => rfl
      | cons c p => obtain ⟨b, off, e, _⟩ := h.cell 0 (by simp); cases e
    subst h0
    obtain rfl : l = 0 := by simpa using hl.symm
    clear hl h HL
    go_enter Tryz.func52, Tryz.ntmps52
    go_wp2
    go_ret
    exact ⟨none, 0, rfl, SeenAt.nil (Nat.zero_le _), .inl rfl, Below.refl _ _⟩
  · clear hl h
    go_enter Tryz.func52, Tryz.ntmps52
    go_wp2_with (at_builtin; refine wpList_appB rfl (.tmp 5) (.tmp 6) rfl w.heap.size w.heap.size 0 [] ps rfl (ownB_lit w _ [] #[] rfl bytes_nil (Nat.le_refl _) (by simp)) _ _ (by rw [HL.out]; rfl) (HS.out.below (below_one _ _)) (by rw [HL.out]; simp; omega) (by simp) ?_; intro g cap2 w2 own2 chg2 hg2)
    have HR : Hid (RetB w ps (.returned (.slice (some ⟨g, 0, none⟩) ps.length cap2)) w2) := RetB.of own2 (chg2.below (below_one w _) (by simp) (by simp))
    clear own2 chg2 hg2
    go_ret
    exact HR.out

theorem zeros_len (k : Nat) : (Builtin.zeroCells #[Value.int .u8 0] k).size = k := by simp [Builtin.zeroCells]

/-- Bytes to be, in new memory: a slice of none of them. -/
def RetG0 (w : World) (e : Ending) (w' : World) : Prop :=
  ∃ g cap, e = .returned (.slice (some ⟨g, 0, none⟩) 0 cap) ∧ OwnB w' w.heap.size g cap [] ∧ Below w.heap.size w w'

set_option maxRecDepth 100000 in
set_option maxHeartbeats 1000000 in
theorem grow_none (n : Nat) (w : World) (h0 : 0 < n) (h1 : n ≤ 1000000000) :
    Calls Tryz.prog 100 #[.slice none 0 0, .int .i64 (n : Int)] w (RetG0 w) := by
  obtain ⟨i, hi, hz, hsz, hby⟩ := info8
  have hold : (Builtin.firstCells i.size 0 (.slice none 0 0)).run Tryz.prog w.drew = .ok ([] : List Value).toArray w.drew := run_firstCells_none w.drew i.size 0 0 0
  have hrz := fun ty => Lib.run_append_grow_zeros w 39 3 ty 5 i (.int .u8 0) .i64 .i64 Tryz.underlying39 Tryz.underlying3 hi hz none 0 0 [] hold n h0 (by omega) (by omega) (by omega) (by rw [hby]; omega)
    (by rw [hby]; exact growslice_fits (by omega) (by omega))
  rw [Nat.zero_add] at hrz
  have hGn : n ≤ grownCap w n 0 5 := grownCap_ge w _ _ _
  have hGm : grownCap w n 0 5 ≤ maxLen := grownCap_le_maxLen w n 0 5 (by unfold maxLen; omega)
  have hR : RetG0 w (.returned (.slice (some ⟨w.heap.size, 0, none⟩) 0 (grownCap w n 0 5))) (w.alloc (.cells (Builtin.zeroCells #[.int .u8 0] n ++ Builtin.zeroCells #[.int .u8 0] (grownCap w n 0 5 - n)) 5)).drew :=
    ⟨_, _, rfl, OwnB.drew ⟨World.ownsRow_made w _ _ (Nat.le_refl _) hGm (by rw [Array.size_append, zeros_len, zeros_len]; omega), bytes_nil⟩, (below_one w _).drew⟩
  generalize grownCap w n 0 5 = G at *
  have HR := Lib.hid hR
  have HZ := Lib.hid hrz
  unfold maxLen at hGm
  clear hR hrz hold hi hz hsz hby
  go_enter Tryz.func100, Tryz.ntmps100
  go_wp2_with (at_builtin; refine Lib.wpList_append_run _ rfl _ _ _ _ rfl _ _ rfl rfl _ _ (HZ.out _) ?_)
  go_ret
  exact HR.out

theorem take_flat (m : List (List Nat)) (k : Nat) (h : k < m.length) : (m.take (k + 1)).flatten = (m.take k).flatten ++ m.getD k [] := by
  rw [List.take_succ_eq_append_getElem h, List.flatten_append, List.getD_eq_getElem?_getD, List.getElem?_eq_getElem h]
  simp

theorem flat_le (m : List (List Nat)) (k : Nat) : (m.take k).flatten.length ≤ m.flatten.length := by
  have : m.flatten = (m.take k).flatten ++ (m.drop k).flatten := by rw [← List.flatten_append, List.take_append_drop]
  rw [this, List.length_append]
  omega

set_option maxRecDepth 100000 in
set_option maxHeartbeats 1000000 in
theorem concat_own (a : Option Addr) (cap l : Nat) (m : List (List Nat)) (w : World) (hl : m.length = l) (h : GridAt w a cap m) (h0 : 0 < m.flatten.length) (h1 : m.flatten.length ≤ 1000000000) :
    Calls Tryz.prog 87 #[.slice a l cap] w (RetO w m.flatten) := by
  have hm : l ≤ maxLen := by have := h.le; have := h.max; omega
  unfold maxLen at hm
  have HL := Lib.hid hl
  have HG := Lib.hid h
  clear hl h
  go_enter Tryz.func87, Tryz.ntmps87
  go_wp2
  go_loop [3, 5, 11] (fun v _ i => ∃ k : Nat, k ≤ l ∧ i = .int .i64 k ∧ v = .int .i64 (((m.take k).flatten.length : Nat) : Int)) (fun _ _ i => l - (intOf i).toNat)
  case atStart => exact ⟨0, Nat.zero_le _, rfl, rfl⟩
  case round =>
    obtain ⟨k, hk, rfl, rfl⟩ := hrel
    have hf := flat_le m k
    by_cases hlt : k < l
    · obtain ⟨b, off, r, rfl, hc, ra, rc, rfl, hS⟩ := HG.out.row k (by rw [HL.out]; exact hlt)
      have hf' := flat_le m (k + 1)
      have HT := Lib.hid (take_flat m k (by rw [HL.out]; exact hlt))
      rw [HT.out, List.length_append] at hf'
      clear hS
      generalize hq : (m.take k).flatten.length = q at *
      have HQ := Lib.hid hq
      clear hq
      generalize hz : (m.getD k []).length = z at *
      have HZ := Lib.hid hz
      clear hz
      have hd : decide ((q : Int) + (z : Int) < 0) = false := by simp; omega
      go_wp2
      go_round
      case rel => exact ⟨k + 1, by omega, by go_num, by rw [HT.out, List.length_append, HQ.out, HZ.out]; go_num⟩
      case measure => simp [intOf]; omega
    · obtain rfl : k = l := by omega
      have HT : Hid (m.take k = m) := List.take_of_length_le (by rw [HL.out]; omega)
      rw [HT.out]
      clear hf
      have HN : Hid (∃ q, q = m.flatten.length) := ⟨_, rfl⟩
      obtain ⟨q, hq⟩ := HN.out
      rw [← hq] at h0 h1 ⊢
      have HQ := Lib.hid hq
      clear hq HN
      go_wp2_with fail
      refine (grow_none q _ h0 h1).mono ?_
      rintro e w1 ⟨g0, c0, rfl, own0, hb0⟩
      have HO : Hid (OwnB w1 w.heap.size g0 c0 (m.take 0).flatten) := own0
      have HB := Lib.hid hb0
      have hb0s := hb0.size
      clear own0 hb0
      go_wp2
      go_loopw [6, 8, 27] (fun v _ i ws => ∃ j g c : Nat, j ≤ k ∧ i = .int .i64 j ∧ v = .slice (some ⟨g, 0, none⟩) (m.take j).flatten.length c ∧ Hid (OwnB ws w.heap.size g c (m.take j).flatten) ∧ Hid (Below w.heap.size w ws)) (fun _ _ i _ => k - (intOf i).toNat)
      case atStart => exact ⟨0, g0, c0, Nat.zero_le _, rfl, rfl, HO, HB⟩
      case round =>
        obtain ⟨j, g, c, hj, rfl, rfl, hO, hB⟩ := hrel
        by_cases hlt' : j < k
        · obtain ⟨b, off, r, rfl, hc, ra, rc, rfl, hS⟩ := (HG.out.below hB.out).row j (by rw [HL.out]; exact hlt')
          have hf' := flat_le m (j + 1)
          have HT' := Lib.hid (take_flat m j (by rw [HL.out]; exact hlt'))
          rw [HT'.out, List.length_append, ← HQ.out] at hf'
          have HS := Lib.hid hS
          have HO' := Lib.hid hO.out
          have hsz := hB.out.size
          clear hS
          go_wp2_with (at_builtin; refine wpList_appB rfl (.tmp 31) (.tmp 32) rfl w.heap.size g c (m.take j).flatten (m.getD j []) rfl HO'.out _ _ rfl HS.out (by omega) hsz ?_; intro g3 cap3 w3 own3 chg3 hg3)
          have HO3 : Hid (OwnB w3 w.heap.size g3 cap3 (m.take (j + 1)).flatten) := by show OwnB _ _ _ _ _; rw [HT'.out]; exact own3
          have HB3 : Hid (Below w.heap.size w w3) := chg3.below hB.out hB.out.size (by simp; exact HO'.out.lt.1)
          clear own3 chg3 hg3
          go_roundw
          case rel => exact ⟨j + 1, g3, cap3, by omega, by go_num, by rw [HT'.out]; simp [List.length_flatten, List.map_take], HO3, HB3⟩
          case measure => simp [intOf]; omega
        · obtain rfl : j = k := by omega
          have HR : Hid (RetO w m.flatten (.returned (.slice (some ⟨g, 0, none⟩) m.flatten.length c)) wr) := by
            have := hO.out
            rw [HT.out] at this
            exact ⟨g, c, rfl, this, hB.out⟩
          rw [HT.out]
          clear hO
          go_wp2
          go_ret
          exact HR.out

theorem concat_any (a : Option Addr) (cap l : Nat) (m : List (List Nat)) (w : World) (hl : m.length = l) (h : GridAt w a cap m) (h0 : 0 < m.flatten.length) (h1 : m.flatten.length ≤ 1000000000) :
    Calls Tryz.prog 87 #[.slice a l cap] w (RetB w m.flatten) := (concat_own a cap l m w hl h h0 h1).mono fun _ _ h => h.toB

theorem fold_chain {u0 k U : Nat} {cs : List Nat} (h : Pk.encN 9 u0 = cs ++ Pk.encN (k + 1) U) (hU : ¬ U < 128) : Pk.encN 9 u0 = (cs ++ [U % 128 + 128]) ++ Pk.encN k (U / 128) := by
  rw [h, Pk.encN_big k U hU, List.append_assoc]
  rfl

theorem seen_byte (w : World) (c : Nat) (hc : c < 256) : SeenAt (w.alloc (.cells #[.int .u8 (c : Int)] 5)) (some ⟨w.heap.size, 0, none⟩) 1 [c] :=
  (ownB_lit w w.heap.size [c] #[.int .u8 (c : Int)] rfl (by intro x hx; simp at hx; omega) (Nat.le_refl _) (by unfold maxLen; simp)).seenAt

set_option maxRecDepth 100000 in
set_option maxHeartbeats 1000000 in
theorem number_any (n : Int) (w : World) (h0 : -9223372036854775808 ≤ n) (h1 : n ≤ 9223372036854775807) :
    Calls Tryz.prog 107 #[.int .i64 n] w (RetB w (Pk.num n)) := by
  have hf := Pk.fold_lt n h0 h1
  have HN : Hid (Pk.num n = Pk.encN 9 (Pk.fold n)) := rfl
  go_enter Tryz.func107, Tryz.ntmps107
  go_wp2_with fail
  refine (folded_any n _ h0 h1).mono ?_
  rintro e w' ⟨rfl, rfl⟩
  generalize Pk.fold n = u0 at *
  go_wp2
  go_loopw [3, 4] (fun v u ws => ∃ (k U : Nat) (cs : List Nat), k ≤ 9 ∧ cs.length + k = 9 ∧ U < 18446744073709551616 ∧ u = .int .u64 (U : Int) ∧ Hid (U < 128 ^ (k + 1)) ∧ Hid (Pk.encN 9 u0 = cs ++ Pk.encN k U) ∧ Hid (RowB ws w.heap.size v cs) ∧ Hid (Below w.heap.size w ws)) (fun _ u _ => (intOf u).toNat)
  case atStart => exact ⟨9, u0, [], Nat.le_refl _, rfl, hf, rfl, Nat.lt_of_lt_of_le hf (by decide), rfl, RowB.none _ _, Below.refl _ _⟩
  case round =>
    obtain ⟨k, U, cs, hk, hcs, hU, rfl, HU, HE, HR, HB⟩ := hrel
    have hsz := HB.out.size
    by_cases hlt : U < 128
    · have hd : decide ((128 : Int) ≤ (U : Int)) = false := by simp; omega
      have hm : (U : Int) % 256 = (U : Int) := by omega
      go_wp2_with (at_builtin; refine wpList_appR rfl (.tmp 18) (.tmp 21) rfl w.heap.size _ cs [U] rfl (HR.out.below (below_one _ _)) _ 1 rfl (seen_byte _ U (by omega)) (by simp) (by simp; omega) (by simp; omega) ?_; intro g3 cap3 w3 own3 hb3)
      have HR3 : Hid (RetB w (Pk.num n) (.returned (.slice (some ⟨g3, 0, none⟩) (cs.length + 1) cap3)) w3) := by
        show RetB _ _ _ _
        have e : Pk.num n = cs ++ [U] := by rw [HN.out, HE.out, Pk.encN_small k U hlt]
        have := RetB.of own3 (hb3 _ _ (HB.out.alloc hsz _) (Nat.le_refl _))
        rw [e]
        rw [List.length_append] at this
        exact this
      clear own3 hb3
      go_ret
      exact HR3.out
    · have hd : decide ((128 : Int) ≤ (U : Int)) = true := by simp; omega
      obtain ⟨j, rfl⟩ : ∃ j, k = j + 1 := by
        cases k with
        | zero => have := HU.out; simp at this; omega
        | succ j => exact ⟨j, rfl⟩
      have HE' := Lib.hid (fold_chain HE.out hlt)
      have HU' : Hid (U / 128 < 128 ^ (j + 1)) := by
        show _ < _
        have := HU.out
        rw [Nat.pow_succ] at this
        omega
      obtain ⟨c, hc⟩ : ∃ c, c = U % 128 + 128 := ⟨_, rfl⟩
      have hc1 : c < 256 := by omega
      have hm : (U : Int) % 128 + 128 = (c : Int) := by omega
      rw [← hc] at HE'
      clear hc
      have HD : Hid ((U : Int) / 128 = ((U / 128 : Nat) : Int)) := by show _ = _; omega
      clear HE HU
      go_wp2_with (at_builtin; (refine wpList_appR rfl (.tmp 11) (.tmp 16) rfl w.heap.size _ cs [c] rfl (HR.out.below (below_one _ _)) _ 1 rfl (seen_byte _ c hc1) (by simp) (by simp; omega) (by simp; omega) ?_); intro g3 cap3 w3 own3 hb3)
      have HR3 : Hid (RowB w3 w.heap.size (.slice (some ⟨g3, 0, none⟩) (cs.length + 1) cap3) (cs ++ [c])) := by
        have := own3.row
        rw [List.length_append] at this
        exact this
      have HB3 := Lib.hid (hb3 _ _ (HB.out.alloc hsz _) (Nat.le_refl _))
      clear own3 hb3
      go_roundw
      case rel => exact ⟨j, U / 128, cs ++ [c], by omega, by simp; omega, by omega, by rw [← HD.out], HU', HE', HR3, HB3⟩
      case measure => simp [intOf]; omega

theorem SeenAt.lit {w : World} {a : Option Addr} {cap : Nat} {ps : List Nat} (h : SeenAt w a cap ps) (o : Obj) : SeenAt (w.alloc o) a cap ps := h.below (below_one w o)

theorem rows_two {w : World} {a0 a1 : Option Addr} {c0 c1 : Nat} {ps qs : List Nat} (h0 : SeenAt w a0 c0 ps) (h1 : SeenAt w a1 c1 qs) :
    GridAt (w.alloc (.cells #[.slice a0 ps.length c0, .slice a1 qs.length c1] 39)) (some ⟨w.heap.size, 0, none⟩) 2 [ps, qs] where
  le := Nat.le_refl _
  max := by unfold maxLen; omega
  row i hi := by
    match i, hi with
    | 0, _ => exact ⟨_, 0, _, rfl, by rw [World.cell?_alloc_mark]; rfl, _, _, rfl, h0.lit _⟩
    | 1, _ => exact ⟨_, 0, _, rfl, by rw [World.cell?_alloc_mark]; rfl, _, _, rfl, h1.lit _⟩

theorem rows_three {w : World} {a0 a1 a2 : Option Addr} {c0 c1 c2 : Nat} {ps qs rs : List Nat} (h0 : SeenAt w a0 c0 ps) (h1 : SeenAt w a1 c1 qs) (h2 : SeenAt w a2 c2 rs) :
    GridAt (w.alloc (.cells #[.slice a0 ps.length c0, .slice a1 qs.length c1, .slice a2 rs.length c2] 39)) (some ⟨w.heap.size, 0, none⟩) 3 [ps, qs, rs] where
  le := Nat.le_refl _
  max := by unfold maxLen; omega
  row i hi := by
    match i, hi with
    | 0, _ => exact ⟨_, 0, _, rfl, by rw [World.cell?_alloc_mark]; rfl, _, _, rfl, h0.lit _⟩
    | 1, _ => exact ⟨_, 0, _, rfl, by rw [World.cell?_alloc_mark]; rfl, _, _, rfl, h1.lit _⟩
    | 2, _ => exact ⟨_, 0, _, rfl, by rw [World.cell?_alloc_mark]; rfl, _, _, rfl, h2.lit _⟩

theorem RetB.later {w w1 : World} {ps qs : List Nat} {e : Ending} {w' : World} (h : RetB w1 ps e w') (hb : Below w.heap.size w w1) (he : ps = qs) : RetB w qs e w' := by
  subst he
  obtain ⟨a, cap, rfl, hs, hn, hb'⟩ := h
  refine ⟨a, cap, rfl, hs, ?_, hb.trans (hb'.mono hb.size)⟩
  rcases hn with e | ⟨b, off, e, h1, h2⟩
  · exact .inl e
  · exact .inr ⟨b, off, e, Nat.le_trans hb.size h1, h2⟩

set_option maxHeartbeats 1000000 in
theorem packNum_own (a : Option Addr) (cap l : Nat) (ps : List Nat) (n : Int) (w : World) (hl : ps.length = l) (hm : l ≤ 100000000) (h : SeenAt w a cap ps) (h0 : -9223372036854775808 ≤ n) (h1 : n ≤ 9223372036854775807) :
    Calls Tryz.prog 103 #[.slice a l cap, .int .i64 n] w (RetO w (ps ++ Pk.num n)) := by
  have HL := Lib.hid hl
  have HS := Lib.hid h
  have HN := Lib.hid (Pk.num_len n)
  clear hl h
  go_enter Tryz.func103, Tryz.ntmps103
  go_wp2_with fail
  refine (number_any n _ h0 h1).mono ?_
  rintro e w1 ⟨a1, c1, rfl, hs1, _, hb1⟩
  have HG := Lib.hid (rows_two (HS.out.below hb1) hs1)
  have HB := Lib.hid hb1
  rw [HL.out] at HG
  clear hs1 hb1
  go_wp2_with fail
  refine (concat_own _ 2 2 _ _ rfl HG.out ?_ ?_).mono ?_
  · have := HN.out; simp; omega
  · have := HN.out; have := HL.out; simp; omega
  · intro e w2 h2
    have HR := Lib.hid (h2.later (HB.out.alloc HB.out.size _) (qs := ps ++ Pk.num n) (by simp))
    obtain ⟨a2, c2, rfl, _⟩ := h2
    clear HG
    generalize ([ps, Pk.num n].flatten).length = q at *
    go_wp2
    go_ret
    exact HR.out

theorem packNum_any (a : Option Addr) (cap l : Nat) (ps : List Nat) (n : Int) (w : World) (hl : ps.length = l) (hm : l ≤ 100000000) (h : SeenAt w a cap ps) (h0 : -9223372036854775808 ≤ n) (h1 : n ≤ 9223372036854775807) :
    Calls Tryz.prog 103 #[.slice a l cap, .int .i64 n] w (RetB w (ps ++ Pk.num n)) := (packNum_own a cap l ps n w hl hm h h0 h1).mono fun _ _ h => h.toB

set_option maxHeartbeats 1000000 in
theorem packText_own (a a' : Option Addr) (cap cap' l l' : Nat) (ps qs : List Nat) (w : World) (hl : ps.length = l) (hl' : qs.length = l') (hm : l ≤ 100000000) (hm' : l' ≤ 100000000) (h : SeenAt w a cap ps) (h' : SeenAt w a' cap' qs) :
    Calls Tryz.prog 104 #[.slice a l cap, .slice a' l' cap'] w (RetO w (ps ++ Pk.txt qs)) := by
  have HL := Lib.hid hl
  have HL' := Lib.hid hl'
  have HS := Lib.hid h
  have HS' := Lib.hid h'
  have HN := Lib.hid (Pk.num_len (l' : Int))
  have HT : Hid (Pk.txt qs = Pk.num (l' : Int) ++ qs) := by show _ = _; unfold Pk.txt; rw [hl']
  clear hl hl' h h'
  go_enter Tryz.func104, Tryz.ntmps104
  go_wp2_with fail
  refine (number_any (l' : Int) _ (by omega) (by omega)).mono ?_
  rintro e w1 ⟨a1, c1, rfl, hs1, _, hb1⟩
  have HG := Lib.hid (rows_three (HS.out.below hb1) hs1 (HS'.out.below hb1))
  have HB := Lib.hid hb1
  rw [HL.out, HL'.out] at HG
  clear hs1 hb1
  go_wp2_with fail
  refine (concat_own _ 3 3 _ _ rfl HG.out ?_ ?_).mono ?_
  · have := HN.out; simp; omega
  · have := HN.out; have := HL.out; have := HL'.out; simp; omega
  · intro e w2 h2
    have HR := Lib.hid (h2.later (HB.out.alloc HB.out.size _) (qs := ps ++ Pk.txt qs) (by rw [HT.out]; simp))
    obtain ⟨a2, c2, rfl, _⟩ := h2
    clear HG
    generalize ([ps, Pk.num (l' : Int), qs].flatten).length = q at *
    go_wp2
    go_ret
    exact HR.out

theorem packText_any (a a' : Option Addr) (cap cap' l l' : Nat) (ps qs : List Nat) (w : World) (hl : ps.length = l) (hl' : qs.length = l') (hm : l ≤ 100000000) (hm' : l' ≤ 100000000) (h : SeenAt w a cap ps) (h' : SeenAt w a' cap' qs) :
    Calls Tryz.prog 104 #[.slice a l cap, .slice a' l' cap'] w (RetB w (ps ++ Pk.txt qs)) := (packText_own a a' cap cap' l l' ps qs w hl hl' hm hm' h h').mono fun _ _ h => h.toB

theorem txt_bytes (ps : List Nat) (h : Gf.Bytes ps) (hl : ps.length ≤ 1000000000) : Gf.Bytes (Pk.txt ps) := bytes_app (Pk.num_bytes _ (by omega) (by omega)) h

end Go.Proofs.YtdgpbdedaafdiaaGreat
