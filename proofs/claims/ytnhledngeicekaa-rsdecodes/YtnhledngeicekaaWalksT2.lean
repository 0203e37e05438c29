/-
  Layer 3: the reference's Check.
-/
import Derived.Test.YtnhledngeicekaaWalksS7
import Derived.Maps.OwnSet
namespace Go.Proofs.Ytnhledngeicekaa
open Go.RowKit Go.Maps

/-- Block b is a map whose keys are ps. -/
def SetC (w : World) (b n : Nat) (ps : List Int) : Prop :=
  ∃ D : DataW Unit, Tidy D ∧ w.ownsMap Try.prog 3 (plainElem Try.prog 4) b n D ∧ (∀ x : Int, has D (.int .i64 x) = decide (x ∈ ps)) ∧ Maps.size D = ps.length

theorem setC_made (w : World) : SetC (w.alloc (.map #[] 0)) w.heap.size 0 [] :=
  ⟨.map [], tidy_empty, World.ownsMap_made w _ _ _, fun _ => rfl, rfl⟩

theorem SetC.lt {w : World} {b n : Nat} {ps : List Int} (h : SetC w b n ps) : b < w.heap.size := by obtain ⟨D, _, hD, _⟩ := h; exact hD.lt

theorem SetC.alike {w w' : World} {b n : Nat} {ps : List Int} (h : SetC w b n ps) (e : w'.heap = w.heap) : SetC w' b n ps := by
  obtain ⟨D, hm, ⟨es, clock, hg, F, hs, hD⟩, hk⟩ := h
  exact ⟨D, hm, ⟨es, clock, by rw [e]; exact hg, F, hs, hD⟩, hk⟩

/-- m[x] = true. -/
theorem wpList_putC {ops : Array Oper} {rest : List Oper} {o : Oper} {a : Act} {Q : Exit → Act → World → Prop} {w : World} (hgd : o.guard = none) (m x v : Operand)
    (ho : o.op = Op.mapUpdate 58 m x v) (b n : Nat) (ps : List Int) (hm : a.eval m = .map (some b)) (hown : SetC w b n ps) (k : Int) (hx : a.eval x = .int .i64 k) (hk : (Lit.int .i64 k).wf = true) (hv : a.eval v = .bool true) (hn : n < 1000000000)
    (h : ∀ w', SetC w' b (n + 1) (if k ∈ ps then ps else ps ++ [k]) → Chg [b] w w' → wpList Try.prog ops Q rest (a.put o.dst undef) w') : wpList Try.prog ops Q (o :: rest) a w := by
  obtain ⟨D, hDm, hD, hS, hl⟩ := hown
  refine wpList_mapUpdate_own w hgd m x v 58 ho 3 4 (int_keyed Try.underlying3) Try.underlying58 _ b n D hm hD (by unfold maxLen; omega) _ _ (.int .i64 k) hx hv (keyOf_int_mk Try.underlying3 hk) _ _ (plainElem_bool Try.underlying4 true) ?_
  intro w' hD' hg
  have hkl : WideAt.IsKeyLit (.int .i64 k) := by simp [WideAt.IsKeyLit]
  refine h w' ⟨_, hDm.put hkl _, hD', fun j => ?_, ?_⟩ (Chg.of_grown hg)
  · by_cases e : j = k
    · subst e
      rw [has_put_same hDm.isMap hkl]
      split
      · rename_i hin; simpa using hin
      · simp
    · rw [has_put_other (by intro h'; cases h'; exact e rfl), hS j]
      split
      · rfl
      · simp [e]
  · rw [size_put hDm, hS k, hl]
    by_cases e : k ∈ ps
    · rw [if_pos e, if_pos (by simpa using e)]
    · rw [if_neg e, if_neg (by simpa using e)]; simp

/-- len(m). -/
theorem wpList_lenC {ops : Array Oper} {rest : List Oper} {o : Oper} {a : Act} {Q : Exit → Act → World → Prop} {w : World} (hgd : o.guard = none) (m : Operand)
    (ho : o.op = Op.call { callee := Callee.builtin Builtin.len, args := #[m], argTypes := #[58] }) (b n : Nat) (ps : List Int) (hm : a.eval m = .map (some b)) (hown : SetC w b n ps)
    (h : wpList Try.prog ops Q rest (a.put o.dst (.int .i64 (ps.length : Int))) w) : wpList Try.prog ops Q (o :: rest) a w := by
  obtain ⟨D, _, hD, _, hl⟩ := hown
  refine wpList_len_own w hgd m 58 ho 3 4 Try.underlying58 _ b n D hm hD ?_
  rw [hl]
  exact h

theorem poss_len (fs : List Fr) : (poss fs).length = fs.length := by simp [poss]

theorem check_no (k m : Int) (v : Value) (w : World) (h : ¬ May k m) :
    Calls Try.prog 21 #[.int .i64 k, .int .i64 m, v] w fun e w' => e = .returned (.int .i64 3) ∧ w = w' := by
  have HN := Lib.hid (fun w => may_no k m w h)
  clear h
  go_enter Try.func21, Try.ntmps21
  go_wp2_with fail
  refine (HN.out _).mono ?_
  rintro e w' ⟨rfl, rfl⟩
  go_wp2
  go_ret
  exact ⟨rfl, rfl⟩

/-- What Check says where the code is one. -/
def CkPost (w : World) (k n : Nat) (fs : List Fr) (e : Ending) (w' : World) : Prop :=
  Below w.heap.size w w' ∧
  ((¬ Good n fs ∧ e = .returned (.int .i64 2)) ∨ (Good n fs ∧ (firsts fs).length < k ∧ e = .returned (.int .i64 10)) ∨ (Good n fs ∧ k ≤ (firsts fs).length ∧ e = .returned (.int .i64 0)))



set_option maxRecDepth 100000 in
set_option maxHeartbeats 8000000 in
theorem check_any (fa : Option Addr) (fc l k m n : Nat) (fs : List Fr) (w : World) (hF : FrsAt w fa fc fs) (hl : fs.length = l) (hl2 : l ≤ 100000000) (hk : 1 ≤ k) (hn : k + m = n) (hn2 : n ≤ 255) :
    Calls Try.prog 21 #[.int .i64 (k : Int), .int .i64 (m : Int), .slice fa l fc] w (CkPost w k n fs) := by
  have HF := Lib.hid hF
  have HL := Lib.hid hl
  have HMY := Lib.hid (fun w => may_yes (k : Int) (m : Int) w ⟨by omega, by omega, by omega⟩)
  have hkk : k ≤ 255 := by omega
  have hmm : m ≤ 255 := by omega
  have HN := Lib.hid hn
  have hmk := @run_makeMap Try.prog
  clear hF hl hn
  go_enter Try.func21, Try.ntmps21
  go_wp2_with fail
  refine (HMY.out _).mono ?_
  rintro e w' ⟨rfl, rfl⟩
  have HS0 := Lib.hid (setC_made w)
  obtain ⟨B, hB⟩ : ∃ B, B = w.heap.size := ⟨_, rfl⟩
  rw [← hB] at HS0
  go_wp2
  rw [← hB]
  clear hmk
  have hwB : w.heap.size ≤ B := by omega
  clear hB
  go_loopw [8] (fun i ws => ∃ j : Nat, j ≤ l ∧ i = .int .i64 j ∧ Hid (Below w.heap.size w ws) ∧ Hid (GoodTo n fs j) ∧ Hid (SetC ws B j (poss (firsts (fs.take j))))) (fun i _ => l - (intOf i).toNat)
  case atStart => exact ⟨0, Nat.zero_le _, rfl, below_one _ _, fun q hq => by omega, HS0⟩
  case round =>
    obtain ⟨j, hj, rfl, hb, hG, hM⟩ := hrel
    have hbz := hb.out.size
    by_cases hlt : j < l
    · obtain ⟨b2, off2, e, hc0, hc1, hS⟩ := HF.out.el j (by rw [HL.out]; exact hlt)
      subst e
      obtain ⟨b3, off3, e, _, hz1, hS0⟩ := HF.out.el 0 (by rw [HL.out]; omega)
      cases e
      have hq0 := cell_later hb.out hc0
      have hq1 := cell_later hb.out hc1
      have hq2 := cell_later hb.out hz1
      rw [show off2 + 0 * 2 + 1 = off2 + 1 by omega] at hq2
      have hle := Nat.le_trans hS.le hS.max
      have hle0 := Nat.le_trans hS0.le hS0.max
      unfold maxLen at hle hle0
      have HWF := Lib.hid (HF.out.wf _ (getD_mem fs j fr0 (by rw [HL.out]; exact hlt)))
      have HPS : Hid (poss (firsts (fs.take (j + 1))) = if (fs.getD j fr0).pos ∈ poss (firsts (fs.take j)) then poss (firsts (fs.take j)) else poss (firsts (fs.take j)) ++ [(fs.getD j fr0).pos]) := by
        show _ = _
        rw [firsts_step fs j (by rw [HL.out]; exact hlt), fst1_poss]
      generalize hpf : poss (firsts (fs.take j)) = pf at *
      clear hpf hc0 hc1 hz1 hS hS0
      have j0 : (0 : Int) ≤ (j : Int) := by omega
      have j1 : (j : Int) < (l : Int) := by omega
      have l0 : (0 : Int) < (l : Int) := by omega
      by_cases hp1 : 0 ≤ (fs.getD j fr0).pos
      · have t1 : decide ((fs.getD j fr0).pos < 0) = false := by simpa using hp1
        by_cases hp2 : (fs.getD j fr0).pos < (n : Int)
        · have t2 : decide ((k : Int) + (m : Int) ≤ (fs.getD j fr0).pos) = false := by have := HN.out; have hh : ¬ (k : Int) + (m : Int) ≤ (fs.getD j fr0).pos := (by omega); exact decide_eq_false hh
          by_cases hg2 : (fs.getD j fr0).data.length = (fs.getD 0 fr0).data.length
          · have HG2 := Lib.hid (hG.out.more ⟨hp1, hp2⟩ hg2)
            rw [hg2] at hq1 hle
            clear hg2 hp1 hp2
            generalize (fs.getD 0 fr0).data.length = q at *
            generalize (fs.getD j fr0).pos = p at *
            generalize (fs.getD j fr0).loc = la at *
            generalize (fs.getD j fr0).cap = lc at *
            generalize (fs.getD 0 fr0).loc = la0 at *
            generalize (fs.getD 0 fr0).cap = lc0 at *
            have t : ((q : Int) != (q : Int)) = false := by simp
            go_wp2
            go_quiet (fail)
            have hq0' : (wr.drewN nq).cell? ⟨b2, off2 + j * 2, none⟩ = some (.int .i64 p) := hq0
            have HM2 := Lib.hid (hM.out.alike (w' := wr.drewN nq) rfl)
            have HB2 := Lib.hid (hb.out.trans ((below_drewN wr nq).mono hbz))
            have hbz2 := HB2.out.size
            clear hq0 hq1 hq2 hb hM t t1 t2
            generalize wr.drewN nq = wq at *
            go_wp2_with (at_mapUpdate; refine wpList_putC rfl (.tmp 51) (.tmp 56) _ rfl B j pf rfl HM2.out p rfl HWF.out rfl (by omega) ?_; intro w4 hM4 hC4)
            go_round
            case rel => exact ⟨j + 1, by omega, by go_num, hC4.below HB2.out hbz2 (by simpa using hwB), HG2, by rw [HPS.out]; exact hM4⟩
            case measure => simp [intOf]; omega
          · have HNG : Hid (¬ Good n fs) := fun h => hg2 (h j (by rw [HL.out]; exact hlt)).2
            have t := ibne hg2
            clear hg2 hp1 hp2
            generalize (fs.getD 0 fr0).data.length = q at *
            generalize (fs.getD j fr0).data.length = q' at *
            generalize (fs.getD j fr0).pos = p at *
            generalize (fs.getD j fr0).loc = la at *
            generalize (fs.getD j fr0).cap = lc at *
            generalize (fs.getD 0 fr0).loc = la0 at *
            generalize (fs.getD 0 fr0).cap = lc0 at *
            go_wp2
            go_quiet (fail)
            go_wp2
            go_ret
            exact ⟨hb.out.trans ((below_drewN _ _).mono hb.out.size), .inl ⟨HNG.out, rfl⟩⟩
        · have HNG : Hid (¬ Good n fs) := fun h => hp2 (h j (by rw [HL.out]; exact hlt)).1.2
          have t2 : decide ((k : Int) + (m : Int) ≤ (fs.getD j fr0).pos) = true := by have := HN.out; have hh : (k : Int) + (m : Int) ≤ (fs.getD j fr0).pos := (by omega); exact decide_eq_true hh
          clear hp1 hp2
          generalize (fs.getD 0 fr0).data.length = q at *
          generalize (fs.getD j fr0).data.length = q' at *
          generalize (fs.getD j fr0).pos = p at *
          generalize (fs.getD j fr0).loc = la at *
          generalize (fs.getD j fr0).cap = lc at *
          generalize (fs.getD 0 fr0).loc = la0 at *
          generalize (fs.getD 0 fr0).cap = lc0 at *
          go_wp2
          go_quiet (fail)
          go_wp2
          go_ret
          exact ⟨hb.out.trans ((below_drewN _ _).mono hb.out.size), .inl ⟨HNG.out, rfl⟩⟩
      · have HNG : Hid (¬ Good n fs) := fun h => hp1 (h j (by rw [HL.out]; exact hlt)).1.1
        have t1 : decide ((fs.getD j fr0).pos < 0) = true := by have hh : (fs.getD j fr0).pos < 0 := (by omega); exact decide_eq_true hh
        clear hp1
        generalize (fs.getD 0 fr0).data.length = q at *
        generalize (fs.getD j fr0).data.length = q' at *
        generalize (fs.getD j fr0).pos = p at *
        generalize (fs.getD j fr0).loc = la at *
        generalize (fs.getD j fr0).cap = lc at *
        generalize (fs.getD 0 fr0).loc = la0 at *
        generalize (fs.getD 0 fr0).cap = lc0 at *
        go_wp2
        go_quiet (fail)
        go_wp2
        go_ret
        exact ⟨hb.out.trans ((below_drewN _ _).mono hb.out.size), .inl ⟨HNG.out, rfl⟩⟩
    · obtain rfl : j = l := by omega
      have HGD : Hid (Good n fs) := fun i hi => hG.out i (by rw [HL.out] at hi; exact hi)
      have HTK : Hid (firsts (fs.take j) = firsts fs) := by show _ = _; rw [List.take_of_length_le (by rw [HL.out]; omega)]
      rw [HTK.out] at hM
      obtain ⟨r, hr⟩ : ∃ r, (firsts fs).length = r := ⟨_, rfl⟩
      have HR := Lib.hid hr
      have HPL : Hid ((poss (firsts fs)).length = r) := by show _ = _; rw [poss_len, hr]
      clear hG hr
      by_cases hlk : r < k
      · have HLK : Hid ((firsts fs).length < k) := by show _ < _; rw [HR.out]; exact hlk
        have d1 : decide ((r : Int) < (k : Int)) = true := by simp; omega
        have d2 : decide (r < k) = true := by simp; omega
        clear hlk
        go_wp2_with (at_len; refine wpList_lenC rfl (.tmp 57) rfl B j _ rfl hM.out ?_; rw [HPL.out])
        go_ret
        exact ⟨hb.out, .inr (.inl ⟨HGD.out, HLK.out, rfl⟩)⟩
      · have HLK : Hid (k ≤ (firsts fs).length) := by show _ ≤ _; rw [HR.out]; omega
        have d1 : decide ((r : Int) < (k : Int)) = false := by simp; omega
        have d2 : decide (r < k) = false := by simp; omega
        clear hlk
        go_wp2_with (at_len; refine wpList_lenC rfl (.tmp 57) rfl B j _ rfl hM.out ?_; rw [HPL.out])
        go_ret
        exact ⟨hb.out, .inr (.inr ⟨HGD.out, HLK.out, rfl⟩)⟩

end Go.Proofs.Ytnhledngeicekaa
