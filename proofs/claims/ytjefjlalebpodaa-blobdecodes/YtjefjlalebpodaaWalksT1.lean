/-
  Layer 3: the reference's Fragment.
  Layer 3: the reference's Check.
  Layer 3: the reference's First.
-/
import Derived.Test.YtjefjlalebpodaaWalksS1
import Derived.Test.YtjefjlalebpodaaWalksS5
import Derived.Maps.OwnSet
namespace Go.Proofs.Ytjefjlalebpodaa
open Go.RowKit

/-- The first q bytes of a fragment. -/
def fragK (s : List (List Nat)) (p q : Nat) : List Nat := (List.range q).map fun j => Mt.lagr (colv s j) p
theorem fragK_len (s : List (List Nat)) (p q : Nat) : (fragK s p q).length = q := by simp [fragK]
theorem fragK_succ (s : List (List Nat)) (p q : Nat) : fragK s p (q + 1) = fragK s p q ++ [Mt.lagr (colv s q) p] := by simp [fragK, List.range_succ]

/-- The first i bytes of a column. -/
def colK (s : List (List Nat)) (j i : Nat) : List Nat := (List.range i).map fun i => Mt.en s i j
theorem colK_len (s : List (List Nat)) (j i : Nat) : (colK s j i).length = i := by simp [colK]
theorem colK_succ (s : List (List Nat)) (j i : Nat) : colK s j (i + 1) = colK s j i ++ [Mt.en s i j] := by simp [colK, List.range_succ]

/-- What Fragment hands back. -/
def FragPost (w : World) (s : List (List Nat)) (p : Nat) (e : Ending) (w' : World) : Prop :=
  ∃ g cap, e = .returned (.slice (some ⟨g, 0, none⟩) (frag s p).length cap) ∧ SeenAt w' (some ⟨g, 0, none⟩) cap (frag s p) ∧ Below w.heap.size w w'

set_option maxRecDepth 100000 in
set_option maxHeartbeats 4000000 in
theorem fragment_any (va : Option Addr) (vc l k p : Nat) (s : List (List Nat)) (w : World) (hG : GridAt w va vc s) (hl : s.length = l) (hl1 : 1 ≤ l) (hl2 : l ≤ 256) (hr : ∀ i, i < l → (s.getD i []).length = k) (hk : k ≤ 1000000) (hp : p < 256) :
    Calls Try.prog 28 #[.slice va l vc, .int .i64 (p : Int)] w (FragPost w s p) := by
  obtain ⟨b0, off, ra0, rc0, e, hcr, _⟩ := hG.at 0 (by omega)
  rw [Nat.add_zero, hr 0 (by omega)] at hcr
  subst e
  have HG := Lib.hid hG
  have HL := Lib.hid hl
  have HR := Lib.hid hr
  have HCR := Lib.hid hcr
  have HBY := Lib.hid hG.by
  have HFE : Hid (fragK s p k = frag s p) := by show _ = _; unfold frag fragK; rw [hr 0 (by omega)]
  have l0 : (0 : Int) < (l : Int) := by omega
  clear hG hl hr hcr
  have HN0 := Lib.hid (ownB_lit w w.heap.size [] #[] rfl bytes_nil (Nat.le_refl _) (by unfold maxLen; simp))
  go_enter Try.func28, Try.ntmps28
  go_wp2
  go_loopw [5, 6, 7, 8] (fun t i _ _ ws => ∃ (q b y : Nat), q ≤ k ∧ i = .int .i64 q ∧ t = .slice (some ⟨b, 0, none⟩) q y ∧ Hid (OwnB ws w.heap.size b y (fragK s p q)) ∧ Hid (Below w.heap.size w ws)) (fun _ i _ _ _ => k - (intOf i).toNat)
  case atStart => exact ⟨0, _, _, Nat.zero_le _, rfl, rfl, HN0, below_one _ _⟩
  case round =>
    obtain ⟨q, b, y, hq, rfl, rfl, hO, hb⟩ := hrel
    have hbz := hb.out.size
    have hc0 := cell_later hb.out HCR.out
    by_cases hlt : q < k
    · generalize wr = wo at *
      have HN := Lib.hid (ownB_lit wo w.heap.size [] #[] rfl bytes_nil hbz (by unfold maxLen; simp))
      go_wp2
      go_loopw [7, 8] (fun t i ws => ∃ (c b2 y2 : Nat), c ≤ l ∧ i = .int .i64 c ∧ t = .slice (some ⟨b2, 0, none⟩) c y2 ∧ Hid (OwnB ws w.heap.size b2 y2 (colK s q c)) ∧ Hid (Below wo.heap.size wo ws) ∧ wo.heap.size ≤ b2) (fun _ i _ => l - (intOf i).toNat)
      case atStart => exact ⟨0, wo.heap.size, 0, Nat.zero_le _, rfl, rfl, HN, below_one _ _, Nat.le_refl _⟩
      case round =>
        obtain ⟨c, b2, y2, hc, rfl, rfl, hB, hbl, hbo⟩ := hrel
        have hbq := hbl.out.size
        have HCL := Lib.hid (colK_len s q c)
        by_cases hlc : c < l
        · have HS := Lib.hid (colK_succ s q c)
          obtain ⟨b', off', ra, rc, e, hcj0, hSj⟩ := HG.out.at c (by rw [HL.out]; exact hlc)
          cases e
          have hbw := hb.out.trans (hbl.out.mono hbz)
          have hcj := cell_later hbw hcj0
          rw [HR.out c hlc] at hcj
          obtain ⟨xb, xoff, e, hx0⟩ := hSj.cell q (by rw [HR.out c hlc]; exact hlt)
          subst e
          have hx1 := cell_later hbw hx0
          have hx : wr.cell? ⟨xb, xoff + q, none⟩ = some (.int .u8 ((Mt.en s c q : Nat) : Int)) := hx1
          have hxb := HBY.out.lt c q
          clear hcj0 hSj hbw hx0 hx1
          generalize Mt.en s c q = x at *
          have i1 : (0 : Int) ≤ (c : Int) := by omega
          have i2 : (c : Int) < (l : Int) := by omega
          have i3 : (0 : Int) ≤ (q : Int) := by omega
          have i4 : (q : Int) < (k : Int) := by omega
          go_wp2_with (at_builtin; refine wpList_appN rfl (.tmp 25) (.tmp 33) rfl w.heap.size b2 y2 (colK s q c) [x] c 1 HCL.out rfl rfl (hB.out.chg (gs := []) ((Chg.refl _ _).alloc _) (by simp)) _ _ rfl (seen_one _ _ _ hxb rfl) (by omega) (by simp; omega) ?_; intro b3 y3 w2 hB2 hC2 hat2)
          go_round
          case rel =>
            refine ⟨c + 1, b3, y3, by omega, by go_num, rfl, by rw [HS.out]; exact hB2, ?_, ?_⟩
            · exact hC2.below (hbl.out.alloc hbq _) (by simp; omega) (by simp; omega)
            · rcases hat2 with h | h
              · omega
              · simp at h; omega
          case measure => simp [intOf]; omega
        · obtain rfl : c = l := by omega
          have HCV : Hid (colK s q c = colv s q) := by show _ = _; unfold colK colv; rw [HL.out]
          have HS := Lib.hid (fragK_succ s p q)
          have hlg := Mt.lagr_lt (colv s q) p (colv_bytes s q HBY.out)
          have HFL := Lib.hid (fragK_len s p q)
          have HO2 := Lib.hid (hO.out.chg (gs := []) (Chg.of_below hbl.out) (by simp))
          have hlb := hO.out.lt
          clear hc0
          go_wp2_with (first | (go_at_call 44; refine (at_lagr _ _ _ _ (colv s q) _ (by rw [← HCV.out]; exact hB.out.seenAt) (by rw [colv_len, HL.out]) (by omega) (by omega)).mono ?_; rintro e w' ⟨rfl, d, rfl⟩; generalize Mt.lagr (colv s q) p = x at *) | (at_builtin; refine wpList_appN rfl (.tmp 35) (.tmp 40) rfl w.heap.size b y (fragK s p q) [x] q 1 HFL.out rfl rfl ((HO2.out.drewN d).chg (gs := []) ((Chg.refl _ _).alloc _) (by simp)) _ _ rfl (seen_one _ _ _ hlg rfl) (by omega) (by simp [World.drewN]; omega) ?_; intro b3 y3 w2 hB2 hC2 hat2))
          go_round
          case rel =>
            refine ⟨q + 1, b3, y3, by omega, by go_num, rfl, by rw [HS.out]; exact hB2, ?_⟩
            have h1 := hbl.out.trans ((below_drewN wr d).mono hbq)
            exact hC2.below (hb.out.trans ((h1.alloc (by simp [World.drewN]; omega) _).mono hbz)) (by simp [World.drewN]; omega) (by simp; omega)
          case measure => simp [intOf]; omega
    · obtain rfl : q = k := by omega
      have HFL := Lib.hid (fragK_len s p q)
      go_wp2
      go_ret
      refine ⟨b, y, ?_, by rw [← HFE.out]; exact hO.out.seenAt, hb.out⟩
      show Ending.returned (.slice (some ⟨b, 0, none⟩) q y) = _
      rw [← HFE.out, HFL.out]

end Go.Proofs.Ytjefjlalebpodaa

namespace Go.Proofs.Ytjefjlalebpodaa
open Go.RowKit Go.Maps

/-- Block b is a map whose keys are ps. -/
def SetC (w : World) (b n : Nat) (ps : List Int) : Prop :=
  ∃ D : DataW Unit, Tidy D ∧ w.ownsMap Try.prog 3 (plainElem Try.prog 4) b n D ∧ (∀ x : Int, has D (.int .i64 x) = decide (x ∈ ps)) ∧ Maps.size D = ps.length

theorem setC_made (w : World) : SetC (w.alloc (.map #[] 0)) w.heap.size 0 [] :=
  ⟨.map [], tidy_empty, World.ownsMap_made w _ _ _, fun _ => rfl, rfl⟩

theorem SetC.lt {w : World} {b n : Nat} {ps : List Int} (h : SetC w b n ps) : b < w.heap.size := by obtain ⟨D, _, hD, _⟩ := h; exact hD.lt

theorem SetC.alike {w w' : World} {b n : Nat} {ps : List Int} (h : SetC w b n ps) (e : w'.heap = w.heap) : SetC w' b n ps := by
  obtain ⟨D, hm, ⟨es, clock, hg, F, hs, hD⟩, hk⟩ := h
  exact ⟨D, hm, ⟨es, clock, by rw [e]; exact hg, F, hs, hD⟩, hk⟩

/-- m[x] = true. -/
theorem wpList_putC {ops : Array Oper} {rest : List Oper} {o : Oper} {a : Act} {Q : Exit → Act → World → Prop} {w : World} (hgd : o.guard = none) (m x v : Operand)
    (ho : o.op = Op.mapUpdate 79 m x v) (b n : Nat) (ps : List Int) (hm : a.eval m = .map (some b)) (hown : SetC w b n ps) (k : Int) (hx : a.eval x = .int .i64 k) (hk : (Lit.int .i64 k).wf = true) (hv : a.eval v = .bool true) (hn : n < 1000000000)
    (h : ∀ w', SetC w' b (n + 1) (if k ∈ ps then ps else ps ++ [k]) → Chg [b] w w' → wpList Try.prog ops Q rest (a.put o.dst undef) w') : wpList Try.prog ops Q (o :: rest) a w := by
  obtain ⟨D, hDm, hD, hS, hl⟩ := hown
  refine wpList_mapUpdate_own w hgd m x v 79 ho 3 4 (int_keyed Try.underlying3) Try.underlying79 _ b n D hm hD (by unfold maxLen; omega) _ _ (.int .i64 k) hx hv (keyOf_int_mk Try.underlying3 hk) _ _ (plainElem_bool Try.underlying4 true) ?_
  intro w' hD' hg
  have hkl : WideAt.IsKeyLit (.int .i64 k) := by simp [WideAt.IsKeyLit]
  refine h w' ⟨_, hDm.put hkl _, hD', fun j => ?_, ?_⟩ (Chg.of_grown hg)
  · by_cases e : j = k
    · subst e
      rw [has_put_same hDm.isMap hkl]
      split
      · rename_i hin; simpa using hin
      · simp
    · rw [has_put_other (by intro h'; cases h'; exact e rfl), hS j]
      split
      · rfl
      · simp [e]
  · rw [size_put hDm, hS k, hl]
    by_cases e : k ∈ ps
    · rw [if_pos e, if_pos (by simpa using e)]
    · rw [if_neg e, if_neg (by simpa using e)]; simp

/-- len(m). -/
theorem wpList_lenC {ops : Array Oper} {rest : List Oper} {o : Oper} {a : Act} {Q : Exit → Act → World → Prop} {w : World} (hgd : o.guard = none) (m : Operand)
    (ho : o.op = Op.call { callee := Callee.builtin Builtin.len, args := #[m], argTypes := #[79] }) (b n : Nat) (ps : List Int) (hm : a.eval m = .map (some b)) (hown : SetC w b n ps)
    (h : wpList Try.prog ops Q rest (a.put o.dst (.int .i64 (ps.length : Int))) w) : wpList Try.prog ops Q (o :: rest) a w := by
  obtain ⟨D, _, hD, _, hl⟩ := hown
  refine wpList_len_own w hgd m 79 ho 3 4 Try.underlying79 _ b n D hm hD ?_
  rw [hl]
  exact h

theorem poss_len (fs : List Fr) : (poss fs).length = fs.length := by simp [poss]

theorem check_no (k m : Int) (v : Value) (w : World) (h : ¬ May k m) :
    Calls Try.prog 33 #[.int .i64 k, .int .i64 m, v] w fun e w' => e = .returned (.int .i64 3) ∧ w = w' := by
  have HN := Lib.hid (fun w => may_no k m w h)
  clear h
  go_enter Try.func33, Try.ntmps33
  go_wp2_with fail
  refine (HN.out _).mono ?_
  rintro e w' ⟨rfl, rfl⟩
  go_wp2
  go_ret
  exact ⟨rfl, rfl⟩

/-- What Check says where the code is one. -/
def CkPost (w : World) (k n : Nat) (fs : List Fr) (e : Ending) (w' : World) : Prop :=
  Below w.heap.size w w' ∧
  ((¬ Good n fs ∧ e = .returned (.int .i64 2)) ∨ (Good n fs ∧ (firsts fs).length < k ∧ e = .returned (.int .i64 10)) ∨ (Good n fs ∧ k ≤ (firsts fs).length ∧ e = .returned (.int .i64 0)))



set_option maxRecDepth 100000 in
set_option maxHeartbeats 8000000 in
theorem check_any (fa : Option Addr) (fc l k m n : Nat) (fs : List Fr) (w : World) (hF : FrsAt w fa fc fs) (hl : fs.length = l) (hl2 : l ≤ 100000000) (hk : 1 ≤ k) (hn : k + m = n) (hn2 : n ≤ 255) :
    Calls Try.prog 33 #[.int .i64 (k : Int), .int .i64 (m : Int), .slice fa l fc] w (CkPost w k n fs) := by
  have HF := Lib.hid hF
  have HL := Lib.hid hl
  have HMY := Lib.hid (fun w => may_yes (k : Int) (m : Int) w ⟨by omega, by omega, by omega⟩)
  have hkk : k ≤ 255 := by omega
  have hmm : m ≤ 255 := by omega
  have HN := Lib.hid hn
  have hmk := @run_makeMap Try.prog
  clear hF hl hn
  go_enter Try.func33, Try.ntmps33
  go_wp2_with fail
  refine (HMY.out _).mono ?_
  rintro e w' ⟨rfl, rfl⟩
  have HS0 := Lib.hid (setC_made w)
  obtain ⟨B, hB⟩ : ∃ B, B = w.heap.size := ⟨_, rfl⟩
  rw [← hB] at HS0
  go_wp2
  rw [← hB]
  clear hmk
  have hwB : w.heap.size ≤ B := by omega
  clear hB
  go_loopw [8] (fun i ws => ∃ j : Nat, j ≤ l ∧ i = .int .i64 j ∧ Hid (Below w.heap.size w ws) ∧ Hid (GoodTo n fs j) ∧ Hid (SetC ws B j (poss (firsts (fs.take j))))) (fun i _ => l - (intOf i).toNat)
  case atStart => exact ⟨0, Nat.zero_le _, rfl, below_one _ _, fun q hq => by omega, HS0⟩
  case round =>
    obtain ⟨j, hj, rfl, hb, hG, hM⟩ := hrel
    have hbz := hb.out.size
    by_cases hlt : j < l
    · obtain ⟨b2, off2, e, hc0, hc1, hS⟩ := HF.out.el j (by rw [HL.out]; exact hlt)
      subst e
      obtain ⟨b3, off3, e, _, hz1, hS0⟩ := HF.out.el 0 (by rw [HL.out]; omega)
      cases e
      have hq0 := cell_later hb.out hc0
      have hq1 := cell_later hb.out hc1
      have hq2 := cell_later hb.out hz1
      rw [show off2 + 0 * 2 + 1 = off2 + 1 by omega] at hq2
      have hle := Nat.le_trans hS.le hS.max
      have hle0 := Nat.le_trans hS0.le hS0.max
      unfold maxLen at hle hle0
      have HWF := Lib.hid (HF.out.wf _ (getD_mem fs j fr0 (by rw [HL.out]; exact hlt)))
      have HPS : Hid (poss (firsts (fs.take (j + 1))) = if (fs.getD j fr0).pos ∈ poss (firsts (fs.take j)) then poss (firsts (fs.take j)) else poss (firsts (fs.take j)) ++ [(fs.getD j fr0).pos]) := by
        show _ = _
        rw [firsts_step fs j (by rw [HL.out]; exact hlt), fst1_poss]
      generalize hpf : poss (firsts (fs.take j)) = pf at *
      clear hpf hc0 hc1 hz1 hS hS0
      have j0 : (0 : Int) ≤ (j : Int) := by omega
      have j1 : (j : Int) < (l : Int) := by omega
      have l0 : (0 : Int) < (l : Int) := by omega
      by_cases hp1 : 0 ≤ (fs.getD j fr0).pos
      · have t1 : decide ((fs.getD j fr0).pos < 0) = false := by simpa using hp1
        by_cases hp2 : (fs.getD j fr0).pos < (n : Int)
        · have t2 : decide ((k : Int) + (m : Int) ≤ (fs.getD j fr0).pos) = false := by have := HN.out; have hh : ¬ (k : Int) + (m : Int) ≤ (fs.getD j fr0).pos := (by omega); exact decide_eq_false hh
          by_cases hg2 : (fs.getD j fr0).data.length = (fs.getD 0 fr0).data.length
          · have HG2 := Lib.hid (hG.out.more ⟨hp1, hp2⟩ hg2)
            rw [hg2] at hq1 hle
            clear hg2 hp1 hp2
            generalize (fs.getD 0 fr0).data.length = q at *
            generalize (fs.getD j fr0).pos = p at *
            generalize (fs.getD j fr0).loc = la at *
            generalize (fs.getD j fr0).cap = lc at *
            generalize (fs.getD 0 fr0).loc = la0 at *
            generalize (fs.getD 0 fr0).cap = lc0 at *
            have t : ((q : Int) != (q : Int)) = false := by simp
            go_wp2
            go_quiet (fail)
            have hq0' : (wr.drewN nq).cell? ⟨b2, off2 + j * 2, none⟩ = some (.int .i64 p) := hq0
            have HM2 := Lib.hid (hM.out.alike (w' := wr.drewN nq) rfl)
            have HB2 := Lib.hid (hb.out.trans ((below_drewN wr nq).mono hbz))
            have hbz2 := HB2.out.size
            clear hq0 hq1 hq2 hb hM t t1 t2
            generalize wr.drewN nq = wq at *
            go_wp2_with (at_mapUpdate; refine wpList_putC rfl (.tmp 51) (.tmp 56) _ rfl B j pf rfl HM2.out p rfl HWF.out rfl (by omega) ?_; intro w4 hM4 hC4)
            go_round
            case rel => exact ⟨j + 1, by omega, by go_num, hC4.below HB2.out hbz2 (by simpa using hwB), HG2, by rw [HPS.out]; exact hM4⟩
            case measure => simp [intOf]; omega
          · have HNG : Hid (¬ Good n fs) := fun h => hg2 (h j (by rw [HL.out]; exact hlt)).2
            have t := ibne hg2
            clear hg2 hp1 hp2
            generalize (fs.getD 0 fr0).data.length = q at *
            generalize (fs.getD j fr0).data.length = q' at *
            generalize (fs.getD j fr0).pos = p at *
            generalize (fs.getD j fr0).loc = la at *
            generalize (fs.getD j fr0).cap = lc at *
            generalize (fs.getD 0 fr0).loc = la0 at *
            generalize (fs.getD 0 fr0).cap = lc0 at *
            go_wp2
            go_quiet (fail)
            go_wp2
            go_ret
            exact ⟨hb.out.trans ((below_drewN _ _).mono hb.out.size), .inl ⟨HNG.out, rfl⟩⟩
        · have HNG : Hid (¬ Good n fs) := fun h => hp2 (h j (by rw [HL.out]; exact hlt)).1.2
          have t2 : decide ((k : Int) + (m : Int) ≤ (fs.getD j fr0).pos) = true := by have := HN.out; have hh : (k : Int) + (m : Int) ≤ (fs.getD j fr0).pos := (by omega); exact decide_eq_true hh
          clear hp1 hp2
          generalize (fs.getD 0 fr0).data.length = q at *
          generalize (fs.getD j fr0).data.length = q' at *
          generalize (fs.getD j fr0).pos = p at *
          generalize (fs.getD j fr0).loc = la at *
          generalize (fs.getD j fr0).cap = lc at *
          generalize (fs.getD 0 fr0).loc = la0 at *
          generalize (fs.getD 0 fr0).cap = lc0 at *
          go_wp2
          go_quiet (fail)
          go_wp2
          go_ret
          exact ⟨hb.out.trans ((below_drewN _ _).mono hb.out.size), .inl ⟨HNG.out, rfl⟩⟩
      · have HNG : Hid (¬ Good n fs) := fun h => hp1 (h j (by rw [HL.out]; exact hlt)).1.1
        have t1 : decide ((fs.getD j fr0).pos < 0) = true := by have hh : (fs.getD j fr0).pos < 0 := (by omega); exact decide_eq_true hh
        clear hp1
        generalize (fs.getD 0 fr0).data.length = q at *
        generalize (fs.getD j fr0).data.length = q' at *
        generalize (fs.getD j fr0).pos = p at *
        generalize (fs.getD j fr0).loc = la at *
        generalize (fs.getD j fr0).cap = lc at *
        generalize (fs.getD 0 fr0).loc = la0 at *
        generalize (fs.getD 0 fr0).cap = lc0 at *
        go_wp2
        go_quiet (fail)
        go_wp2
        go_ret
        exact ⟨hb.out.trans ((below_drewN _ _).mono hb.out.size), .inl ⟨HNG.out, rfl⟩⟩
    · obtain rfl : j = l := by omega
      have HGD : Hid (Good n fs) := fun i hi => hG.out i (by rw [HL.out] at hi; exact hi)
      have HTK : Hid (firsts (fs.take j) = firsts fs) := by show _ = _; rw [List.take_of_length_le (by rw [HL.out]; omega)]
      rw [HTK.out] at hM
      obtain ⟨r, hr⟩ : ∃ r, (firsts fs).length = r := ⟨_, rfl⟩
      have HR := Lib.hid hr
      have HPL : Hid ((poss (firsts fs)).length = r) := by show _ = _; rw [poss_len, hr]
      clear hG hr
      by_cases hlk : r < k
      · have HLK : Hid ((firsts fs).length < k) := by show _ < _; rw [HR.out]; exact hlk
        have d1 : decide ((r : Int) < (k : Int)) = true := by simp; omega
        have d2 : decide (r < k) = true := by simp; omega
        clear hlk
        go_wp2_with (at_len; refine wpList_lenC rfl (.tmp 57) rfl B j _ rfl hM.out ?_; rw [HPL.out])
        go_ret
        exact ⟨hb.out, .inr (.inl ⟨HGD.out, HLK.out, rfl⟩)⟩
      · have HLK : Hid (k ≤ (firsts fs).length) := by show _ ≤ _; rw [HR.out]; omega
        have d1 : decide ((r : Int) < (k : Int)) = false := by simp; omega
        have d2 : decide (r < k) = false := by simp; omega
        clear hlk
        go_wp2_with (at_len; refine wpList_lenC rfl (.tmp 57) rfl B j _ rfl hM.out ?_; rw [HPL.out])
        go_ret
        exact ⟨hb.out, .inr (.inr ⟨HGD.out, HLK.out, rfl⟩)⟩

end Go.Proofs.Ytjefjlalebpodaa

namespace Go.Proofs.Ytjefjlalebpodaa
open Go.RowKit

/-- What First hands back. -/
def FirPost (w : World) (k : Nat) (fs : List Fr) (e : Ending) (w' : World) : Prop :=
  ∃ a n cap, e = .returned (.slice a n cap) ∧ ((firsts fs).take k).length = n ∧ FrsAt w' a cap ((firsts fs).take k) ∧ Below w.heap.size w w'

/-- Is the position among the first c? -/
def has1 (p : Int) (fk : List Fr) (c : Nat) : Bool := decide (p ∈ poss (fk.take c))
theorem has1_zero (p : Int) (fk : List Fr) : has1 p fk 0 = false := by simp [has1, poss]
theorem has1_succ (p : Int) (fk : List Fr) (c : Nat) (h : c < fk.length) : has1 p fk (c + 1) = (has1 p fk c || ((fk.getD c fr0).pos == p)) := by
  unfold has1
  rw [take_snoc fk c fr0 h]
  have e : poss (fk.take c ++ [fk.getD c fr0]) = poss (fk.take c) ++ [(fk.getD c fr0).pos] := by simp [poss]
  rw [e]
  clear e
  generalize (fk.getD c fr0).pos = q
  by_cases h1 : p ∈ poss (fk.take c)
  · simp [h1]
  · by_cases h2 : p = q
    · subst h2; simp
    · have h3 : (q == p) = false := by simp; exact fun e => h2 e.symm
      rw [h3]
      simp [h1, h2]
theorem has1_all (p : Int) (fk : List Fr) : has1 p fk fk.length = decide (p ∈ poss fk) := by unfold has1; rw [List.take_of_length_le (Nat.le_refl _)]

theorem take_firsts (fs : List Fr) (j k n : Nat) (h : (firsts (fs.take j)).length = n) (hk : n ≤ k) (hj : j = fs.length ∨ n = k) : (firsts fs).take k = firsts (fs.take j) := by
  rcases hj with hj | hj
  · subst hj
    rw [List.take_of_length_le (Nat.le_refl fs.length)] at h ⊢
    exact List.take_of_length_le (by omega)
  · obtain ⟨gs, e⟩ := firsts_prefix fs j
    rw [e, List.take_append_of_le_length (by omega)]
    exact List.take_of_length_le (by omega)

set_option maxRecDepth 100000 in
set_option maxHeartbeats 8000000 in
theorem first_any (fa : Option Addr) (fc l k : Nat) (fs : List Fr) (w : World) (hF : FrsAt w fa fc fs) (hl : fs.length = l) (hl2 : l ≤ 100000000) (hk : k ≤ 255) :
    Calls Try.prog 34 #[.int .i64 (k : Int), .slice fa l fc] w (FirPost w k fs) := by
  have HF := Lib.hid hF
  have HL := Lib.hid hl
  clear hF hl
  have HS0 := Lib.hid (oldF_none w w (Nat.le_refl _))
  go_enter Try.func34, Try.ntmps34
  go_wp2
  go_loopw [5, 6, 7, 8] (fun s i _ _ ws => ∃ (j n g cap : Nat), j ≤ l ∧ n ≤ j ∧ n ≤ k ∧ i = .int .i64 j ∧ s = .slice (some ⟨g, 0, none⟩) n cap ∧ Hid (OldF w ws (.slice (some ⟨g, 0, none⟩) n cap) (firsts (fs.take j))) ∧ Hid (Below w.heap.size w ws) ∧ Hid ((firsts (fs.take j)).length = n)) (fun _ i _ _ _ => l - (intOf i).toNat)
  case atStart => exact ⟨0, 0, _, _, Nat.zero_le _, Nat.zero_le _, Nat.zero_le _, rfl, rfl, HS0, below_one _ _, rfl⟩
  case round =>
    obtain ⟨j, n, g, cap, hj, hnj, hnk, rfl, rfl, hR, hb, hN⟩ := hrel
    have hbz := hb.out.size
    by_cases hlt : j < l
    · have dj : decide ((j : Int) < (l : Int)) = true := by simp; omega
      by_cases hnk2 : n < k
      · obtain ⟨b2, off2, e, hc0, hc1, hS⟩ := HF.out.el j (by rw [HL.out]; exact hlt)
        subst e
        have HQ0 := Lib.hid (cell_later hb.out hc0)
        have HQ1 := Lib.hid (cell_later hb.out hc1)
        have HWF := Lib.hid (HF.out.wf _ (getD_mem fs j fr0 (by rw [HL.out]; exact hlt)))
        have HS := Lib.hid hS
        have HSTEP := Lib.hid (firsts_step fs j (by rw [HL.out]; exact hlt))
        have HFR := Lib.hid (hR.out.frs hb.out).2
        clear hc0 hc1 hS
        generalize fs.getD j fr0 = f at *
        generalize hfk : firsts (fs.take j) = fk at *
        have HFK := Lib.hid hfk
        clear hfk
        have dn : decide ((n : Int) < (k : Int)) = true := by simp; omega
        have dn2 : decide (n < k) = true := by simp; omega
        generalize wr = wo at *
        go_wp2
        clear dn dn2 dj
        go_loopw [7, 8] (fun t i ws => ∃ c m : Nat, c ≤ n ∧ i = .int .i64 c ∧ t = .bool (has1 f.pos fk c) ∧ ws = wo.drewN m) (fun _ i _ => n - (intOf i).toNat)
        case atStart => exact ⟨0, 0, Nat.zero_le _, rfl, by rw [has1_zero], rfl⟩
        case round =>
          obtain ⟨c, m, hc, rfl, rfl, hws⟩ := hrel
          have HW := Lib.hid hws
          by_cases hlc : c < n
          · obtain ⟨b3, off3, e, hd0, _, _⟩ := HFR.out.el c (by rw [hN.out]; exact hlc)
            cases e
            rw [Nat.zero_add] at hd0
            have hx0 : wr.cell? ⟨g, c * 2, none⟩ = some (.int .i64 (fk.getD c fr0).pos) := by rw [hws]; exact hd0
            have hx1 : wr.cell? ⟨b2, off2 + j * 2, none⟩ = some (.int .i64 f.pos) := by rw [hws]; exact HQ0.out
            have HSU := Lib.hid (has1_succ f.pos fk c (by rw [hN.out]; exact hlc))
            have i0 : (0 : Int) ≤ (c : Int) := by omega
            have i1 : (c : Int) < (n : Int) := by omega
            have i2 : (0 : Int) ≤ (j : Int) := by omega
            have i3 : (j : Int) < (l : Int) := by omega
            clear hws hd0
            cases hth : has1 f.pos fk c with
            | true =>
              have HT : Hid (has1 f.pos fk (c + 1) = true) := by show _ = _; rw [HSU.out, hth]; rfl
              clear hth
              go_wp2
              go_quiet (fail)
              go_wp2
              go_round
              case rel => exact ⟨c + 1, m + nq, by omega, by go_num, by rw [HT.out], by rw [HW.out, World.drewN_drewN]⟩
              case measure => simp [intOf]; omega
            | false =>
              cases heq : (fk.getD c fr0).pos == f.pos with
              | true =>
                have HT : Hid (has1 f.pos fk (c + 1) = true) := by show _ = _; rw [HSU.out, hth, heq]; rfl
                clear hth
                generalize (fk.getD c fr0).pos = p' at *
                go_wp2
                go_quiet (fail)
                go_wp2
                go_round
                case rel => exact ⟨c + 1, m + nq, by omega, by go_num, by rw [HT.out], by rw [HW.out, World.drewN_drewN]⟩
                case measure => simp [intOf]; omega
              | false =>
                have HT : Hid (has1 f.pos fk (c + 1) = false) := by show _ = _; rw [HSU.out, hth, heq]; rfl
                clear hth
                generalize (fk.getD c fr0).pos = p' at *
                go_wp2
                go_quiet (fail)
                go_wp2
                go_round
                case rel => exact ⟨c + 1, m + nq, by omega, by go_num, by rw [HT.out], by rw [HW.out, World.drewN_drewN]⟩
                case measure => simp [intOf]; omega
          · obtain rfl : c = n := by omega
            have HAL : Hid (has1 f.pos fk c = decide (f.pos ∈ poss fk)) := by show _ = _; rw [← hN.out]; exact has1_all f.pos fk
            have hBW : Below w.heap.size w wr := by rw [hws]; exact hb.out.trans ((below_drewN _ _).mono hbz)
            have HBW := Lib.hid hBW
            have HRW : Hid (OldF w wr (.slice (some ⟨g, 0, none⟩) c cap) fk) := by show OldF _ _ _ _; rw [hws]; exact hR.out.below (below_drewN _ _)
            have hx0 : wr.cell? ⟨b2, off2 + j * 2, none⟩ = some (.int .i64 f.pos) := by rw [hws]; exact HQ0.out
            have hx1 : wr.cell? ⟨b2, off2 + j * 2 + 1, none⟩ = some (.slice f.loc f.data.length f.cap) := by rw [hws]; exact HQ1.out
            have hwz := hBW.size
            clear hws hBW HW
            have i2 : (0 : Int) ≤ (j : Int) := by omega
            have i3 : (j : Int) < (l : Int) := by omega
            by_cases hin : f.pos ∈ poss fk
            · have HE := Lib.hid (fst1_same hin)
              rw [HAL.out, show decide (f.pos ∈ poss fk) = true by simpa using hin]
              clear hin
              go_wp2
              go_round
              case rel => exact ⟨j + 1, c, g, cap, by omega, by omega, by omega, by go_num, rfl, by rw [HSTEP.out, HE.out]; exact HRW, HBW, by rw [HSTEP.out, HE.out]; exact hN⟩
              case measure => simp [intOf]; omega
            · have HNI := Lib.hid hin
              rw [HAL.out, show decide (f.pos ∈ poss fk) = false by simpa using hin]
              clear hin
              have HOL : Hid (∀ o, OldF w (wr.alloc o) (.slice (some ⟨g, 0, none⟩) c cap) fk) := fun o => HRW.out.below (below_one _ _)
              have HBL : Hid (∀ o, Below w.heap.size w (wr.alloc o)) := fun o => HBW.out.alloc hwz o
              go_wp2_with (at_builtin; refine wpList_appF (w0 := w) rfl (.tmp 44) (.tmp 49) rfl (.slice (some ⟨g, 0, none⟩) c cap) fk c hN.out rfl (HOL.out _) f HS.out HWF.out _ _ rfl (cell_pair0 _ _ _ _ _ rfl) (cell_pair1 _ _ _ _ _ rfl) (by omega) (by simp; omega) ?_; intro g2 c2 w2 hF2 hg2 hat2)
              have HBB := Lib.hid (below_grown (HOL.out _) (HBL.out _) hg2)
              have HFE : Hid (fst1 fk f = fk ++ [f]) := by show _ = _; unfold fst1; rw [if_neg (by simpa [poss] using HNI.out)]
              have HLN : Hid ((fst1 fk f).length = c + 1) := by
                show _ = _
                rw [HFE.out, List.length_append, hN.out]
                rfl
              go_round
              case rel => exact ⟨j + 1, c + 1, g2, c2, by omega, by omega, by omega, by go_num, rfl, by rw [HSTEP.out, HFE.out]; exact hF2, HBB, by rw [HSTEP.out]; exact HLN⟩
              case measure => simp [intOf]; omega
      · have dn : decide ((n : Int) < (k : Int)) = false := by simp; omega
        have dn2 : decide (n < k) = false := by simp; omega
        have HFR := Lib.hid (hR.out.frs hb.out)
        have HTF := Lib.hid (take_firsts fs j k n hN.out hnk (.inr (by omega)))
        go_wp2
        go_ret
        exact ⟨_, _, _, rfl, by rw [HTF.out]; exact hN.out, by rw [HTF.out]; exact HFR.out.2, hb.out⟩
    · have dj : decide ((j : Int) < (l : Int)) = false := by simp; omega
      have dj2 : decide (j < l) = false := by simp; omega
      have HFR := Lib.hid (hR.out.frs hb.out)
      have HTF := Lib.hid (take_firsts fs j k n hN.out hnk (.inl (by rw [HL.out]; omega)))
      go_wp2
      go_ret
      exact ⟨_, _, _, rfl, by rw [HTF.out]; exact hN.out, by rw [HTF.out]; exact HFR.out.2, hb.out⟩

end Go.Proofs.Ytjefjlalebpodaa
