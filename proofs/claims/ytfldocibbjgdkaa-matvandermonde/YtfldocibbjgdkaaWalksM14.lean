/-
  What the law's cut does.
-/
import Derived.Test.YtfldocibbjgdkaaWalksM13
namespace Go.Proofs.Ytfldocibbjgdkaa
open Go.RowKit

/-- At most twelve rows of at most twelve. -/
def ctM (m : List (List Nat)) : List (List Nat) := (m.take 12).map fun r => r.take 12

theorem ctM_len (m : List (List Nat)) : (ctM m).length = min 12 m.length := by simp [ctM]
theorem ctM_get (m : List (List Nat)) (i : Nat) (h : i < 12) : (ctM m).getD i [] = (m.getD i []).take 12 := by
  unfold ctM
  rw [List.getD_eq_getElem?_getD, List.getElem?_map, List.getElem?_take_of_lt h, List.getD_eq_getElem?_getD]
  cases m[i]? <;> simp

/-- The first i rows done. -/
def ctK (m : List (List Nat)) (i : Nat) : List (List Nat) := (m.take i).map fun r => r.take 12
theorem ctK_len (m : List (List Nat)) (i : Nat) (h : i ≤ m.length) : (ctK m i).length = i := by simp [ctK]; omega
theorem ctK_succ (m : List (List Nat)) (i : Nat) (h : i < m.length) : ctK m (i + 1) = ctK m i ++ [(m.getD i []).take 12] := by
  unfold ctK
  rw [List.take_succ_eq_append_getElem h, List.map_append, List.getD_eq_getElem?_getD, List.getElem?_eq_getElem h]
  rfl




set_option maxRecDepth 100000 in
set_option maxHeartbeats 2000000 in
theorem cut_short (va : Option Addr) (vc n : Nat) (m : List (List Nat)) (w : World) (hG : GridAt w va vc m) (hl : m.length = n) (hn : n ≤ 12) :
    Calls Try.prog 8 #[.slice va n vc] w (RetM w n (ctK m n)) := by
  have hd : decide ((12 : Int) < (n : Int)) = false := by simp; omega
  have HG := Lib.hid hG
  have HML := Lib.hid hl
  clear hG hl
  go_enter Try.func8, Try.ntmps8
  go_wp2
  go_loopw [3, 4, 5] (fun s i _ ws => ∃ (j G C : Nat) (g c : Nat → Nat), j ≤ n ∧ i = .int .i64 j ∧ s = .slice (some ⟨G, 0, none⟩) j C ∧ Hid (OwnM ws w.heap.size G C g c (ctK m j)) ∧ Hid (Below w.heap.size w ws)) (fun _ i _ _ => n - (intOf i).toNat)
  case atStart => exact ⟨0, _, _, _, _, Nat.zero_le _, rfl, rfl, by rw [show ctK m 0 = [] by simp [ctK]]; exact ownM_none w _ (Nat.le_refl _), below_one _ _⟩
  case round =>
    obtain ⟨j, G, C, g, c, hj, rfl, rfl, hO, hb⟩ := hrel
    have hbz := hb.out.size
    by_cases hlt : j < n
    · obtain ⟨bj, offj, ra, rc, e, hcj0, hSj0⟩ := HG.out.at j (by rw [HML.out]; omega)
      subst e
      have hcj := cell_later hb.out hcj0
      have hSj := hSj0.below hb.out
      have HL := Lib.hid (ctK_len m j (by rw [HML.out]; omega))
      have HCS := Lib.hid (ctK_succ m j (by rw [HML.out]; omega))
      have HOO := Lib.hid hO.out.outer
      rw [HL.out] at HOO
      have HN := Lib.hid (ownB_lit wr w.heap.size [] #[] rfl bytes_nil hbz (by unfold maxLen; simp))
      have hrm := Nat.le_trans hSj.le hSj.max
      have hrc := hSj.max
      unfold maxLen at hrm hrc
      clear hSj0 hcj0
      by_cases hr : (m.getD j []).length ≤ 12
      · have HTK : Hid (m.getD j [] = (m.getD j []).take 12) := (List.take_of_length_le hr).symm
        have HSJ := Lib.hid hSj
        have hll := hSj.le
        clear hSj
        generalize hrl : (m.getD j []).length = rl at *
        have HRL := Lib.hid hrl
        clear hrl
        have hd : decide ((12 : Int) < (rl : Int)) = false := by simp; omega
        go_wp2_with (first | (at_builtin; refine wpList_appN rfl (.tmp 28) (.tmp 29) rfl w.heap.size wr.heap.size 0 [] (m.getD j []) 0 rl rfl HRL.out rfl HN.out _ _ rfl (HSJ.out.below (below_one _ _)) (by omega) (by simp; omega) ?_; intro x y w2 hB2 hC2 hat2; have hxx : wr.heap.size ≤ x := (by rcases hat2 with h | h; omega; simp at h; omega); have hbw := Lib.hid (hC2.below (below_one wr _) (by simp) (by simp)) ; have HO5 := Lib.hid ((Chg.of_below (gs := []) hbw.out).owns HOO.out (by simp)); have HB2 := Lib.hid hB2; clear hB2 hC2 hat2) | (at_builtin; refine wpList_appV rfl (.tmp 27) (.tmp 31) rfl w.heap.size G C j _ rfl (World.ownsRow.alloc HO5.out _) _ _ _ rfl (cell_new' _ _ _ _ (by simp)) rfl (by omega) (by have := hbw.out.size; simp; omega) ?_; intro G2 C2 w3 hown2 hC3 hat3))
        have HP : Hid (OwnM w3 w.heap.size G2 C2 (snoc j x g) (snoc j y c) (ctK m (j + 1)) ∧ Chg [G] wr w3) := by
          have hB3 := HB2.out
          rw [List.nil_append] at hB3
          have := hO.out.pushed hbw.out hB3 hxx _ (by simpa using hC3) (by rw [HL.out, HRL.out]; simpa using hown2)
          rw [HL.out] at this
          show OwnM _ _ _ _ _ _ _ ∧ _
          rw [HCS.out, ← HTK.out]
          simpa using this
        have hG1 := hO.out.lt.1
        go_round
        case rel => exact ⟨j + 1, G2, C2, _, _, by omega, by go_num, rfl, HP.out.1, HP.out.2.below hb.out hbz (by simp; exact hG1)⟩
        case measure => simp [intOf]; omega
      · have HSJ := Lib.hid (hSj.take 12)
        have HTK : Hid ((m.getD j []).take 12 = (m.getD j []).take 12) := rfl
        have HRL : Hid (((m.getD j []).take 12).length = 12) := by show _ = _; rw [List.length_take]; omega
        have hll := hSj.le
        clear hSj
        generalize hrl : (m.getD j []).length = rl at *
        clear hrl
        have hd : decide ((12 : Int) < (rl : Int)) = true := by simp; omega
        go_wp2_with (first | (at_builtin; refine wpList_appN rfl (.tmp 28) (.tmp 29) rfl w.heap.size wr.heap.size 0 [] ((m.getD j []).take 12) 0 12 rfl HRL.out rfl HN.out _ _ rfl (HSJ.out.below (below_one _ _)) (by omega) (by simp; omega) ?_; intro x y w2 hB2 hC2 hat2; have hxx : wr.heap.size ≤ x := (by rcases hat2 with h | h; omega; simp at h; omega); have hbw := Lib.hid (hC2.below (below_one wr _) (by simp) (by simp)) ; have HO5 := Lib.hid ((Chg.of_below (gs := []) hbw.out).owns HOO.out (by simp)); have HB2 := Lib.hid hB2; clear hB2 hC2 hat2) | (at_builtin; refine wpList_appV rfl (.tmp 27) (.tmp 31) rfl w.heap.size G C j _ rfl (World.ownsRow.alloc HO5.out _) _ _ _ rfl (cell_new' _ _ _ _ (by simp)) rfl (by omega) (by have := hbw.out.size; simp; omega) ?_; intro G2 C2 w3 hown2 hC3 hat3))
        have HP : Hid (OwnM w3 w.heap.size G2 C2 (snoc j x g) (snoc j y c) (ctK m (j + 1)) ∧ Chg [G] wr w3) := by
          have hB3 := HB2.out
          rw [List.nil_append] at hB3
          have := hO.out.pushed hbw.out hB3 hxx _ (by simpa using hC3) (by rw [HL.out, HRL.out]; simpa using hown2)
          rw [HL.out] at this
          show OwnM _ _ _ _ _ _ _ ∧ _
          rw [HCS.out, ← HTK.out]
          simpa using this
        have hG1 := hO.out.lt.1
        go_round
        case rel => exact ⟨j + 1, G2, C2, _, _, by omega, by go_num, rfl, HP.out.1, HP.out.2.below hb.out hbz (by simp; exact hG1)⟩
        case measure => simp [intOf]; omega
    · obtain rfl : j = n := by omega
      go_wp2
      go_ret
      exact ⟨ctK_len m j (by rw [HML.out]; omega), _, _, _, _, rfl, hO.out, hb.out⟩

set_option maxRecDepth 100000 in
set_option maxHeartbeats 2000000 in
theorem cut_long (va : Option Addr) (vc l : Nat) (m : List (List Nat)) (w : World) (hG : GridAt w va vc m) (hl : m.length = l) (h12 : 12 < l) :
    Calls Try.prog 8 #[.slice va l vc] w (RetM w 12 (ctK m 12)) := by
  have hd : decide ((12 : Int) < (l : Int)) = true := by simp; omega
  have hlc := hG.le
  have hcm := hG.max
  rw [hl] at hlc
  unfold maxLen at hcm
  have HG := Lib.hid hG
  have HML := Lib.hid hl
  obtain ⟨b0, off0, _, _, e, _, _⟩ := hG.at 0 (by omega)
  subst e
  clear hG hl
  go_enter Try.func8, Try.ntmps8
  go_wp2
  go_loopw [3, 4, 5] (fun s i _ ws => ∃ (j G C : Nat) (g c : Nat → Nat), j ≤ 12 ∧ i = .int .i64 j ∧ s = .slice (some ⟨G, 0, none⟩) j C ∧ Hid (OwnM ws w.heap.size G C g c (ctK m j)) ∧ Hid (Below w.heap.size w ws)) (fun _ i _ _ => 12 - (intOf i).toNat)
  case atStart => exact ⟨0, _, _, _, _, Nat.zero_le _, rfl, rfl, by rw [show ctK m 0 = [] by simp [ctK]]; exact ownM_none w _ (Nat.le_refl _), below_one _ _⟩
  case round =>
    obtain ⟨j, G, C, g, c, hj, rfl, rfl, hO, hb⟩ := hrel
    have hbz := hb.out.size
    by_cases hlt : j < 12
    · obtain ⟨bj, offj, ra, rc, e, hcj0, hSj0⟩ := HG.out.at j (by rw [HML.out]; omega)
      cases e
      have hcj := cell_later hb.out hcj0
      have hSj := hSj0.below hb.out
      have HL := Lib.hid (ctK_len m j (by rw [HML.out]; omega))
      have HCS := Lib.hid (ctK_succ m j (by rw [HML.out]; omega))
      have HOO := Lib.hid hO.out.outer
      rw [HL.out] at HOO
      have HN := Lib.hid (ownB_lit wr w.heap.size [] #[] rfl bytes_nil hbz (by unfold maxLen; simp))
      have hrm := Nat.le_trans hSj.le hSj.max
      have hrc := hSj.max
      unfold maxLen at hrm hrc
      clear hSj0 hcj0
      by_cases hr : (m.getD j []).length ≤ 12
      · have HTK : Hid (m.getD j [] = (m.getD j []).take 12) := (List.take_of_length_le hr).symm
        have HSJ := Lib.hid hSj
        have hll := hSj.le
        clear hSj
        generalize hrl : (m.getD j []).length = rl at *
        have HRL := Lib.hid hrl
        clear hrl
        have hd : decide ((12 : Int) < (rl : Int)) = false := by simp; omega
        go_wp2_with (first | (at_builtin; refine wpList_appN rfl (.tmp 28) (.tmp 29) rfl w.heap.size wr.heap.size 0 [] (m.getD j []) 0 rl rfl HRL.out rfl HN.out _ _ rfl (HSJ.out.below (below_one _ _)) (by omega) (by simp; omega) ?_; intro x y w2 hB2 hC2 hat2; have hxx : wr.heap.size ≤ x := (by rcases hat2 with h | h; omega; simp at h; omega); have hbw := Lib.hid (hC2.below (below_one wr _) (by simp) (by simp)) ; have HO5 := Lib.hid ((Chg.of_below (gs := []) hbw.out).owns HOO.out (by simp)); have HB2 := Lib.hid hB2; clear hB2 hC2 hat2) | (at_builtin; refine wpList_appV rfl (.tmp 27) (.tmp 31) rfl w.heap.size G C j _ rfl (World.ownsRow.alloc HO5.out _) _ _ _ rfl (cell_new' _ _ _ _ (by simp)) rfl (by omega) (by have := hbw.out.size; simp; omega) ?_; intro G2 C2 w3 hown2 hC3 hat3))
        have HP : Hid (OwnM w3 w.heap.size G2 C2 (snoc j x g) (snoc j y c) (ctK m (j + 1)) ∧ Chg [G] wr w3) := by
          have hB3 := HB2.out
          rw [List.nil_append] at hB3
          have := hO.out.pushed hbw.out hB3 hxx _ (by simpa using hC3) (by rw [HL.out, HRL.out]; simpa using hown2)
          rw [HL.out] at this
          show OwnM _ _ _ _ _ _ _ ∧ _
          rw [HCS.out, ← HTK.out]
          simpa using this
        have hG1 := hO.out.lt.1
        go_round
        case rel => exact ⟨j + 1, G2, C2, _, _, by omega, by go_num, rfl, HP.out.1, HP.out.2.below hb.out hbz (by simp; exact hG1)⟩
        case measure => simp [intOf]; omega
      · have HSJ := Lib.hid (hSj.take 12)
        have HTK : Hid ((m.getD j []).take 12 = (m.getD j []).take 12) := rfl
        have HRL : Hid (((m.getD j []).take 12).length = 12) := by show _ = _; rw [List.length_take]; omega
        have hll := hSj.le
        clear hSj
        generalize hrl : (m.getD j []).length = rl at *
        clear hrl
        have hd : decide ((12 : Int) < (rl : Int)) = true := by simp; omega
        go_wp2_with (first | (at_builtin; refine wpList_appN rfl (.tmp 28) (.tmp 29) rfl w.heap.size wr.heap.size 0 [] ((m.getD j []).take 12) 0 12 rfl HRL.out rfl HN.out _ _ rfl (HSJ.out.below (below_one _ _)) (by omega) (by simp; omega) ?_; intro x y w2 hB2 hC2 hat2; have hxx : wr.heap.size ≤ x := (by rcases hat2 with h | h; omega; simp at h; omega); have hbw := Lib.hid (hC2.below (below_one wr _) (by simp) (by simp)) ; have HO5 := Lib.hid ((Chg.of_below (gs := []) hbw.out).owns HOO.out (by simp)); have HB2 := Lib.hid hB2; clear hB2 hC2 hat2) | (at_builtin; refine wpList_appV rfl (.tmp 27) (.tmp 31) rfl w.heap.size G C j _ rfl (World.ownsRow.alloc HO5.out _) _ _ _ rfl (cell_new' _ _ _ _ (by simp)) rfl (by omega) (by have := hbw.out.size; simp; omega) ?_; intro G2 C2 w3 hown2 hC3 hat3))
        have HP : Hid (OwnM w3 w.heap.size G2 C2 (snoc j x g) (snoc j y c) (ctK m (j + 1)) ∧ Chg [G] wr w3) := by
          have hB3 := HB2.out
          rw [List.nil_append] at hB3
          have := hO.out.pushed hbw.out hB3 hxx _ (by simpa using hC3) (by rw [HL.out, HRL.out]; simpa using hown2)
          rw [HL.out] at this
          show OwnM _ _ _ _ _ _ _ ∧ _
          rw [HCS.out, ← HTK.out]
          simpa using this
        have hG1 := hO.out.lt.1
        go_round
        case rel => exact ⟨j + 1, G2, C2, _, _, by omega, by go_num, rfl, HP.out.1, HP.out.2.below hb.out hbz (by simp; exact hG1)⟩
        case measure => simp [intOf]; omega
    · obtain rfl : j = 12 := by omega
      go_wp2
      go_ret
      exact ⟨ctK_len m 12 (by rw [HML.out]; omega), _, _, _, _, rfl, hO.out, hb.out⟩

/-- The law's cut. -/
theorem ctK_all (m : List (List Nat)) : ctK m (min 12 m.length) = ctM m := by
  unfold ctK ctM
  by_cases h : 12 ≤ m.length
  · rw [Nat.min_eq_left h]
  · rw [Nat.min_eq_right (by omega), List.take_of_length_le (Nat.le_refl _), List.take_of_length_le (by omega : m.length ≤ 12)]

theorem cut_any (va : Option Addr) (vc : Nat) (m : List (List Nat)) (w : World) (hG : GridAt w va vc m) :
    Calls Try.prog 8 #[.slice va m.length vc] w (RetM w (ctM m).length (ctM m)) := by
  rw [ctM_len]
  by_cases h : 12 < m.length
  · have := cut_long va vc m.length m w hG rfl h
    rw [show min 12 m.length = 12 by omega, ← ctK_all, show min 12 m.length = 12 by omega]
    exact this
  · have := cut_short va vc m.length m w hG rfl (by omega)
    rw [show min 12 m.length = m.length by omega, ← ctK_all, show min 12 m.length = m.length by omega]
    exact this

end Go.Proofs.Ytfldocibbjgdkaa
