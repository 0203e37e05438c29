/-
  What mat's functions that make matrices do: zeros, identity, One, copied.
-/
import Derived.Test.YtnhledngeicekaaWalksM1
import Derived.Deep.OwnRows
namespace Go.Proofs.Ytnhledngeicekaa
open Go.RowKit

theorem infoB : (Try.prog.info? 5).map (fun i => (i.zero, i.size, i.bytes)) = some (some (.int .u8 0), 1, 1) := by kernel_rfl
theorem infoR : (Try.prog.info? 28).map (fun i => (i.zero, i.size, i.bytes)) = some (some (.slice none 0 0), 1, 24) := by kernel_rfl

/-- A matrix of the call's own is handed back; nothing that was there has turned. -/
def RetM (w : World) (n : Nat) (m : List (List Nat)) (e : Ending) (w' : World) : Prop :=
  m.length = n ∧ ∃ G C g c, e = .returned (.slice (some ⟨G, 0, none⟩) n C) ∧ OwnM w' w.heap.size G C g c m ∧ Below w.heap.size w w'

/-- What the rows' slice holds while zeros makes row after row. -/
def zvals (g : Nat → Nat) (k n i : Nat) : List Value := (List.range n).map fun j => if j < i then .slice (some ⟨g j, 0, none⟩) k k else .slice none 0 0

structure Zer (w : World) (base G n k i : Nat) (g : Nat → Nat) : Prop where
  outer : w.ownsRow base 28 1 (.slice (some ⟨G, 0, none⟩) n n) n (zvals g k n i)
  row : ∀ j, j < i → OwnB w base (g j) k (List.replicate k 0)
  inj : ∀ a b, a < i → b < i → g a = g b → a = b

theorem zer_start (w : World) (base n k : Nat) (hb : base ≤ w.heap.size) (hn : n ≤ maxLen) : Zer (w.alloc (.cells (madeCells #[.slice none 0 0] n) 28)) base w.heap.size n k 0 (fun _ => 0) where
  outer := by
    have h := World.ownsRow_lit (base := base) (e := 28) (size := 1) w (madeCells #[.slice none 0 0] n) n hb hn (by rw [← Array.length_toList, toList_madeCells_one]; simp)
    rw [toList_madeCells_one] at h
    have e : zvals (fun _ => 0) k n 0 = List.replicate n (.slice none 0 0) := by
      apply List.ext_getElem
      · simp [zvals]
      · intro i h1 h2; simp [zvals]
    rw [e]
    exact h
  row j hj := by omega
  inj a b ha := by omega

theorem zvals_set (g : Nat → Nat) (k n i x : Nat) : (zvals g k n i).set i (.slice (some ⟨x, 0, none⟩) k k) = zvals (snoc i x g) k n (i + 1) := by
  apply List.ext_getElem
  · simp [zvals]
  · intro j h1 h2
    rw [List.getElem_set]
    simp only [zvals, List.getElem_map, List.getElem_range]
    by_cases e : i = j
    · subst e; simp [snoc_at]
    · rw [if_neg e]
      by_cases hj : j < i
      · rw [if_pos hj, if_pos (by omega), snoc_lt _ _ _ _ hj]
      · rw [if_neg hj, if_neg (by omega)]

theorem zer_step {w : World} {base G n k i : Nat} {g : Nat → Nat} (h : Zer w base G n k i g) (hi : i < n) (hb : base ≤ w.heap.size) (hk : k ≤ maxLen) :
    Zer ((w.alloc (.cells (madeCells #[.int .u8 0] k) 5)).setCell ⟨G, i, none⟩ (.slice (some ⟨w.heap.size, 0, none⟩) k k)) base G n k (i + 1) (snoc i w.heap.size g)
    ∧ Chg [G] w ((w.alloc (.cells (madeCells #[.int .u8 0] k) 5)).setCell ⟨G, i, none⟩ (.slice (some ⟨w.heap.size, 0, none⟩) k k)) := by
  have hG : base ≤ G ∧ G < w.heap.size := World.ownsRow.lt h.outer G rfl
  have hs := World.ownsRow.stored (World.ownsRow.alloc h.outer (.cells (madeCells #[.int .u8 0] k) 5)) i (.slice (some ⟨w.heap.size, 0, none⟩) k k)
  have hc : Chg [G] (w.alloc (.cells (madeCells #[.int .u8 0] k) 5)) ((w.alloc (.cells (madeCells #[.int .u8 0] k) 5)).setCell ⟨G, i, none⟩ (.slice (some ⟨w.heap.size, 0, none⟩) k k)) := Chg.of_grown hs.2
  refine ⟨⟨?_, ?_, ?_⟩, ((Chg.refl _ _).alloc _).trans hc⟩
  · rw [← zvals_set]; exact hs.1
  · intro j hj
    by_cases e : j = i
    · subst e
      rw [snoc_at]
      exact (ownB_made w base k hb hk).chg hc (by simp; omega)
    · rw [snoc_lt _ _ _ _ (by omega)]
      have hr := h.row j (by omega)
      exact (hr.chg (gs := []) ((Chg.refl _ _).alloc _) (by simp)).chg hc (by simp; exact owns_ne hr.own h.outer (by decide))
  · intro a b ha hb' e
    have hlt : ∀ j, j < i → g j < w.heap.size := fun j hj => (h.row j hj).lt.2
    by_cases e1 : a = i
    · by_cases e2 : b = i
      · omega
      · rw [e1, snoc_at, snoc_lt _ _ _ _ (by omega)] at e; have := hlt b (by omega); omega
    · by_cases e2 : b = i
      · rw [e2, snoc_at, snoc_lt _ _ _ _ (by omega)] at e; have := hlt a (by omega); omega
      · rw [snoc_lt _ _ _ _ (by omega), snoc_lt _ _ _ _ (by omega)] at e
        exact h.inj a b (by omega) (by omega) e

theorem getD_rep {α : Type} (n i : Nat) (x d : α) (h : i < n) : (List.replicate n x).getD i d = x := by
  rw [List.getD_eq_getElem?_getD, List.getElem?_replicate, if_pos h]; rfl

theorem zer_end {w : World} {base G n k : Nat} {g : Nat → Nat} (h : Zer w base G n k n g) : OwnM w base G n g (fun _ => k) (List.replicate n (List.replicate k 0)) where
  outer := by
    have e : rvals g (fun _ => k) (List.replicate n (List.replicate k 0)) = zvals g k n n := by
      unfold rvals zvals
      rw [List.length_replicate]
      apply List.map_congr_left
      intro j hj
      have hj' : j < n := by simpa using hj
      rw [if_pos hj', getD_rep _ _ _ _ hj', List.length_replicate]
    rw [e, List.length_replicate]
    exact h.outer
  row i hi := by
    rw [List.length_replicate] at hi
    rw [getD_rep _ _ _ _ hi]
    exact h.row i hi
  inj a b ha hb := by rw [List.length_replicate] at ha hb; exact h.inj a b ha hb

set_option maxHeartbeats 1000000 in
theorem zeros_any (n k : Nat) (w : World) (hn : n ≤ 1000000) (hk : k ≤ 1000000000) :
    Calls Try.prog 38 #[.int .i64 (n : Int), .int .i64 (k : Int)] w (RetM w n (List.replicate n (List.replicate k 0))) := by
  have hmk := run_make_row' (P := Try.prog) 22 28 (.slice none 0 0) 24 Try.underlying22 infoR rfl .i64 .i64 n (by omega) (by omega)
  have hmk' := run_make_row' (P := Try.prog) 28 5 (.int .u8 0) 1 Try.underlying28 infoB rfl .i64 .i64 k (by omega) (by omega)
  go_enter Try.func38, Try.ntmps38
  go_wp2
  go_loopw [6, 11] (fun _ i ws => ∃ (j : Nat) (g : Nat → Nat), j ≤ n ∧ i = .int .i64 j ∧ Hid (Zer ws w.heap.size w.heap.size n k j g) ∧ Hid (Below w.heap.size w ws)) (fun _ i _ => n - (intOf i).toNat)
  case atStart => exact ⟨0, _, Nat.zero_le _, rfl, zer_start w _ n k (Nat.le_refl _) (by unfold maxLen; omega), below_one _ _⟩
  case round =>
    obtain ⟨j, g, hj, rfl, hZ, hb⟩ := hrel
    have hbz := hb.out.size
    by_cases hlt : j < n
    · have HST := Lib.hid (zer_step hZ.out hlt hbz (by unfold maxLen; omega))
      obtain ⟨v, hcv⟩ : ∃ v, wr.cell? ⟨w.heap.size, j, none⟩ = some v := by
        rw [World.ownsRow.cellAt hZ.out.outer j (by omega)]
        exact ⟨_, List.getElem?_eq_getElem (by simp [zvals]; omega)⟩
      obtain ⟨hca, hfa⟩ := after_alloc hcv (World.ownsRow.frozenAt hZ.out.outer j)
      clear hcv
      go_wp2
      go_round
      case rel => exact ⟨j + 1, _, by omega, by go_num, HST.out.1, HST.out.2.below hb.out hbz (by simp)⟩
      case measure => simp [intOf]; omega
    · obtain rfl : j = n := by omega
      go_wp2
      go_ret
      exact ⟨by simp, _, _, _, _, rfl, zer_end hZ.out, hb.out⟩

/-- The identity matrix, its first k rows done. -/
def idK (n : Nat) : Nat → List (List Nat)
  | 0 => List.replicate n (List.replicate n 0)
  | k + 1 => (idK n k).set k (((idK n k).getD k []).set k 1)

theorem idK_len (n k : Nat) : (idK n k).length = n := by
  induction k with
  | zero => simp [idK]
  | succ k ih => simp [idK, ih]

theorem idK_row (n k i : Nat) (hi : i < n) : ((idK n k).getD i []).length = n := by
  induction k with
  | zero => show ((List.replicate n (List.replicate n 0)).getD i []).length = n; rw [getD_rep _ _ _ _ hi]; simp
  | succ k ih =>
    by_cases e : i = k
    · subst e
      rw [idK, getD_set_eq _ _ _ _ (by rw [idK_len]; exact hi), List.length_set, ih]
    · rw [idK, getD_set_ne _ _ _ _ _ e, ih]

theorem idK_get (n k i j : Nat) (hi : i < n) (hj : j < n) : ((idK n k).getD i []).getD j 0 = if i = j ∧ i < k then 1 else 0 := by
  induction k with
  | zero =>
    show ((List.replicate n (List.replicate n 0)).getD i []).getD j 0 = _
    rw [getD_rep _ _ _ _ hi, getD_rep _ _ _ _ hj, if_neg (by omega)]
  | succ k ih =>
    by_cases e : i = k
    · subst e
      rw [idK, getD_set_eq _ _ _ _ (by rw [idK_len]; exact hi)]
      by_cases e2 : j = i
      · subst e2
        rw [getD_set_eq _ _ _ _ (by rw [idK_row _ _ _ hi]; exact hi), if_pos (by omega)]
      · rw [getD_set_ne _ _ _ _ _ e2, ih, if_neg (by omega), if_neg (by omega)]
    · rw [idK, getD_set_ne _ _ _ _ _ e, ih]
      by_cases e2 : i = j ∧ i < k
      · rw [if_pos e2, if_pos (by omega)]
      · rw [if_neg e2, if_neg (by omega)]

/-- The identity matrix. -/
def ident (n : Nat) : List (List Nat) := idK n n

set_option maxHeartbeats 1000000 in
theorem identity_any (n : Nat) (w : World) (hn : n ≤ 1000000) :
    Calls Try.prog 42 #[.int .i64 (n : Int)] w (RetM w n (ident n)) := by
  go_enter Try.func42, Try.ntmps42
  go_wp2_with fail
  refine (zeros_any n n _ hn (by omega)).mono ?_
  rintro e w1 ⟨_, G, C, g, c, rfl, hO1, hb1⟩
  have HO1 := Lib.hid hO1
  have HB1 := Lib.hid hb1
  clear hO1 hb1
  go_wp2
  go_loopw [4, 5, 11] (fun _ _ i ws => ∃ k : Nat, k ≤ n ∧ i = .int .i64 k ∧ Hid (OwnM ws w.heap.size G C g c (idK n k)) ∧ Hid (Below w.heap.size w ws)) (fun _ _ i _ => n - (intOf i).toNat)
  case atStart => exact ⟨0, Nat.zero_le _, rfl, HO1, HB1⟩
  case round =>
    obtain ⟨k, hk, rfl, hO, hb⟩ := hrel
    have hbz := hb.out.size
    by_cases hlt : k < n
    · have hlen := idK_len n k
      have hrow := idK_row n k k hlt
      have hc1 := hO.out.cell k (by rw [hlen]; exact hlt)
      rw [hrow] at hc1
      have hR := hO.out.row k (by rw [hlen]; exact hlt)
      have hc2 := hR.cell k (by rw [hrow]; exact hlt)
      have hfz := hR.frozen k
      have HS := Lib.hid (hR.stored k 1 (by omega))
      have HE := Lib.hid hlen
      have HR := Lib.hid hrow
      have hlG := hO.out.lt.1
      have hlg := hR.lt.1
      clear hR hlen hrow
      generalize hv : ((idK n k).getD k []).getD k 0 = v at *
      clear hv
      go_wp2
      go_round
      case rel =>
        exact ⟨k + 1, by omega, by go_num, hO.out.setRow k (by rw [HE.out]; exact hlt) _ HS.out.2 HS.out.1 (by rw [List.length_set]), HS.out.2.below hb.out hbz (by simp; exact hlg)⟩
      case measure => simp [intOf]; omega
    · obtain rfl : k = n := by omega
      go_wp2
      go_ret
      exact ⟨idK_len _ _, _, _, _, _, rfl, hO.out, hb.out⟩

theorem inRange_any (n : Int) (w : World) :
    Calls Try.prog 36 #[.int .i64 n] w fun e w' => e = .returned (.bool (decide (1 ≤ n ∧ n ≤ 256))) ∧ w = w' := by
  by_cases h1 : 1 ≤ n
  · by_cases h2 : n ≤ 256
    · have h : decide (1 ≤ n ∧ n ≤ 256) = true := by simp; omega
      rw [h]
      go_enter Try.func36, Try.ntmps36
      go_wp2
      go_ret
      exact ⟨rfl, rfl⟩
    · have h : decide (1 ≤ n ∧ n ≤ 256) = false := by simp; omega
      have hd : decide (n ≤ 256) = false := by simp; omega
      rw [h]
      go_enter Try.func36, Try.ntmps36
      go_wp2
      go_ret
      exact ⟨rfl, rfl⟩
  · have h : decide (1 ≤ n ∧ n ≤ 256) = false := by simp; omega
    have hd : decide (1 ≤ n) = false := by simp; omega
    rw [h]
    go_enter Try.func36, Try.ntmps36
    go_wp2
    go_ret
    exact ⟨rfl, rfl⟩

end Go.Proofs.Ytnhledngeicekaa
