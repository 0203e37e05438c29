/-
  What mat's functions on one row do: scale, addMultiple.
  What mat's functions that make matrices do: zeros, identity, One, copied.
  What the search by a closure does; mat.Sound and the reference's Sound; mat.copied.
  What the reference's Sound and Same do; copy; mat.copied.
  What mat.copied and mat.Mul do.
-/
import Derived.Test.YtjefjlalebpodaaMem
import Derived.Test.YtjefjlalebpodaaMats
import Derived.StillTailTactics
import Derived.BigRegion
import Derived.Deep.OwnRows
import Derived.Test.YtjefjlalebpodaaStr
import Derived.Laws.BytesString
namespace Go.Proofs.Ytjefjlalebpodaa
open Go.RowKit

set_option maxHeartbeats 1000000 in
theorem scale_any (tb g cap base f : Nat) (row : List Nat) (w : World) (ht : IsTab w tb) (htg : tb ≠ g) (hown : OwnB w base g cap row) (hf : f < 256) :
    Calls Try.prog 86 #[.pointer (some ⟨tb, 0, none⟩), .slice (some ⟨g, 0, none⟩) row.length cap, .int .u8 (f : Int)] w fun e w' => e = .returned (.tuple #[]) ∧ OwnB w' base g cap (Mt.scale row f) ∧ Chg [g] w w' := by
  have hm := hown.cap_le
  have hm' : row.length ≤ maxLen := by omega
  unfold maxLen at hm'
  clear hm
  have HT := Lib.hid ht
  have HO := Lib.hid hown
  clear ht hown
  go_enter Try.func86, Try.ntmps86
  go_wp2
  go_loopw [6, 7, 10] (fun _ _ i ws => ∃ k : Nat, k ≤ row.length ∧ i = .int .i64 k ∧ Hid (OwnB ws base g cap (Mt.scaleK row f k)) ∧ Hid (Chg [g] w ws)) (fun _ _ i _ => row.length - (intOf i).toNat)
  case atStart => exact ⟨0, Nat.zero_le _, rfl, by rw [Mt.scaleK_zero]; exact HO, Chg.refl _ _⟩
  case round =>
    obtain ⟨k, hk, rfl, hO, hC⟩ := hrel
    have hkl := Mt.scaleK_len row f k
    by_cases hlt : k < row.length
    · have hck := hO.out.cell k (by rw [hkl]; exact hlt)
      have hfz := hO.out.frozen k
      have HAT := Lib.hid (Mt.scaleK_at row f k)
      rw [HAT.out] at hck
      have hb := bytes_get row k HO.out.byte
      have hg := Gf.gm_lt (row.getD k 0) f hb
      have HS := Lib.hid (Mt.scaleK_set row f k hlt)
      have HST := Lib.hid (hO.out.storedN k (Gf.gm (row.getD k 0) f) hg)
      have HTT := Lib.hid (HT.out.chg hC.out (by simp; omega))
      clear HAT hkl
      generalize row.getD k 0 = x at *
      go_wp2_with ((go_at_call 72; refine (tmul_any _ _ _ _ HTT.out (by omega) (by omega)).mono ?_; rintro e w' ⟨rfl, n, rfl⟩))
      go_round
      case rel => exact ⟨k + 1, by omega, by go_num, by rw [HS.out]; exact (HST.out n).1, hC.out.trans (HST.out n).2⟩
      case measure => simp [intOf]; omega
    · obtain rfl : k = row.length := by omega
      rw [Mt.scaleK_all] at hO
      go_wp2
      go_end0
      exact ⟨rfl, hO.out, hC.out⟩

set_option maxHeartbeats 1000000 in
theorem addMul_zero (tb : Addr) (g rl cap vl vc : Nat) (va : Option Addr) (w : World) :
    Calls Try.prog 70 #[.pointer (some tb), .slice (some ⟨g, 0, none⟩) rl cap, .slice va vl vc, .int .u8 0] w fun e w' => e = .returned (.tuple #[]) ∧ w = w' := by
  go_enter Try.func70, Try.ntmps70
  go_wp2
  first | go_end0 | (simp only [Exit.inBlock, Exit.then]; refine bodyPost_ret (results_none rfl _ _ _) rfl ?_) | refine bodyPost_ret (results_none rfl _ _ _) rfl ?_
  exact ⟨rfl, rfl⟩

set_option maxHeartbeats 1000000 in
theorem addMul_some (tb g cap base f vc : Nat) (row other : List Nat) (va : Option Addr) (w : World) (ht : IsTab w tb) (htg : tb ≠ g) (hown : OwnB w base g cap row) (hs : SeenAt w va vc other)
    (hva : ∀ b off, va = some ⟨b, off, none⟩ → b ≠ g) (hl : other.length ≤ row.length) (hf : f < 256) (hf0 : f ≠ 0) :
    Calls Try.prog 70 #[.pointer (some ⟨tb, 0, none⟩), .slice (some ⟨g, 0, none⟩) row.length cap, .slice va other.length vc, .int .u8 (f : Int)] w fun e w' => e = .returned (.tuple #[]) ∧ OwnB w' base g cap (Mt.addMul row other f) ∧ Chg [g] w w' := by
  have hm := hown.cap_le
  have hm' : row.length ≤ maxLen := by omega
  unfold maxLen at hm'
  have t0 : ((f : Int) == 0) = false := by simp; omega
  have HT := Lib.hid ht
  have HO := Lib.hid hown
  have HSV := Lib.hid hs
  have HV := Lib.hid hva
  clear hm ht hown hs hva
  go_enter Try.func70, Try.ntmps70
  go_wp2
  go_loopw [8, 9, 14] (fun _ _ i ws => ∃ k : Nat, k ≤ other.length ∧ i = .int .i64 k ∧ Hid (OwnB ws base g cap (Mt.addMul row (other.take k) f)) ∧ Hid (Chg [g] w ws)) (fun _ _ i _ => other.length - (intOf i).toNat)
  case atStart => exact ⟨0, Nat.zero_le _, rfl, by rw [List.take_zero, Mt.addMul_nil]; exact HO, Chg.refl _ _⟩
  case round =>
    obtain ⟨k, hk, rfl, hO, hC⟩ := hrel
    by_cases hlt : k < other.length
    · have hkl := Mt.addMul_len row (other.take k) f
      have hkr : k < row.length := by omega
      have hck := hO.out.cell k (by rw [hkl]; exact hkr)
      have hfz := hO.out.frozen k
      have hb1 := bytes_get _ k hO.out.byte
      have hb2 := bytes_get _ k HSV.out.byte
      have hg := Gf.gm_lt (other.getD k 0) f hb2
      have hx := Gf.x_lt _ _ hb1 hg
      have HS := Lib.hid (Mt.addMul_set row other f k hlt hkr)
      have HST := Lib.hid (hO.out.storedN k _ hx)
      have HTT := Lib.hid (HT.out.chg hC.out (by simp; omega))
      obtain ⟨vb, voff, e, hcv0⟩ := HSV.out.cell k hlt
      subst e
      have hcv := hC.out.cell hcv0 (by simp; exact HV.out vb voff rfl)
      have HX := Lib.hid (u8_xor_nat _ _ hb1 hg)
      have hk1 : (k : Int) < (row.length : Int) := by omega
      have hk2 : (k : Int) < (other.length : Int) := by omega
      have hk3 : (0 : Int) ≤ (k : Int) := by omega
      clear hcv0 hkl
      generalize other.getD k 0 = x at *
      generalize (Mt.addMul row (other.take k) f).getD k 0 = y at *
      go_wp2
      go_region_with (first | (go_at_call 72; (with_reducible refine (tmul_any _ _ _ _ ?_ ?_ ?_).mono ?_); (exact HTT.out.alike rfl); omega; omega; rintro e w' ⟨rfl, n, rfl⟩) | (go_at_call 80; (with_reducible refine (add_any _ _ _ ?_ ?_).mono ?_); omega; omega; rintro e w' ⟨rfl, rfl⟩))
      all_goals go_wp2
      all_goals
        go_round
        case rel => exact ⟨k + 1, by omega, by go_num, by rw [HS.out]; exact (HST.out _).1, hC.out.trans (HST.out _).2⟩
        case measure => simp [intOf]; omega
    · obtain rfl : k = other.length := by omega
      have HE := Lib.hid (List.take_of_length_le (Nat.le_refl other.length))
      rw [HE.out] at hO
      go_wp2
      go_end0
      exact ⟨rfl, hO.out, hC.out⟩

theorem addMul_any (tb g cap base f vc : Nat) (row other : List Nat) (va : Option Addr) (w : World) (ht : IsTab w tb) (htg : tb ≠ g) (hown : OwnB w base g cap row) (hs : SeenAt w va vc other)
    (hva : ∀ b off, va = some ⟨b, off, none⟩ → b ≠ g) (hl : other.length ≤ row.length) (hf : f < 256) :
    Calls Try.prog 70 #[.pointer (some ⟨tb, 0, none⟩), .slice (some ⟨g, 0, none⟩) row.length cap, .slice va other.length vc, .int .u8 (f : Int)] w fun e w' => e = .returned (.tuple #[]) ∧ OwnB w' base g cap (Mt.addMul row other f) ∧ Chg [g] w w' := by
  by_cases h0 : f = 0
  · subst h0
    rw [Mt.addMul_zero]
    exact (addMul_zero _ g row.length cap other.length vc va w).mono fun e w' ⟨h, h'⟩ => by subst h'; exact ⟨h, hown, Chg.refl _ _⟩
  · exact addMul_some tb g cap base f vc row other va w ht htg hown hs hva hl hf h0

end Go.Proofs.Ytjefjlalebpodaa

namespace Go.Proofs.Ytjefjlalebpodaa
open Go.RowKit

theorem infoB : (Try.prog.info? 5).map (fun i => (i.zero, i.size, i.bytes)) = some (some (.int .u8 0), 1, 1) := by kernel_rfl
theorem infoR : (Try.prog.info? 22).map (fun i => (i.zero, i.size, i.bytes)) = some (some (.slice none 0 0), 1, 24) := by kernel_rfl

/-- A matrix of the call's own is handed back; nothing that was there has turned. -/
def RetM (w : World) (n : Nat) (m : List (List Nat)) (e : Ending) (w' : World) : Prop :=
  m.length = n ∧ ∃ G C g c, e = .returned (.slice (some ⟨G, 0, none⟩) n C) ∧ OwnM w' w.heap.size G C g c m ∧ Below w.heap.size w w'

/-- What the rows' slice holds while zeros makes row after row. -/
def zvals (g : Nat → Nat) (k n i : Nat) : List Value := (List.range n).map fun j => if j < i then .slice (some ⟨g j, 0, none⟩) k k else .slice none 0 0

structure Zer (w : World) (base G n k i : Nat) (g : Nat → Nat) : Prop where
  outer : w.ownsRow base 22 1 (.slice (some ⟨G, 0, none⟩) n n) n (zvals g k n i)
  row : ∀ j, j < i → OwnB w base (g j) k (List.replicate k 0)
  inj : ∀ a b, a < i → b < i → g a = g b → a = b

theorem zer_start (w : World) (base n k : Nat) (hb : base ≤ w.heap.size) (hn : n ≤ maxLen) : Zer (w.alloc (.cells (madeCells #[.slice none 0 0] n) 22)) base w.heap.size n k 0 (fun _ => 0) where
  outer := by
    have h := World.ownsRow_lit (base := base) (e := 22) (size := 1) w (madeCells #[.slice none 0 0] n) n hb hn (by rw [← Array.length_toList, toList_madeCells_one]; simp)
    rw [toList_madeCells_one] at h
    have e : zvals (fun _ => 0) k n 0 = List.replicate n (.slice none 0 0) := by
      apply List.ext_getElem
      · simp [zvals]
      · intro i h1 h2; simp [zvals]
    rw [e]
    exact h
  row j hj := by omega
  inj a b ha := by omega

theorem zvals_set (g : Nat → Nat) (k n i x : Nat) : (zvals g k n i).set i (.slice (some ⟨x, 0, none⟩) k k) = zvals (snoc i x g) k n (i + 1) := by
  apply List.ext_getElem
  · simp [zvals]
  · intro j h1 h2
    rw [List.getElem_set]
    simp only [zvals, List.getElem_map, List.getElem_range]
    by_cases e : i = j
    · subst e; simp [snoc_at]
    · rw [if_neg e]
      by_cases hj : j < i
      · rw [if_pos hj, if_pos (by omega), snoc_lt _ _ _ _ hj]
      · rw [if_neg hj, if_neg (by omega)]

theorem zer_step {w : World} {base G n k i : Nat} {g : Nat → Nat} (h : Zer w base G n k i g) (hi : i < n) (hb : base ≤ w.heap.size) (hk : k ≤ maxLen) :
    Zer ((w.alloc (.cells (madeCells #[.int .u8 0] k) 5)).setCell ⟨G, i, none⟩ (.slice (some ⟨w.heap.size, 0, none⟩) k k)) base G n k (i + 1) (snoc i w.heap.size g)
    ∧ Chg [G] w ((w.alloc (.cells (madeCells #[.int .u8 0] k) 5)).setCell ⟨G, i, none⟩ (.slice (some ⟨w.heap.size, 0, none⟩) k k)) := by
  have hG : base ≤ G ∧ G < w.heap.size := World.ownsRow.lt h.outer G rfl
  have hs := World.ownsRow.stored (World.ownsRow.alloc h.outer (.cells (madeCells #[.int .u8 0] k) 5)) i (.slice (some ⟨w.heap.size, 0, none⟩) k k)
  have hc : Chg [G] (w.alloc (.cells (madeCells #[.int .u8 0] k) 5)) ((w.alloc (.cells (madeCells #[.int .u8 0] k) 5)).setCell ⟨G, i, none⟩ (.slice (some ⟨w.heap.size, 0, none⟩) k k)) := Chg.of_grown hs.2
  refine ⟨⟨?_, ?_, ?_⟩, ((Chg.refl _ _).alloc _).trans hc⟩
  · rw [← zvals_set]; exact hs.1
  · intro j hj
    by_cases e : j = i
    · subst e
      rw [snoc_at]
      exact (ownB_made w base k hb hk).chg hc (by simp; omega)
    · rw [snoc_lt _ _ _ _ (by omega)]
      have hr := h.row j (by omega)
      exact (hr.chg (gs := []) ((Chg.refl _ _).alloc _) (by simp)).chg hc (by simp; exact owns_ne hr.own h.outer (by decide))
  · intro a b ha hb' e
    have hlt : ∀ j, j < i → g j < w.heap.size := fun j hj => (h.row j hj).lt.2
    by_cases e1 : a = i
    · by_cases e2 : b = i
      · omega
      · rw [e1, snoc_at, snoc_lt _ _ _ _ (by omega)] at e; have := hlt b (by omega); omega
    · by_cases e2 : b = i
      · rw [e2, snoc_at, snoc_lt _ _ _ _ (by omega)] at e; have := hlt a (by omega); omega
      · rw [snoc_lt _ _ _ _ (by omega), snoc_lt _ _ _ _ (by omega)] at e
        exact h.inj a b (by omega) (by omega) e

theorem getD_rep {α : Type} (n i : Nat) (x d : α) (h : i < n) : (List.replicate n x).getD i d = x := by
  rw [List.getD_eq_getElem?_getD, List.getElem?_replicate, if_pos h]; rfl

theorem zer_end {w : World} {base G n k : Nat} {g : Nat → Nat} (h : Zer w base G n k n g) : OwnM w base G n g (fun _ => k) (List.replicate n (List.replicate k 0)) where
  outer := by
    have e : rvals g (fun _ => k) (List.replicate n (List.replicate k 0)) = zvals g k n n := by
      unfold rvals zvals
      rw [List.length_replicate]
      apply List.map_congr_left
      intro j hj
      have hj' : j < n := by simpa using hj
      rw [if_pos hj', getD_rep _ _ _ _ hj', List.length_replicate]
    rw [e, List.length_replicate]
    exact h.outer
  row i hi := by
    rw [List.length_replicate] at hi
    rw [getD_rep _ _ _ _ hi]
    exact h.row i hi
  inj a b ha hb := by rw [List.length_replicate] at ha hb; exact h.inj a b ha hb

set_option maxHeartbeats 1000000 in
theorem zeros_any (n k : Nat) (w : World) (hn : n ≤ 1000000) (hk : k ≤ 1000000000) :
    Calls Try.prog 69 #[.int .i64 (n : Int), .int .i64 (k : Int)] w (RetM w n (List.replicate n (List.replicate k 0))) := by
  have hmk := run_make_row' (P := Try.prog) 30 22 (.slice none 0 0) 24 Try.underlying30 infoR rfl .i64 .i64 n (by omega) (by omega)
  have hmk' := run_make_row' (P := Try.prog) 22 5 (.int .u8 0) 1 Try.underlying22 infoB rfl .i64 .i64 k (by omega) (by omega)
  go_enter Try.func69, Try.ntmps69
  go_wp2
  go_loopw [6, 11] (fun _ i ws => ∃ (j : Nat) (g : Nat → Nat), j ≤ n ∧ i = .int .i64 j ∧ Hid (Zer ws w.heap.size w.heap.size n k j g) ∧ Hid (Below w.heap.size w ws)) (fun _ i _ => n - (intOf i).toNat)
  case atStart => exact ⟨0, _, Nat.zero_le _, rfl, zer_start w _ n k (Nat.le_refl _) (by unfold maxLen; omega), below_one _ _⟩
  case round =>
    obtain ⟨j, g, hj, rfl, hZ, hb⟩ := hrel
    have hbz := hb.out.size
    by_cases hlt : j < n
    · have HST := Lib.hid (zer_step hZ.out hlt hbz (by unfold maxLen; omega))
      obtain ⟨v, hcv⟩ : ∃ v, wr.cell? ⟨w.heap.size, j, none⟩ = some v := by
        rw [World.ownsRow.cellAt hZ.out.outer j (by omega)]
        exact ⟨_, List.getElem?_eq_getElem (by simp [zvals]; omega)⟩
      obtain ⟨hca, hfa⟩ := after_alloc hcv (World.ownsRow.frozenAt hZ.out.outer j)
      clear hcv
      go_wp2
      go_round
      case rel => exact ⟨j + 1, _, by omega, by go_num, HST.out.1, HST.out.2.below hb.out hbz (by simp)⟩
      case measure => simp [intOf]; omega
    · obtain rfl : j = n := by omega
      go_wp2
      go_ret
      exact ⟨by simp, _, _, _, _, rfl, zer_end hZ.out, hb.out⟩

/-- The identity matrix, its first k rows done. -/
def idK (n : Nat) : Nat → List (List Nat)
  | 0 => List.replicate n (List.replicate n 0)
  | k + 1 => (idK n k).set k (((idK n k).getD k []).set k 1)

theorem idK_len (n k : Nat) : (idK n k).length = n := by
  induction k with
  | zero => simp [idK]
  | succ k ih => simp [idK, ih]

theorem idK_row (n k i : Nat) (hi : i < n) : ((idK n k).getD i []).length = n := by
  induction k with
  | zero => show ((List.replicate n (List.replicate n 0)).getD i []).length = n; rw [getD_rep _ _ _ _ hi]; simp
  | succ k ih =>
    by_cases e : i = k
    · subst e
      rw [idK, getD_set_eq _ _ _ _ (by rw [idK_len]; exact hi), List.length_set, ih]
    · rw [idK, getD_set_ne _ _ _ _ _ e, ih]

theorem idK_get (n k i j : Nat) (hi : i < n) (hj : j < n) : ((idK n k).getD i []).getD j 0 = if i = j ∧ i < k then 1 else 0 := by
  induction k with
  | zero =>
    show ((List.replicate n (List.replicate n 0)).getD i []).getD j 0 = _
    rw [getD_rep _ _ _ _ hi, getD_rep _ _ _ _ hj, if_neg (by omega)]
  | succ k ih =>
    by_cases e : i = k
    · subst e
      rw [idK, getD_set_eq _ _ _ _ (by rw [idK_len]; exact hi)]
      by_cases e2 : j = i
      · subst e2
        rw [getD_set_eq _ _ _ _ (by rw [idK_row _ _ _ hi]; exact hi), if_pos (by omega)]
      · rw [getD_set_ne _ _ _ _ _ e2, ih, if_neg (by omega), if_neg (by omega)]
    · rw [idK, getD_set_ne _ _ _ _ _ e, ih]
      by_cases e2 : i = j ∧ i < k
      · rw [if_pos e2, if_pos (by omega)]
      · rw [if_neg e2, if_neg (by omega)]

/-- The identity matrix. -/
def ident (n : Nat) : List (List Nat) := idK n n

set_option maxHeartbeats 1000000 in
theorem identity_any (n : Nat) (w : World) (hn : n ≤ 1000000) :
    Calls Try.prog 74 #[.int .i64 (n : Int)] w (RetM w n (ident n)) := by
  go_enter Try.func74, Try.ntmps74
  go_wp2_with fail
  refine (zeros_any n n _ hn (by omega)).mono ?_
  rintro e w1 ⟨_, G, C, g, c, rfl, hO1, hb1⟩
  have HO1 := Lib.hid hO1
  have HB1 := Lib.hid hb1
  clear hO1 hb1
  go_wp2
  go_loopw [4, 5, 11] (fun _ _ i ws => ∃ k : Nat, k ≤ n ∧ i = .int .i64 k ∧ Hid (OwnM ws w.heap.size G C g c (idK n k)) ∧ Hid (Below w.heap.size w ws)) (fun _ _ i _ => n - (intOf i).toNat)
  case atStart => exact ⟨0, Nat.zero_le _, rfl, HO1, HB1⟩
  case round =>
    obtain ⟨k, hk, rfl, hO, hb⟩ := hrel
    have hbz := hb.out.size
    by_cases hlt : k < n
    · have hlen := idK_len n k
      have hrow := idK_row n k k hlt
      have hc1 := hO.out.cell k (by rw [hlen]; exact hlt)
      rw [hrow] at hc1
      have hR := hO.out.row k (by rw [hlen]; exact hlt)
      have hc2 := hR.cell k (by rw [hrow]; exact hlt)
      have hfz := hR.frozen k
      have HS := Lib.hid (hR.stored k 1 (by omega))
      have HE := Lib.hid hlen
      have HR := Lib.hid hrow
      have hlG := hO.out.lt.1
      have hlg := hR.lt.1
      clear hR hlen hrow
      generalize hv : ((idK n k).getD k []).getD k 0 = v at *
      clear hv
      go_wp2
      go_round
      case rel =>
        exact ⟨k + 1, by omega, by go_num, hO.out.setRow k (by rw [HE.out]; exact hlt) _ HS.out.2 HS.out.1 (by rw [List.length_set]), HS.out.2.below hb.out hbz (by simp; exact hlg)⟩
      case measure => simp [intOf]; omega
    · obtain rfl : k = n := by omega
      go_wp2
      go_ret
      exact ⟨idK_len _ _, _, _, _, _, rfl, hO.out, hb.out⟩

theorem inRange_any (n : Int) (w : World) :
    Calls Try.prog 71 #[.int .i64 n] w fun e w' => e = .returned (.bool (decide (1 ≤ n ∧ n ≤ 256))) ∧ w = w' := by
  by_cases h1 : 1 ≤ n
  · by_cases h2 : n ≤ 256
    · have h : decide (1 ≤ n ∧ n ≤ 256) = true := by simp; omega
      rw [h]
      go_enter Try.func71, Try.ntmps71
      go_wp2
      go_ret
      exact ⟨rfl, rfl⟩
    · have h : decide (1 ≤ n ∧ n ≤ 256) = false := by simp; omega
      have hd : decide (n ≤ 256) = false := by simp; omega
      rw [h]
      go_enter Try.func71, Try.ntmps71
      go_wp2
      go_ret
      exact ⟨rfl, rfl⟩
  · have h : decide (1 ≤ n ∧ n ≤ 256) = false := by simp; omega
    have hd : decide (1 ≤ n) = false := by simp; omega
    rw [h]
    go_enter Try.func71, Try.ntmps71
    go_wp2
    go_ret
    exact ⟨rfl, rfl⟩

end Go.Proofs.Ytjefjlalebpodaa

namespace Go.Proofs.Ytjefjlalebpodaa
open Go.RowKit

theorem GridAt.at {w : World} {a : Option Addr} {cap : Nat} {m : List (List Nat)} (h : GridAt w a cap m) (i : Nat) (hi : i < m.length) :
    ∃ b off ra rc, a = some ⟨b, off, none⟩ ∧ w.cell? ⟨b, off + i, none⟩ = some (.slice ra (m.getD i []).length rc) ∧ SeenAt w ra rc (m.getD i []) := by
  obtain ⟨b, off, r, e, hc, ra, rc, hr, hs⟩ := h.row i hi
  subst hr
  exact ⟨b, off, ra, rc, e, hc, hs⟩

/-- The first place of n at which p holds, or -1. -/
def IdxPost (w : World) (n : Nat) (p : Nat → Prop) (e : Ending) (w' : World) : Prop :=
  ((e = .returned (.int .i64 (-1)) ∧ ∀ i, i < n → ¬ p i) ∨ ∃ j, j < n ∧ e = .returned (.int .i64 (j : Int)) ∧ p j ∧ ∀ i, i < j → ¬ p i) ∧ w = w'

theorem snd1_no (ra : Option Addr) (k rc : Nat) (cp : Addr) (w : World) (hc : w.cell? cp = some (.int .i64 (k : Int))) :
    Calls Try.prog 78 #[.slice ra k rc, .pointer (some cp)] w fun e w' => e = .returned (.bool false) ∧ w = w' := by
  have hd : ((k : Int) != (k : Int)) = false := by simp
  go_enter Try.func78, Try.ntmps78
  go_wp2
  go_ret
  exact ⟨rfl, rfl⟩

theorem snd1_yes (ra : Option Addr) (k l rc : Nat) (cp : Addr) (w : World) (hc : w.cell? cp = some (.int .i64 (k : Int))) (hl : l ≠ k) :
    Calls Try.prog 78 #[.slice ra l rc, .pointer (some cp)] w fun e w' => e = .returned (.bool true) ∧ w = w' := by
  have hd : ((l : Int) != (k : Int)) = true := by simp; omega
  go_enter Try.func78, Try.ntmps78
  go_wp2
  go_ret
  exact ⟨rfl, rfl⟩

set_option maxHeartbeats 1000000 in
theorem idx_snd (va : Option Addr) (vc k : Nat) (cp : Addr) (m : List (List Nat)) (w : World) (hG : GridAt w va vc m) (hc : w.cell? cp = some (.int .i64 (k : Int))) :
    Calls Try.prog 82 #[.slice va m.length vc, .func (.func 78) #[] #[.pointer (some cp)]] w (IdxPost w m.length fun i => (m.getD i []).length ≠ k) := by
  have hm := hG.max
  have hm' : m.length ≤ maxLen := Nat.le_trans hG.le hm
  unfold maxLen at hm'
  have HG := Lib.hid hG
  clear hm hG
  go_enter Try.func82, Try.ntmps82
  go_wp2
  go_loop [5, 8] (fun _ i => ∃ j : Nat, j ≤ m.length ∧ i = .int .i64 j ∧ Hid (∀ i, i < j → ¬ (m.getD i []).length ≠ k)) (fun _ i => m.length - (intOf i).toNat)
  case atStart => exact ⟨0, Nat.zero_le _, rfl, fun i hi => by omega⟩
  case round =>
    obtain ⟨j, hj, rfl, hN⟩ := hrel
    by_cases hlt : j < m.length
    · obtain ⟨b, off, ra, rc, e, hcr, hS⟩ := HG.out.at j hlt
      subst e
      have HP := Lib.hid hcr
      by_cases he : (m.getD j []).length = k
      · rw [he] at hcr
        have HE := Lib.hid he
        clear he hS
        go_wp2_with fail
        refine (snd1_no _ _ _ _ _ hc).mono ?_
        rintro e w' ⟨rfl, rfl⟩
        go_wp2
        go_round
        case rel =>
          refine ⟨j + 1, by omega, by go_num, fun i hi => ?_⟩
          by_cases e : i = j
          · subst e; exact fun h => h HE.out
          · exact hN.out i (by omega)
        case measure => simp [intOf]; omega
      · have HE := Lib.hid he
        clear he hS
        generalize hll : (m.getD j []).length = l at *
        have HL := Lib.hid hll
        clear hll
        go_wp2_with fail
        refine (snd1_yes _ _ _ _ _ _ hc HE.out).mono ?_
        rintro e w' ⟨rfl, rfl⟩
        go_wp2
        go_ret
        refine ⟨.inr ⟨j, hlt, rfl, ?_, hN.out⟩, rfl⟩
        show (m.getD j []).length ≠ k
        rw [HL.out]; exact HE.out
    · obtain rfl : j = m.length := by omega
      go_wp2
      go_ret
      exact ⟨.inl ⟨rfl, hN.out⟩, rfl⟩

theorem has_snd_no (va : Option Addr) (vc k : Nat) (cp : Addr) (m : List (List Nat)) (w : World) (hG : GridAt w va vc m) (hc : w.cell? cp = some (.int .i64 (k : Int))) (h : ∀ i, i < m.length → (m.getD i []).length = k) :
    Calls Try.prog 77 #[.slice va m.length vc, .func (.func 78) #[] #[.pointer (some cp)]] w fun e w' => e = .returned (.bool false) ∧ w = w' := by
  have HG := Lib.hid hG
  have HN := Lib.hid h
  clear hG h
  go_enter Try.func77, Try.ntmps77
  go_wp2_with fail
  refine (idx_snd _ _ _ _ _ _ HG.out hc).mono ?_
  rintro e w' ⟨⟨rfl, _⟩ | ⟨j, hj, rfl, hp, _⟩, rfl⟩
  · go_wp2
    go_ret
    exact ⟨rfl, rfl⟩
  · exact absurd (HN.out j hj) hp

theorem has_snd_yes (va : Option Addr) (vc k : Nat) (cp : Addr) (m : List (List Nat)) (w : World) (hG : GridAt w va vc m) (hc : w.cell? cp = some (.int .i64 (k : Int))) (h : ¬ ∀ i, i < m.length → (m.getD i []).length = k) :
    Calls Try.prog 77 #[.slice va m.length vc, .func (.func 78) #[] #[.pointer (some cp)]] w fun e w' => e = .returned (.bool true) ∧ w = w' := by
  have HG := Lib.hid hG
  have HN := Lib.hid h
  clear hG h
  go_enter Try.func77, Try.ntmps77
  go_wp2_with fail
  refine (idx_snd _ _ _ _ _ _ HG.out hc).mono ?_
  rintro e w' ⟨⟨rfl, hq⟩ | ⟨j, hj, rfl, hp, _⟩, rfl⟩
  · exact absurd (fun i hi => Decidable.byContradiction fun hn => hq i hi hn) HN.out
  · have h0 : (0 : Int) ≤ (j : Int) := by omega
    clear hp
    go_wp2
    go_ret
    exact ⟨rfl, rfl⟩

/-- Rows of one length, and some. -/
def Sd (m : List (List Nat)) : Prop := 0 < m.length ∧ 0 < (m.getD 0 []).length ∧ ∀ i, i < m.length → (m.getD i []).length = (m.getD 0 []).length

theorem cell_new (w : World) (v : Value) (t : TypeId) : (w.alloc (.cells #[v] t)).cell? ⟨w.heap.size, 0, none⟩ = some v := by
  rw [World.cell?_alloc_at (hn := rfl)]; rfl

set_option maxHeartbeats 1000000 in
theorem sound_yes (va : Option Addr) (vc : Nat) (m : List (List Nat)) (w : World) (hG : GridAt w va vc m) (h : Sd m) :
    Calls Try.prog 67 #[.slice va m.length vc] w fun e w' => e = .returned (.bool true) ∧ Below w.heap.size w w' := by
  obtain ⟨h1, h2, h3⟩ := h
  obtain ⟨b, off, ra, rc, e, hcr, _⟩ := hG.at 0 h1
  rw [Nat.add_zero] at hcr
  subst e
  have HG := Lib.hid hG
  have HN := Lib.hid h3
  have hm := Nat.le_trans hG.le hG.max
  unfold maxLen at hm
  clear hG h3
  generalize hk : (m.getD 0 []).length = k at *
  clear hk
  have t0 : ((m.length : Int) == 0) = false := by simp; intro h; rw [h] at h1; simp at h1
  have t1 : ((k : Int) == 0) = false := by simp; omega
  have hmf : ∀ (fn : Fn) (first cap : Array Value) (w : World), (Instr.makeFunc fn first cap).run Try.prog w = .ok (.func fn first cap) w := fun _ _ _ _ => rfl
  go_enter Try.func67, Try.ntmps67
  go_wp2_with fail
  refine (has_snd_no _ _ k _ m _ (HG.out.below (below_one _ _)) (cell_new _ _ _) HN.out).mono ?_
  rintro e w' ⟨rfl, rfl⟩
  go_wp2
  go_ret
  exact ⟨rfl, below_one _ _⟩

set_option maxHeartbeats 1000000 in
theorem sound_none (va : Option Addr) (vc : Nat) (w : World) :
    Calls Try.prog 67 #[.slice va 0 vc] w fun e w' => e = .returned (.bool false) ∧ w = w' := by
  go_enter Try.func67, Try.ntmps67
  go_wp2
  go_ret
  exact ⟨rfl, rfl⟩

set_option maxHeartbeats 1000000 in
theorem sound_empty (b off l vc rc : Nat) (ra : Option Addr) (w : World) (hl : 0 < l) (hc : w.cell? ⟨b, off, none⟩ = some (.slice ra 0 rc)) :
    Calls Try.prog 67 #[.slice (some ⟨b, off, none⟩) l vc] w fun e w' => e = .returned (.bool false) ∧ w = w' := by
  have t0 : ((l : Int) == 0) = false := by simp; omega
  go_enter Try.func67, Try.ntmps67
  go_wp2
  go_ret
  exact ⟨rfl, rfl⟩

set_option maxHeartbeats 1000000 in
theorem sound_ragged (va : Option Addr) (vc : Nat) (m : List (List Nat)) (w : World) (hG : GridAt w va vc m) (h1 : 0 < m.length) (h2 : 0 < (m.getD 0 []).length) (h3 : ¬ ∀ i, i < m.length → (m.getD i []).length = (m.getD 0 []).length) :
    Calls Try.prog 67 #[.slice va m.length vc] w fun e w' => e = .returned (.bool false) ∧ Below w.heap.size w w' := by
  obtain ⟨b, off, ra, rc, e, hcr, _⟩ := hG.at 0 h1
  rw [Nat.add_zero] at hcr
  subst e
  have HG := Lib.hid hG
  have HN := Lib.hid h3
  have hm := Nat.le_trans hG.le hG.max
  unfold maxLen at hm
  clear hG h3
  generalize hk : (m.getD 0 []).length = k at *
  clear hk
  have t0 : ((m.length : Int) == 0) = false := by simp; intro h; rw [h] at h1; simp at h1
  have t1 : ((k : Int) == 0) = false := by simp; omega
  have hmf : ∀ (fn : Fn) (first cap : Array Value) (w : World), (Instr.makeFunc fn first cap).run Try.prog w = .ok (.func fn first cap) w := fun _ _ _ _ => rfl
  go_enter Try.func67, Try.ntmps67
  go_wp2_with fail
  refine (has_snd_yes _ _ k _ m _ (HG.out.below (below_one _ _)) (cell_new _ _ _) HN.out).mono ?_
  rintro e w' ⟨rfl, rfl⟩
  go_wp2
  go_ret
  exact ⟨rfl, below_one _ _⟩

theorem sound_no (va : Option Addr) (vc : Nat) (m : List (List Nat)) (w : World) (hG : GridAt w va vc m) (h : ¬ Sd m) :
    Calls Try.prog 67 #[.slice va m.length vc] w fun e w' => e = .returned (.bool false) ∧ Below w.heap.size w w' := by
  by_cases h1 : 0 < m.length
  · by_cases h2 : 0 < (m.getD 0 []).length
    · exact sound_ragged va vc m w hG h1 h2 fun h3 => h ⟨h1, h2, h3⟩
    · obtain ⟨b, off, ra, rc, e, hcr, _⟩ := hG.at 0 h1
      rw [Nat.add_zero, show (m.getD 0 []).length = 0 by omega] at hcr
      subst e
      exact (sound_empty b off m.length vc rc ra w h1 hcr).mono fun e w' ⟨h, h'⟩ => by subst h'; exact ⟨h, Below.refl _ _⟩
  · rw [show m.length = 0 by omega]
    exact (sound_none va vc w).mono fun e w' ⟨h, h'⟩ => by subst h'; exact ⟨h, Below.refl _ _⟩

end Go.Proofs.Ytjefjlalebpodaa

namespace Go.Proofs.Ytjefjlalebpodaa
open Go.RowKit

theorem ret_bool {a b : Bool} (h : a = b) : Ending.returned (.bool a) = .returned (.bool b) := by rw [h]

theorem heap_of_owns {w : World} {base g cap n : Nat} {e : TypeId} {xs : List Value} (h : w.ownsRow base e 1 (.slice (some ⟨g, 0, none⟩) n cap) n xs) :
    ∃ cur : Array Value, w.heap[g]? = some (.cells cur e (0, 0)) ∧ n ≤ cap ∧ cap ≤ maxLen ∧ cur.size = cap ∧ base ≤ g := by
  rcases h.2 with ⟨h', _⟩ | ⟨g', cap', cur, h', hb, hg, hnc, hcm, hcs, _⟩
  · cases h'
  · cases h'; exact ⟨cur, hg, hnc, hcm, by omega, hb⟩

/-- copy(d, s): a whole row of bytes of the call's own, as long as what is copied. -/
theorem wpList_copyB {ops : Array Oper} {rest : List Oper} {o : Oper} {a : Act} {Q : Exit → Act → World → Prop} {w : World} (hgd : o.guard = none) (d s : Operand)
    (ho : o.op = .call { callee := .builtin .copy, args := #[d, s], argTypes := #[22, 22] })
    (base g cap : Nat) (ps qs : List Nat) (n : Nat) (hn : ps.length = n) (hq : qs.length = n) (hd : a.eval d = .slice (some ⟨g, 0, none⟩) n cap) (hown : OwnB w base g cap ps)
    (xa : Option Addr) (xc : Nat) (hx : a.eval s = .slice xa n xc) (hs : SeenAt w xa xc qs)
    (h : ∀ w', OwnB w' base g cap qs → Chg [g] w w' → wpList Try.prog ops Q rest (a.put o.dst (goInt n)) w') :
    wpList Try.prog ops Q (o :: rest) a w := by
  subst hn
  have hinf : (Try.prog.info? 5).map (·.size) = some 1 := by kernel_rfl
  by_cases h0 : qs = []
  · subst h0
    have hp : ps = [] := by simpa using hq.symm
    subst hp
    refine wpList_copy_nothing hgd d s _ _ ho 5 Try.underlying22 hinf _ xa 0 cap 0 xc hd hx rfl ?_
    exact h w hown (Chg.refl _ _)
  · have hp : 0 < qs.length := by cases qs with | nil => exact absurd rfl h0 | cons c p => simp
    obtain ⟨b, off, rfl, _⟩ := hs.cell 0 hp
    obtain ⟨cur, hg, hnc, hcm, hsz, hbg⟩ := heap_of_owns hown.own
    have hl : (vals qs).length = ps.length := by rw [vals_len, hq]
    refine wpList_copy_own hgd d s _ _ ho 5 Try.underlying22 hinf g 0 ps.length cap ⟨b, off, none⟩ ps.length xc hd hx cur 5 hg (vals qs) (by rw [hl]; exact (Nat.min_self _).symm)
      (fun j v hv => ?_) (by omega) (vals_one qs) ?_
    · have hj : j < qs.length := by
        rcases Nat.lt_or_ge j qs.length with hlt | hge
        · exact hlt
        · rw [List.getElem?_eq_none (by rw [vals_len]; exact hge)] at hv; cases hv
      obtain ⟨b', off', e, hc⟩ := hs.cell j hj
      cases e
      rw [vals_at qs j hj] at hv
      rw [Go.WideShapes.add_plain, hc]
      exact hv
    · rw [hl]
      refine h _ ⟨⟨by rw [vals_len]; omega, .inr ⟨g, cap, _, rfl, hbg, setRow_heap w g cur _ _ _ hg, by omega, hcm, ?_, ?_⟩⟩, hs.byte⟩ ⟨rfl, rfl, rfl, by simp [World.setRow], fun k _ hk => setRow_other w g k _ (by simpa using hk)⟩
      · simp [hsz, vals_len]; omega
      · simp [vals_len]

end Go.Proofs.Ytjefjlalebpodaa

namespace Go.Proofs.Ytjefjlalebpodaa
open Go.RowKit

theorem getD_congr {α : Type} (m m' : List α) (d : α) (hl : m.length = m'.length) (h : ∀ i, i < m.length → m.getD i d = m'.getD i d) : m = m' := by
  apply List.ext_getElem hl
  intro i h1 h2
  have := h i h1
  rw [List.getD_eq_getElem?_getD, List.getD_eq_getElem?_getD, List.getElem?_eq_getElem h1, List.getElem?_eq_getElem h2] at this
  exact this

/-- A copy of m, its first i rows done. -/
def cpK (m : List (List Nat)) (k : Nat) : Nat → List (List Nat)
  | 0 => List.replicate m.length (List.replicate k 0)
  | i + 1 => (cpK m k i).set i (m.getD i [])

theorem cpK_len (m : List (List Nat)) (k i : Nat) : (cpK m k i).length = m.length := by
  induction i with
  | zero => simp [cpK]
  | succ i ih => simp [cpK, ih]

theorem cpK_row (m : List (List Nat)) (k i j : Nat) (hj : j < m.length) : (cpK m k i).getD j [] = if j < i then m.getD j [] else List.replicate k 0 := by
  induction i with
  | zero => show (List.replicate m.length (List.replicate k 0)).getD j [] = _; rw [getD_rep _ _ _ _ hj, if_neg (by omega)]
  | succ i ih =>
    by_cases e : j = i
    · subst e; rw [cpK, getD_set_eq _ _ _ _ (by rw [cpK_len]; exact hj), if_pos (by omega)]
    · rw [cpK, getD_set_ne _ _ _ _ _ e, ih]
      by_cases h : j < i
      · rw [if_pos h, if_pos (by omega)]
      · rw [if_neg h, if_neg (by omega)]

theorem cpK_all (m : List (List Nat)) (k : Nat) : cpK m k m.length = m := by
  refine getD_congr _ _ [] (cpK_len _ _ _) fun i hi => ?_
  rw [cpK_len] at hi
  rw [cpK_row _ _ _ _ hi, if_pos hi]

set_option maxRecDepth 100000 in
set_option maxHeartbeats 1000000 in
theorem copied_any (va : Option Addr) (vc k : Nat) (m : List (List Nat)) (w : World) (hG : GridAt w va vc m) (h0 : 0 < m.length) (hn : m.length ≤ 1000000) (hk : k ≤ 1000000000) (hr : ∀ i, i < m.length → (m.getD i []).length = k) :
    Calls Try.prog 73 #[.slice va m.length vc] w (RetM w m.length m) := by
  obtain ⟨b, off, ra, rc, e, hcr, _⟩ := hG.at 0 h0
  rw [Nat.add_zero, hr 0 h0] at hcr
  subst e
  have HG := Lib.hid hG
  have HR := Lib.hid hr
  clear hG hr
  go_enter Try.func73, Try.ntmps73
  go_wp2_with fail
  refine (zeros_any m.length k _ hn hk).mono ?_
  rintro e w1 ⟨_, G, C, g, c, rfl, hO1, hb1⟩
  have HO1 := Lib.hid hO1
  have HB1 := Lib.hid hb1
  clear hO1 hb1 hcr
  go_wp2
  go_loopw [4, 5, 15] (fun _ _ i ws => ∃ j : Nat, j ≤ m.length ∧ i = .int .i64 j ∧ Hid (OwnM ws w.heap.size G C g c (cpK m k j)) ∧ Hid (Below w.heap.size w ws)) (fun _ _ i _ => m.length - (intOf i).toNat)
  case atStart => exact ⟨0, Nat.zero_le _, rfl, HO1, HB1⟩
  case round =>
    obtain ⟨j, hj, rfl, hO, hb⟩ := hrel
    have hbz := hb.out.size
    by_cases hlt : j < m.length
    · have hlen := cpK_len m k j
      have hrow : ((cpK m k j).getD j []).length = k := by rw [cpK_row _ _ _ _ hlt, if_neg (by omega)]; simp
      have hc1 := hO.out.cell j (by rw [hlen]; exact hlt)
      rw [hrow] at hc1
      have hR := hO.out.row j (by rw [hlen]; exact hlt)
      obtain ⟨b', off', ra', rc', e, hcj0, hSj0⟩ := HG.out.at j hlt
      cases e
      have hSj := hSj0.below hb.out
      have hcj := cell_later hb.out hcj0
      rw [HR.out j hlt] at hcj
      have HE := Lib.hid hlen
      have HW := Lib.hid hrow
      have HRR := Lib.hid hR
      have HSJ := Lib.hid hSj
      have hlg := hR.lt.1
      have HML := Lib.hid (HR.out j hlt)
      clear hR hlen hrow hSj hSj0 hcj0
      go_wp2_with (with_reducible refine wpList_copyB rfl (.tmp 23) (.tmp 24) rfl w.heap.size (g j) (c j) ((cpK m k j).getD j []) (m.getD j []) k HW.out HML.out rfl HRR.out _ _ rfl HSJ.out ?_; intro w2 hO2 hC2)
      go_round
      case rel =>
        exact ⟨j + 1, by omega, by go_num, hO.out.setRow j (by rw [HE.out]; exact hlt) _ hC2 hO2 (by rw [HW.out, HML.out]), hC2.below hb.out hbz (by simp; exact hlg)⟩
      case measure => simp [intOf]; omega
    · obtain rfl : j = m.length := by omega
      have HE := Lib.hid (cpK_all m k)
      rw [HE.out] at hO
      go_wp2
      go_ret
      exact ⟨rfl, _, _, _, _, rfl, hO.out, hb.out⟩

end Go.Proofs.Ytjefjlalebpodaa
