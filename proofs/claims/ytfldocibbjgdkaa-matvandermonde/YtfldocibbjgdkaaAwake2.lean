/-
  What the laws' fixed fact 'awake' of layer 2 does: it is true, and nothing that was there is changed.
-/
import Derived.Test.YtfldocibbjgdkaaMatEq
namespace Go.Proofs.Ytfldocibbjgdkaa
open Go.RowKit

theorem van32 : vanK 2 3 = [[1, 0], [1, 1], [1, 2]] := by decide +kernel

theorem below_3 (w : World) (a b c : Obj) : Below w.heap.size w (((w.alloc a).alloc b).alloc c) := ((below_one w a).alloc (by simp) b).alloc (by simp; omega) c
theorem below_4 (w : World) (a b c d : Obj) : Below w.heap.size w ((((w.alloc a).alloc b).alloc c).alloc d) := (below_3 w a b c).alloc (by simp; omega) d

set_option maxRecDepth 100000 in
set_option maxHeartbeats 4000000 in
theorem awake_any (w : World) :
    Calls Try.prog 11 #[] w fun e w' => e = .returned (.bool true) ∧ Below w.heap.size w w' := by
  go_enter Try.func11, Try.ntmps11
  go_wp2_with fail
  refine (inverse_any _ _ 2 [[1, 1], [1, 2]] _ (grid_two w 1 1 1 2 (by omega) (by omega) (by omega) (by omega)) sd_a rfl rfl (by omega)).mono ?_
  rintro e w1 ⟨hb1, ⟨GX, CX, gx, cx, X, rfl, hX, sX, iX⟩ | ⟨rfl, hS⟩⟩
  rotate_left
  · exact absurd hS not_sing_a
  have hb1' := (below_3 w _ _ _).trans (hb1.mono (below_3 w _ _ _).size)
  have HX := Lib.hid hX
  have HSX := Lib.hid sX
  have HIX := Lib.hid iX
  have HB1 := Lib.hid hb1'
  clear hX sX iX hb1 hb1'
  go_wp2_with fail
  refine (matMul_at _ _ _ _ 2 2 X [[1, 1], [1, 2]] _ (HX.out.gridAt.below (below_3 w1 _ _ _)) (grid_two w1 1 1 1 2 (by omega) (by omega) (by omega) (by omega)) (Sd.of_sq HSX.out (by omega)) sd_a (HSX.out.row 0 (by omega)) (by rw [HSX.out.len]; omega) (by simp) HSX.out.len rfl).mono ?_
  rintro e w2 ⟨hyl, GY, CY, gy, cy, rfl, hY, hb2⟩
  have HY := Lib.hid hY
  have HYL := Lib.hid hyl
  have HB2 := Lib.hid (HB1.out.trans (((below_3 w1 _ _ _).trans (hb2.mono (below_3 w1 _ _ _).size)).mono HB1.out.size))
  clear hY hb2 hyl
  go_wp2_with fail
  refine (inverse_any _ _ 2 [[1, 1], [1, 1]] _ (grid_two w2 1 1 1 1 (by omega) (by omega) (by omega) (by omega)) sd_b rfl rfl (by omega)).mono ?_
  rintro e w3 ⟨hb3, ⟨_, _, _, _, X', rfl, _, _, iX'⟩ | ⟨rfl, hS⟩⟩
  · exact absurd iX' (no_inv_a X')
  have HY3 := Lib.hid (HY.out.gridAt.below ((below_3 w2 _ _ _).trans (hb3.mono (below_3 w2 _ _ _).size)))
  have HB3 := Lib.hid (HB2.out.trans (((below_3 w2 _ _ _).trans (hb3.mono (below_3 w2 _ _ _).size)).mono HB2.out.size))
  clear hS hb3
  go_wp2_with fail
  refine (rone_any 2 _ (by omega)).mono ?_
  rintro e w4 ⟨_, G4, C4, g4, c4, rfl, hO4, hb4⟩
  have HY4 := Lib.hid (HY3.out.below hb4)
  have HO4 := Lib.hid hO4
  have HB4 := Lib.hid (HB3.out.trans (hb4.mono HB3.out.size))
  clear hO4 hb4
  have HE : Hid (mprod X [[1, 1], [1, 2]] = roneK 2 2) := by
    show _ = _
    rw [prod_eq X _ sd_a HX.out.by by_a, HSX.out.len]
    exact inv_prod_left HIX.out by_a rfl
  go_wp2_with fail
  refine (same_at _ _ _ _ 2 2 _ (roneK 2 2) _ HY4.out HO4.out.gridAt HE.out HYL.out rfl).mono ?_
  rintro e w5 ⟨rfl, hb5⟩
  have HB5 := Lib.hid (HB4.out.trans (hb5.mono HB4.out.size))
  clear hb5
  go_wp2_with fail
  refine (vander_any 3 2 _ (by omega) (by omega) (by omega) (by omega)).mono ?_
  rintro e w6 ⟨_, G6, C6, g6, c6, rfl, hO6, hb6⟩
  have HO6 := Lib.hid hO6
  have HB6 := Lib.hid (HB5.out.trans (hb6.mono HB5.out.size))
  clear hO6 hb6
  go_wp2_with fail
  refine (same_at _ _ _ _ 3 3 (vanK 2 3) [[1, 0], [1, 1], [1, 2]] _ (HO6.out.gridAt.below (below_4 w6 _ _ _ _)) (grid_three w6 1 0 1 1 1 2 (by omega) (by omega) (by omega) (by omega) (by omega) (by omega)) van32 rfl rfl).mono ?_
  rintro e w7 ⟨rfl, hb7⟩
  have HB7 := Lib.hid (HB6.out.trans (((below_4 w6 _ _ _ _).trans (hb7.mono (below_4 w6 _ _ _ _).size)).mono HB6.out.size))
  clear hb7
  go_wp2_with fail
  refine (sound_none _ _ _).mono ?_
  rintro e w8 ⟨rfl, rfl⟩
  go_wp2
  go_ret
  exact ⟨rfl, HB7.out⟩

end Go.Proofs.Ytfldocibbjgdkaa
