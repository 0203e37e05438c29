/-
  The fixed fact of layer 11.
-/
import Derived.Test.YtepimdkpkfbgcaaWalksF2
namespace Go.Proofs.Ytepimdkpkfbgcaa
open Go.RowKit

theorem ints3 (w : World) (B : Nat) (hB : w.heap.size = B) : IntsAt (w.alloc (.cells #[.int .i64 0, .int .i64 1, .int .i64 2] 3)) (some ⟨B, 0, none⟩) 3 (upZ 3) :=
  OwnZ.ints (ownZ_lit w 0 B (upZ 3) _ 3 (upZ_len 3) rfl (Nat.zero_le _) hB (by unfold maxLen; omega)) (upZ_wf 3 (by omega))

set_option maxRecDepth 100000 in
set_option maxHeartbeats 1000000 in
theorem awake11 (w : World) :
    Calls Try.prog 8 #[] w fun e w' => e = .returned (.bool true) ∧ Below w.heap.size w w' := by
  go_enter Try.func8, Try.ntmps8
  go_wp2_with fail
  refine (first_yes 2 1 3 _ (by decide) (by decide)).mono ?_
  rintro e w1 ⟨a, cap, rfl, hI, hb⟩
  rw [upZ_len]
  have HX : Hid (Box (w1.alloc (.cells #[.int .i64 1, .slice a 3 cap] 24)) w1.heap.size #[.int .i64 1, .slice a 3 cap]) := box_new _ _ _ _ rfl
  have HI := Lib.hid (hI.below (below_one w1 (.cells #[.int .i64 1, .slice a 3 cap] 24)))
  have HB := Lib.hid (hb.trans ((below_one w1 (.cells #[.int .i64 1, .slice a 3 cap] 24)).mono hb.size))
  clear hI hb
  go_wp2_with fail
  refine (cfNext_any _ _ _ 3 (upZ 3) _ _ rfl HI.out).mono ?_
  rintro e w2 ⟨rfl, hb2⟩
  rw [show bsV (upZ 3) 1 1 = 2 by decide, show bsO (upZ 3) 1 1 = true by decide]
  have HX2 := Lib.hid (HX.out.below hb2)
  have HI2 := Lib.hid (HI.out.below hb2)
  have HB2 := Lib.hid (HB.out.trans (hb2.mono HB.out.size))
  clear HX HI HB hb2
  obtain ⟨x0, x1⟩ := box2 HX2.out
  generalize w1.heap.size = B1 at *
  go_wp2_with fail
  refine (cfNext_any _ _ _ 3 (upZ 3) _ _ rfl HI2.out).mono ?_
  rintro e w3 ⟨rfl, hb3⟩
  rw [show bsV (upZ 3) 2 1 = 0 by decide, show bsO (upZ 3) 2 1 = false by decide]
  have HX3 := Lib.hid (HX2.out.below hb3)
  have HI3 := Lib.hid (HI2.out.below hb3)
  have HB3 := Lib.hid (HB2.out.trans (hb3.mono HB2.out.size))
  clear HX2 HI2 HB2 hb3 x0 x1
  obtain ⟨x0, x1⟩ := box2 HX3.out
  go_wp2_with fail
  refine (cfHead_any _ _ _ 3 (upZ 3) _ rfl HI3.out).mono ?_
  rintro e w4 ⟨rfl, hb4⟩
  rw [show atV (upZ 3) 0 = 0 by decide, show atO 3 0 = true by decide]
  have HX4 := Lib.hid (HX3.out.below hb4)
  have HI4 := Lib.hid (HI3.out.below hb4)
  have HB4 := Lib.hid (HB3.out.trans (hb4.mono HB3.out.size))
  clear HX3 HI3 HB3 hb4 x0 x1
  obtain ⟨x0, x1⟩ := box2 HX4.out
  go_wp2_with fail
  refine (cfTail_any _ _ _ 3 (upZ 3) _ rfl HI4.out).mono ?_
  rintro e w5 ⟨rfl, hb5⟩
  rw [show atV (upZ 3) (((3 : Nat) : Int) - 1) = 2 by decide, show atO 3 (((3 : Nat) : Int) - 1) = true by decide]
  have HX5 := Lib.hid (HX4.out.below hb5)
  have HI5 := Lib.hid (HI4.out.below hb5)
  have HB5 := Lib.hid (HB4.out.trans (hb5.mono HB4.out.size))
  clear HX4 HI4 HB4 hb5 x0 x1
  obtain ⟨x0, x1⟩ := box2 HX5.out
  have hb6 := below_one w5 (.cells #[.int .i64 0, .int .i64 1, .int .i64 2] 3)
  have HJ := Lib.hid (ints3 w5 w5.heap.size rfl)
  have HI6 := Lib.hid (HI5.out.below hb6)
  have HX6 := Lib.hid (HX5.out.below hb6)
  have HB6 := Lib.hid (HB5.out.trans (hb6.mono HB5.out.size))
  clear hb6
  go_wp2_with fail
  refine (refInts_any _ _ _ _ 3 3 (upZ 3) (upZ 3) _ rfl rfl HI6.out HJ.out).mono ?_
  rintro e w7 ⟨rfl, hb7⟩
  rw [show decide (upZ 3 = upZ 3) = true by decide]
  have HX7 := Lib.hid (HX6.out.below hb7)
  have HI7 := Lib.hid (HI6.out.below hb7)
  have HB7 := Lib.hid (HB6.out.trans (hb7.mono HB6.out.size))
  clear HX5 HI5 HB5 HX6 HI6 HB6 hb7 x0 x1 HJ
  obtain ⟨x0, x1⟩ := box2 HX7.out
  go_wp2_with fail
  refine (cfSound_any _ _ _ 3 (upZ 3) _ _ _ (by decide) (by decide) rfl HI7.out).mono ?_
  rintro e w8 ⟨rfl, hb8⟩
  rw [show cfB 1 (upZ 3) 2 1 = true by decide]
  have HX8 := Lib.hid (HX7.out.below hb8)
  have HI8 := Lib.hid (HI7.out.below hb8)
  have HB8 := Lib.hid (HB7.out.trans (hb8.mono HB7.out.size))
  clear HX7 HI7 HB7 hb8 x0 x1
  obtain ⟨x0, x1⟩ := box2 HX8.out
  go_wp2_with fail
  refine (cfSound_any _ _ _ 3 (upZ 3) _ _ _ (by decide) (by decide) rfl HI8.out).mono ?_
  rintro e w9 ⟨rfl, hb9⟩
  rw [show cfB 1 (upZ 3) 2 2 = false by decide]
  have HB9 := Lib.hid (HB8.out.trans (hb9.mono HB8.out.size))
  clear HX8 HI8 HB8 hb9 x0 x1
  go_wp2
  go_ret
  exact ⟨rfl, HB9.out⟩

end Go.Proofs.Ytepimdkpkfbgcaa
