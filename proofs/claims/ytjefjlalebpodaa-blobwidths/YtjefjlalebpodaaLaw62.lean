/-
  The walk of the law BlobWidths.
-/
import Derived.Test.YtjefjlalebpodaaAwake6
namespace Go.Proofs.Ytjefjlalebpodaa
open Go.RowKit

set_option maxHeartbeats 1000000 in
theorem blobWidths_walk (a0 a1 : Int) (w : World) (w0 : (Lit.int .i64 a0).wf = true) (w1 : (Lit.int .i64 a1).wf = true) :
    Calls Try.prog 9 #[.int .i64 a0, .int .i64 a1] w fun e w' => e = .returned (.bool true) ∧ Below w.heap.size w w' := by
  have b0 := wf64 w0
  have b1 := wf64 w1
  clear w0 w1
  by_cases h : a0 < 0 ∨ a1 < 1
  · have HW := Lib.hid (fun w => width_no a0 a1 w h)
    have HR := Lib.hid (fun w => rwidth_no a0 a1 w h)
    clear h
    go_enter Try.func9, Try.ntmps9
    go_wp2_with fail
    refine (awake6 _).mono ?_
    rintro e w2 ⟨rfl, hb2⟩
    go_wp2_with fail
    refine (HW.out _).mono ?_
    rintro e w3 ⟨rfl, rfl⟩
    go_wp2_with fail
    refine (HR.out _).mono ?_
    rintro e w3 ⟨rfl, rfl⟩
    go_wp2
    go_ret
    exact ⟨rfl, hb2⟩
  · obtain ⟨s, rfl⟩ : ∃ s : Nat, a0 = (s : Int) := ⟨a0.toNat, by omega⟩
    obtain ⟨k, rfl⟩ : ∃ k : Nat, a1 = (k : Int) := ⟨a1.toNat, by omega⟩
    have HW := Lib.hid (fun w => width_yes s k w (by omega) (by omega))
    have HR := Lib.hid (fun w => rwidth_yes s k w (by omega) (by omega))
    clear h
    generalize wd s k = v at *
    go_enter Try.func9, Try.ntmps9
    go_wp2_with fail
    refine (awake6 _).mono ?_
    rintro e w2 ⟨rfl, hb2⟩
    go_wp2_with fail
    refine (HW.out _).mono ?_
    rintro e w3 ⟨rfl, rfl⟩
    go_wp2_with fail
    refine (HR.out _).mono ?_
    rintro e w3 ⟨rfl, rfl⟩
    go_wp2
    go_ret
    exact ⟨ret_bool (by simp), hb2⟩

end Go.Proofs.Ytjefjlalebpodaa
