/-
  The walk of the law SumSums.
-/
import Derived.Test.YtcbnpihhcjgcfaaWalksU4
namespace Go.Proofs.Ytcbnpihhcjgcfaa
open Go.RowKit


set_option maxRecDepth 100000 in
set_option maxHeartbeats 1000000 in
theorem sumSums_short (a0 : Option Addr) (l0 c0 : Nat) (m0 : List Nat) (w : World) (h0 : l0 ≤ 2000) (L0 : m0.length = l0) (s0 : SeenAt w a0 c0 m0) :
    Calls Try.prog 3 #[.slice a0 l0 c0] w fun e w' => e = .returned (.bool true) ∧ Below w.heap.size w w' := by
  have hd : decide ((2000 : Int) < (l0 : Int)) = false := by simp; omega
  have H0 := Lib.hid L0
  have S0 := Lib.hid s0
  clear L0 s0
  go_enter Try.func3, Try.ntmps3
  go_wp2_with fail
  refine (awake_any _).mono ?_
  rintro e w1 ⟨rfl, hb1⟩
  have T0 := Lib.hid (S0.out.below hb1)
  go_wp2_with fail
  refine (of_any _ _ _ m0 _ H0.out T0.out).mono ?_
  rintro e w' ⟨rfl, rfl⟩
  go_wp2_with fail
  refine (refOf_any _ _ _ m0 _ H0.out (by omega) T0.out).mono ?_
  rintro e w2 ⟨rfl, hb2⟩
  have HB := Lib.hid (hb1.trans (hb2.mono hb1.size))
  clear hb1 hb2
  go_wp2
  go_ret
  exact ⟨rfl, HB.out⟩

set_option maxRecDepth 100000 in
set_option maxHeartbeats 1000000 in
theorem sumSums_long (b off : Nat) (l0 c0 : Nat) (m0 : List Nat) (w : World) (h0 : 2000 < l0) (hl : l0 ≤ c0) (hm : c0 ≤ maxLen) (L0 : (m0.take 2000).length = 2000) (s0 : SeenAt w (some ⟨b, off, none⟩) c0 (m0.take 2000)) :
    Calls Try.prog 3 #[.slice (some ⟨b, off, none⟩) l0 c0] w fun e w' => e = .returned (.bool true) ∧ Below w.heap.size w w' := by
  unfold maxLen at hm
  have hd : decide ((2000 : Int) < (l0 : Int)) = true := by simp; omega
  have hc : 2000 ≤ c0 := by omega
  have H0 := Lib.hid L0
  have S0 := Lib.hid s0
  clear L0 s0
  generalize m0.take 2000 = ms at *
  go_enter Try.func3, Try.ntmps3
  go_wp2_with fail
  refine (awake_any _).mono ?_
  rintro e w1 ⟨rfl, hb1⟩
  have T0 := Lib.hid (S0.out.below hb1)
  go_wp2_with fail
  refine (of_any _ _ _ ms _ H0.out T0.out).mono ?_
  rintro e w' ⟨rfl, rfl⟩
  go_wp2_with fail
  refine (refOf_any _ _ _ ms _ H0.out (by omega) T0.out).mono ?_
  rintro e w2 ⟨rfl, hb2⟩
  have HB := Lib.hid (hb1.trans (hb2.mono hb1.size))
  clear hb1 hb2
  go_wp2
  go_ret
  exact ⟨rfl, HB.out⟩

theorem sumSums_walk (a0 : Option Addr) (len0 cap0 : Nat) (m0 : List Nat) (w : World) (w0 : m0.length = len0 ∧ SeenAt w a0 cap0 m0) :
    Calls Try.prog 3 #[.slice a0 len0 cap0] w fun e w' => e = .returned (.bool true) ∧ Below w.heap.size w w' := by
  obtain ⟨hl, hs⟩ := w0
  by_cases h : 2000 < len0
  · obtain ⟨b, off, rfl, _⟩ := hs.cell 0 (by omega)
    exact sumSums_long b off len0 cap0 m0 w h (by have := hs.le; omega) hs.max (by simp; omega) (hs.take 2000)
  · exact sumSums_short a0 len0 cap0 m0 w (by omega) hl hs

end Go.Proofs.Ytcbnpihhcjgcfaa
