/-
  The walks of the laws GfNone, GfMuls and GfInvs.
-/
import Derived.Test.YtgpbjjclbmgjeaaWalksE
namespace Go.Proofs.Ytgpbjjclbmgjeaa
open Go.RowKit

theorem u8_nat {x : Int} (h : (Lit.int .u8 x).wf = true) : ∃ n : Nat, n < 256 ∧ x = (n : Int) := by
  have h1 : 0 ≤ x ∧ x ≤ 255 := by simpa [Lit.wf, IntKind.min, IntKind.max, IntKind.signed, IntKind.bits] using h
  exact ⟨x.toNat, by omega, by omega⟩

set_option maxHeartbeats 400000 in
theorem gfNone_walk (a0 a1 : Int) (w0 : (Lit.int .u8 a0).wf = true) (w1 : (Lit.int .u8 a1).wf = true) (w : World) :
    Calls Try.prog 8 #[.int .u8 a0, .int .u8 a1] w fun e w' => e = .returned (.bool true) ∧ Below w.heap.size w w' := by
  obtain ⟨a, ha, rfl⟩ := u8_nat w0
  obtain ⟨b, hb, rfl⟩ := u8_nat w1
  clear w0 w1
  go_enter Try.func8, Try.ntmps8
  go_wp2_with fail
  refine (awake_any _).mono ?_
  rintro e w1 ⟨rfl, hb1⟩
  go_wp2_with fail
  refine (tmul_none _ _ _).mono ?_
  rintro e w' ⟨rfl, rfl⟩
  go_wp2_with fail
  refine (tinv_none _ _).mono ?_
  rintro e w' ⟨rfl, rfl⟩
  go_wp2
  go_ret
  exact ⟨rfl, hb1⟩

set_option maxHeartbeats 400000 in
theorem gfMuls_walk (a0 a1 : Int) (w0 : (Lit.int .u8 a0).wf = true) (w1 : (Lit.int .u8 a1).wf = true) (w : World) :
    Calls Try.prog 3 #[.int .u8 a0, .int .u8 a1] w fun e w' => e = .returned (.bool true) ∧ Below w.heap.size w w' := by
  obtain ⟨a, ha, rfl⟩ := u8_nat w0
  obtain ⟨b, hb, rfl⟩ := u8_nat w1
  clear w0 w1
  have hx : bits BinOp.xor IntKind.u8 (a : Int) (b : Int) = ((a ^^^ b : Nat) : Int) := u8_xor_nat a b ha hb
  go_enter Try.func3, Try.ntmps3
  go_wp2_with fail
  refine (made_ex _).mono ?_
  rintro e w1 ⟨rfl, cs, hcs, rfl⟩
  have ht := hcs.isTab w 43
  have hbl := below_one w (.cells cs 43)
  have hs : w.heap.size < (w.alloc (.cells cs 43)).heap.size := by simp
  clear hcs
  generalize w.alloc (.cells cs 43) = w1 at *
  go_wp2_with fail
  refine (awake_any _).mono ?_
  rintro e w2 ⟨rfl, hb2⟩
  replace ht := ht.below hb2 hs
  replace hb2 := hbl.trans (hb2.mono (by omega))
  clear hbl hs
  go_wp2_with fail
  refine (add_any _ _ _ ha hb).mono ?_
  rintro e w' ⟨rfl, rfl⟩
  go_wp2_with fail
  refine (mul_any _ _ _ ha hb).mono ?_
  rintro e w' ⟨rfl, rfl⟩
  go_wp2_with fail
  refine (ref_gm _ _ _ ha hb).mono ?_
  rintro e w' ⟨rfl, rfl⟩
  go_wp2_with fail
  refine (tmul_any _ _ _ _ ht ha hb).mono ?_
  rintro e w' ⟨rfl, n, rfl⟩
  go_wp2_with fail
  refine (ref_gm _ _ _ ha hb).mono ?_
  rintro e w' ⟨rfl, rfl⟩
  go_wp2
  go_ret
  exact ⟨rfl, hb2.trans ((below_drewN _ _).mono hb2.size)⟩

theorem gfInvs_zero (w : World) :
    Calls Try.prog 4 #[.int .u8 0] w fun e w' => e = .returned (.bool true) ∧ Below w.heap.size w w' := by
  go_enter Try.func4, Try.ntmps4
  go_wp2_with fail
  refine (inv_any 0 _ (by omega)).mono ?_
  rintro e w1 ⟨rfl, hb1⟩
  rw [Gf.inv_zero]
  go_wp2_with fail
  refine (made_ex _).mono ?_
  rintro e w' ⟨rfl, cs, hcs, rfl⟩
  have hb2 := hb1.alloc hb1.size (.cells cs 43)
  have hs1 := hb1.size
  have hs2 : w1.heap.size < (w1.alloc (.cells cs 43)).heap.size := by simp
  clear hcs
  generalize w1.alloc (.cells cs 43) = w2 at *
  go_wp2_with fail
  refine (awake_any _).mono ?_
  rintro e w3 ⟨rfl, hb3⟩
  replace hb3 := hb2.trans (hb3.mono hb2.size)
  go_wp2_with fail
  refine (tinv_zero _ _).mono ?_
  rintro e w' ⟨rfl, rfl⟩
  go_wp2
  go_ret
  exact ⟨rfl, hb3⟩

set_option maxHeartbeats 400000 in
theorem gfInvs_some (a : Nat) (h0 : a ≠ 0) (ha : a < 256) (w : World) :
    Calls Try.prog 4 #[.int .u8 (a : Int)] w fun e w' => e = .returned (.bool true) ∧ Below w.heap.size w w' := by
  have t0 : ((a : Int) == 0) = false := by simp; omega
  have hi := Gf.inv_lt a
  have HI := Lib.hid (Gf.gm_inv a h0 ha)
  go_enter Try.func4, Try.ntmps4
  go_wp2_with fail
  refine (inv_any _ _ ha).mono ?_
  rintro e w1 ⟨rfl, hb1⟩
  go_wp2_with fail
  refine (made_ex _).mono ?_
  rintro e w' ⟨rfl, cs, hcs, rfl⟩
  have ht := hcs.isTab w1 43
  have hb2 := hb1.alloc hb1.size (.cells cs 43)
  have hs1 := hb1.size
  have hs2 : w1.heap.size < (w1.alloc (.cells cs 43)).heap.size := by simp
  clear hcs
  generalize w1.alloc (.cells cs 43) = w2 at *
  go_wp2_with fail
  refine (awake_any _).mono ?_
  rintro e w3 ⟨rfl, hb3⟩
  replace ht := ht.below hb3 hs2
  replace hb3 := hb2.trans (hb3.mono hb2.size)
  go_wp2_with fail
  refine (ref_gm _ _ _ ha hi).mono ?_
  rintro e w' ⟨rfl, rfl⟩
  rw [HI.out]
  go_wp2_with fail
  refine (tinv_any _ _ _ ht ha).mono ?_
  rintro e w' ⟨rfl, n, rfl⟩
  go_wp2
  go_ret
  exact ⟨rfl, hb3.trans ((below_drewN _ _).mono hb3.size)⟩

theorem gfInvs_walk (a0 : Int) (w0 : (Lit.int .u8 a0).wf = true) (w : World) :
    Calls Try.prog 4 #[.int .u8 a0] w fun e w' => e = .returned (.bool true) ∧ Below w.heap.size w w' := by
  obtain ⟨a, ha, rfl⟩ := u8_nat w0
  by_cases h0 : a = 0
  · subst h0; exact gfInvs_zero w
  · exact gfInvs_some a h0 ha w

end Go.Proofs.Ytgpbjjclbmgjeaa
