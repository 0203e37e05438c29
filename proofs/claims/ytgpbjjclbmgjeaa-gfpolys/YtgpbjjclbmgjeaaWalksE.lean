/-
  What the laws' fixed fact 'awake' does: it is true, and nothing that was there is changed.
-/
import Derived.Test.YtgpbjjclbmgjeaaWalksD
namespace Go.Proofs.Ytgpbjjclbmgjeaa
open Go.RowKit

theorem lg29 : Gf.lg 29 = 8 := by decide +kernel
theorem pw8 : Gf.pw 8 = 29 := by decide +kernel
theorem gm_128_2 : Gf.gm 128 2 = 29 := by decide +kernel
theorem inv2 : Gf.inv 2 = 142 := by
  have h0 : Gf.gm 2 142 = 1 := by decide +kernel
  have h1 := Gf.gm_inv 2 (by omega) (by omega)
  have h2 : Gf.gm (Gf.gm 142 2) (Gf.inv 2) = Gf.gm 142 (Gf.gm 2 (Gf.inv 2)) := Gf.gm_assoc _ _ _ (by omega) (by omega) (Gf.inv_lt 2)
  rw [h1, Gf.gm_one 142 (by omega), Gf.gm_comm 142 2 (by omega) (by omega), h0, Gf.one_gm _ (Gf.inv_lt 2)] at h2
  exact h2
theorem eval_11_2 : Gf.eval [1, 1] 2 = 3 := by decide +kernel

theorem a_log (w : World) : Calls Try.prog 19 #[.int .u8 29] w fun e w' => e = .returned (.tuple #[.int .i64 8, .bool true]) ∧ Below w.heap.size w w' :=
  (log_some 29 w (by omega) (by omega)).mono fun e w' h => by rw [lg29] at h; exact h
theorem a_mul (w : World) : Calls Try.prog 14 #[.int .u8 128, .int .u8 2] w fun e w' => e = .returned (.int .u8 29) ∧ w = w' :=
  (mul_any 128 2 w (by omega) (by omega)).mono fun e w' h => by rw [gm_128_2] at h; exact h
theorem a_inv (w : World) : Calls Try.prog 17 #[.int .u8 2] w fun e w' => e = .returned (.int .u8 142) ∧ Below w.heap.size w w' :=
  (inv_any 2 w (by omega)).mono fun e w' h => by rw [inv2] at h; exact h
theorem a_pow (w : World) : Calls Try.prog 20 #[.int .i64 (-247)] w fun e w' => e = .returned (.int .u8 29) ∧ Below w.heap.size w w' :=
  (pow_any (-247) w).mono fun e w' h => by rw [show ((-247 : Int) % 255).toNat = 8 by decide, pw8] at h; exact h
theorem a_tmul (b : Nat) (w : World) (ht : IsTab w b) : Calls Try.prog 16 #[.pointer (some ⟨b, 0, none⟩), .int .u8 128, .int .u8 2] w fun e w' => e = .returned (.int .u8 29) ∧ ∃ n, w' = w.drewN n :=
  (tmul_any b 128 2 w ht (by omega) (by omega)).mono fun e w' h => by rw [gm_128_2] at h; exact h
theorem a_eval (b cap : Nat) (w : World) (h0 : w.cell? ⟨b, 0, none⟩ = some (.int .u8 1)) (h1 : w.cell? ⟨b, 1, none⟩ = some (.int .u8 1)) :
    Calls Try.prog 22 #[.slice (some ⟨b, 0, none⟩) 2 cap, .int .u8 2] w fun e w' => e = .returned (.int .u8 3) ∧ ∃ n, w' = w.drewN n :=
  (eval_row b 0 2 cap 2 [1, 1] w rfl (by decide) (by intro c h; simp at h; omega) (by omega) (fun i hi => by
    match i, hi with
    | 0, _ => exact h0
    | 1, _ => exact h1)).mono fun e w' h => by rw [eval_11_2] at h; exact h

set_option maxRecDepth 100000 in
set_option maxHeartbeats 1000000 in
theorem awake_any (w : World) :
    Calls Try.prog 12 #[] w fun e w' => e = .returned (.bool true) ∧ Below w.heap.size w w' := by
  go_enter Try.func12, Try.ntmps12
  go_wp2_with fail
  refine (a_log _).mono ?_
  rintro e w1 ⟨rfl, hb1⟩
  go_wp2_with fail
  refine (made_ex _).mono ?_
  rintro e w2 ⟨rfl, cs, hcs, rfl⟩
  have ht := hcs.isTab w1 43
  clear hcs
  have hb2 : Below w.heap.size w (w1.alloc (.cells cs 43)) := hb1.alloc hb1.size _
  have hs2 : w1.heap.size < (w1.alloc (.cells cs 43)).heap.size := by simp
  generalize hw2 : w1.alloc (.cells cs 43) = w2 at *
  have hl1 := hb1.size
  generalize w1.heap.size = tb at *
  clear hw2 hb1
  go_wp2_with fail
  refine (a_mul _).mono ?_
  rintro e w' ⟨rfl, rfl⟩
  go_wp2_with fail
  refine (a_inv _).mono ?_
  rintro e w3 ⟨rfl, hb3⟩
  replace ht := ht.below hb3 hs2
  have hs3 : tb < w3.heap.size := Nat.lt_of_lt_of_le hs2 hb3.size
  replace hb3 := hb2.trans (hb3.mono hb2.size)
  clear hb2 hs2
  go_wp2_with fail
  refine (a_pow _).mono ?_
  rintro e w4 ⟨rfl, hb4⟩
  replace ht := ht.below hb4 hs3
  have hs4 : tb < w4.heap.size := Nat.lt_of_lt_of_le hs3 hb4.size
  replace hb4 := hb3.trans (hb4.mono hb3.size)
  clear hb3 hs3
  go_wp2_with fail
  refine (a_eval _ _ _ (by rw [World.cell?_alloc_at (hn := rfl)]; rfl) (by rw [World.cell?_alloc_at (hn := rfl)]; rfl)).mono ?_
  rintro e w5 ⟨rfl, n5, rfl⟩
  have hb5 : Below w4.heap.size w4 ((w4.alloc (Obj.cells #[Value.int IntKind.u8 1, Value.int IntKind.u8 1] 5)).drewN n5) := (below_one _ _).trans ((below_drewN _ _).mono (by simp))
  replace ht := ht.below hb5 hs4
  replace hb5 := hb4.trans (hb5.mono hb4.size)
  clear hb4 hs4
  generalize (w4.alloc (Obj.cells #[Value.int IntKind.u8 1, Value.int IntKind.u8 1] 5)).drewN n5 = w5 at *
  go_wp2_with fail
  refine (a_tmul _ _ ht).mono ?_
  rintro e w6 ⟨rfl, n6, rfl⟩
  go_wp2
  go_ret
  exact ⟨rfl, hb5.trans ((below_drewN _ _).mono hb5.size)⟩

end Go.Proofs.Ytgpbjjclbmgjeaa
