/-
  The walks of the laws GfPows, GfField and GfLogs.
-/
import Derived.Test.YtgpbjjclbmgjeaaLaws1
namespace Go.Proofs.Ytgpbjjclbmgjeaa
open Go.RowKit

theorem power_two (t : Int) (m : Nat) (h : t = (m : Int)) (hm : m ≤ 1000000) (w : World) :
    Calls Try.prog 21 #[.int .u8 2, .int .i64 t] w fun e w' => e = .returned (.int .u8 ((Gf.pw m : Nat) : Int)) ∧ w = w' := by
  subst h
  exact (power_any 2 m w (by omega) hm).mono fun e w' h => by rw [Gf.ipow_two] at h; exact h

theorem pow_at (n : Int) (m : Nat) (h : n % 255 = (m : Int)) (w : World) :
    Calls Try.prog 20 #[.int .i64 n] w fun e w' => e = .returned (.int .u8 ((Gf.pw m : Nat) : Int)) ∧ Below w.heap.size w w' :=
  (pow_any n w).mono fun e w' h' => by rw [h] at h'; exact h'

set_option maxRecDepth 100000 in
set_option maxHeartbeats 1000000 in
theorem gfPows_walk (a0 a1 : Int) (_w0 : (Lit.int .i64 a0).wf = true) (w1 : (Lit.int .u8 a1).wf = true) (w : World) :
    Calls Try.prog 5 #[.int .i64 a0, .int .u8 a1] w fun e w' => e = .returned (.bool true) ∧ Below w.heap.size w w' := by
  obtain ⟨a, ha, rfl⟩ := u8_nat w1
  clear _w0 w1
  obtain ⟨r, hr, hr'⟩ : ∃ r : Nat, r < 255 ∧ a0 % 255 = (r : Int) := ⟨(a0 % 255).toNat, by omega, by omega⟩
  have h1 : -255 < a0.tmod 255 := by have := Int.lt_tmod_of_pos a0 (b := 255) (by omega); omega
  have h2 : a0.tmod 255 < 255 := Int.tmod_lt_of_pos a0 (by omega)
  have HP := Lib.hid (fun W => pow_at a0 r hr' W)
  have HT := Lib.hid (tmod255 a0)
  have HR := Lib.hid hr'
  clear hr'
  by_cases hn : a0.tmod 255 < 0
  · have HQ := Lib.hid (fun W => power_two (a0.tmod 255 + 255) r (by have := HT.out; rw [if_pos hn, HR.out] at this; exact this) (by omega) W)
    by_cases h0 : a = 0
    · subst h0
      go_enter Try.func5, Try.ntmps5
      go_wp2_with fail
      refine (log_zero _).mono ?_
      rintro e w' ⟨rfl, rfl⟩
      go_wp2_with fail
      refine (HP.out _).mono ?_
      rintro e w1 ⟨rfl, hb1⟩
      go_wp2_with fail
      refine (HQ.out _).mono ?_
      rintro e w' ⟨rfl, rfl⟩
      go_wp2_with fail
      refine (awake_any _).mono ?_
      rintro e w2 ⟨rfl, hb2⟩
      go_wp2
      go_ret
      exact ⟨rfl, hb1.trans (hb2.mono hb1.size)⟩
    · have t0 : ((a : Int) != 0) = true := by simp; omega
      have t1 : ((a : Int) == 0) = false := by simp; omega
      have hl := Gf.lg_lt a h0 ha
      have HA := Lib.hid (Gf.pw_lg a h0 ha)
      go_enter Try.func5, Try.ntmps5
      go_wp2_with fail
      refine (log_some _ _ h0 ha).mono ?_
      rintro e w1 ⟨rfl, hb1⟩
      go_wp2_with fail
      refine (HP.out _).mono ?_
      rintro e w2 ⟨rfl, hb2⟩
      replace hb2 := hb1.trans (hb2.mono hb1.size)
      go_wp2_with fail
      refine (HQ.out _).mono ?_
      rintro e w' ⟨rfl, rfl⟩
      go_wp2_with fail
      refine (awake_any _).mono ?_
      rintro e w3 ⟨rfl, hb3⟩
      replace hb3 := hb2.trans (hb3.mono hb2.size)
      go_wp2_with fail
      refine (power_two ((Gf.lg a : Nat) : Int) (Gf.lg a) rfl (by omega) _).mono ?_
      rintro e w' ⟨rfl, rfl⟩
      rw [HA.out]
      go_wp2
      go_ret
      exact ⟨rfl, hb3⟩
  · have HQ := Lib.hid (fun W => power_two (a0.tmod 255) r (by have := HT.out; rw [if_neg hn, HR.out] at this; exact this) (by omega) W)
    by_cases h0 : a = 0
    · subst h0
      go_enter Try.func5, Try.ntmps5
      go_wp2_with fail
      refine (log_zero _).mono ?_
      rintro e w' ⟨rfl, rfl⟩
      go_wp2_with fail
      refine (HP.out _).mono ?_
      rintro e w1 ⟨rfl, hb1⟩
      go_wp2_with fail
      refine (HQ.out _).mono ?_
      rintro e w' ⟨rfl, rfl⟩
      go_wp2_with fail
      refine (awake_any _).mono ?_
      rintro e w2 ⟨rfl, hb2⟩
      go_wp2
      go_ret
      exact ⟨rfl, hb1.trans (hb2.mono hb1.size)⟩
    · have t0 : ((a : Int) != 0) = true := by simp; omega
      have t1 : ((a : Int) == 0) = false := by simp; omega
      have hl := Gf.lg_lt a h0 ha
      have HA := Lib.hid (Gf.pw_lg a h0 ha)
      go_enter Try.func5, Try.ntmps5
      go_wp2_with fail
      refine (log_some _ _ h0 ha).mono ?_
      rintro e w1 ⟨rfl, hb1⟩
      go_wp2_with fail
      refine (HP.out _).mono ?_
      rintro e w2 ⟨rfl, hb2⟩
      replace hb2 := hb1.trans (hb2.mono hb1.size)
      go_wp2_with fail
      refine (HQ.out _).mono ?_
      rintro e w' ⟨rfl, rfl⟩
      go_wp2_with fail
      refine (awake_any _).mono ?_
      rintro e w3 ⟨rfl, hb3⟩
      replace hb3 := hb2.trans (hb3.mono hb2.size)
      go_wp2_with fail
      refine (power_two ((Gf.lg a : Nat) : Int) (Gf.lg a) rfl (by omega) _).mono ?_
      rintro e w' ⟨rfl, rfl⟩
      rw [HA.out]
      go_wp2
      go_ret
      exact ⟨rfl, hb3⟩

theorem mul_one_at (a : Nat) (w : World) (ha : a < 256) :
    Calls Try.prog 14 #[.int .u8 (a : Int), .int .u8 1] w fun e w' => e = .returned (.int .u8 (a : Int)) ∧ w = w' :=
  (mul_any a 1 w ha (by omega)).mono fun e w' h => by rw [Gf.gm_one a ha] at h; exact h
theorem mul_zero_at (a : Nat) (w : World) (ha : a < 256) :
    Calls Try.prog 14 #[.int .u8 (a : Int), .int .u8 0] w fun e w' => e = .returned (.int .u8 0) ∧ w = w' :=
  (mul_any a 0 w ha (by omega)).mono fun e w' h => by rw [Gf.gm_zero a] at h; exact h
theorem add_self_at (a : Nat) (w : World) (ha : a < 256) :
    Calls Try.prog 13 #[.int .u8 (a : Int), .int .u8 (a : Int)] w fun e w' => e = .returned (.int .u8 0) ∧ w = w' :=
  (add_any a a w ha ha).mono fun e w' h => by rw [Nat.xor_self] at h; exact h

theorem back (a b : Nat) (h0 : a ≠ 0) (ha : a < 256) (hb : b < 256) : Gf.gm (Gf.gm b a) (Gf.inv a) = b := by
  rw [Gf.gm_assoc b a _ hb ha (Gf.inv_lt a), Gf.gm_inv a h0 ha, Gf.gm_one b hb]

set_option maxRecDepth 100000 in
set_option maxHeartbeats 1000000 in
theorem gfField_walk (a0 a1 a2 : Int) (w0 : (Lit.int .u8 a0).wf = true) (w1 : (Lit.int .u8 a1).wf = true) (w2 : (Lit.int .u8 a2).wf = true) (w : World) :
    Calls Try.prog 7 #[.int .u8 a0, .int .u8 a1, .int .u8 a2] w fun e w' => e = .returned (.bool true) ∧ Below w.heap.size w w' := by
  obtain ⟨a, ha, rfl⟩ := u8_nat w0
  obtain ⟨b, hb, rfl⟩ := u8_nat w1
  obtain ⟨c, hc, rfl⟩ := u8_nat w2
  clear w0 w1 w2
  have hab := Gf.gm_lt a b ha
  have hbc := Gf.gm_lt b c hb
  have hba := Gf.gm_lt b a hb
  have hac := Gf.gm_lt a c ha
  have hx := Gf.x_lt b c hb hc
  have hi := Gf.inv_lt a
  have HC := Lib.hid (Gf.gm_comm b a hb ha)
  have HA := Lib.hid (Gf.gm_assoc a b c ha hb hc)
  have HD := Lib.hid (Gf.gm_add a b c)
  go_enter Try.func7, Try.ntmps7
  go_wp2_with fail
  refine (mul_any _ _ _ ha hb).mono ?_
  rintro e w' ⟨rfl, rfl⟩
  go_wp2_with fail
  refine (mul_any _ _ _ hb ha).mono ?_
  rintro e w' ⟨rfl, rfl⟩
  rw [HC.out]
  go_wp2_with fail
  refine (mul_any _ _ _ hb hc).mono ?_
  rintro e w' ⟨rfl, rfl⟩
  go_wp2_with fail
  refine (mul_any _ _ _ ha hbc).mono ?_
  rintro e w' ⟨rfl, rfl⟩
  go_wp2_with fail
  refine (mul_any _ _ _ ha hb).mono ?_
  rintro e w' ⟨rfl, rfl⟩
  go_wp2_with fail
  refine (mul_any _ _ _ hab hc).mono ?_
  rintro e w' ⟨rfl, rfl⟩
  rw [HA.out]
  go_wp2_with fail
  refine (add_any _ _ _ hb hc).mono ?_
  rintro e w' ⟨rfl, rfl⟩
  go_wp2_with fail
  refine (mul_any _ _ _ ha hx).mono ?_
  rintro e w' ⟨rfl, rfl⟩
  rw [HD.out]
  go_wp2_with fail
  refine (mul_any _ _ _ ha hb).mono ?_
  rintro e w' ⟨rfl, rfl⟩
  go_wp2_with fail
  refine (mul_any _ _ _ ha hc).mono ?_
  rintro e w' ⟨rfl, rfl⟩
  go_wp2_with fail
  refine (add_any _ _ _ hab hac).mono ?_
  rintro e w' ⟨rfl, rfl⟩
  go_wp2_with fail
  refine (awake_any _).mono ?_
  rintro e w1 ⟨rfl, hb1⟩
  go_wp2_with fail
  refine (mul_one_at _ _ ha).mono ?_
  rintro e w' ⟨rfl, rfl⟩
  go_wp2_with fail
  refine (mul_zero_at _ _ ha).mono ?_
  rintro e w' ⟨rfl, rfl⟩
  go_wp2_with fail
  refine (add_self_at _ _ ha).mono ?_
  rintro e w' ⟨rfl, rfl⟩
  by_cases h0 : a = 0
  · have t1 : ((a : Int) == 0) = true := by simp; omega
    have H0 := Lib.hid h0
    clear h0
    go_wp2
    go_ret
    exact ⟨rfl, hb1⟩
  · have t1 : ((a : Int) == 0) = false := by simp; omega
    have HB := Lib.hid (back a b h0 ha hb)
    go_wp2_with fail
    refine (mul_any _ _ _ hb ha).mono ?_
    rintro e w' ⟨rfl, rfl⟩
    go_wp2_with fail
    refine (inv_any _ _ ha).mono ?_
    rintro e w2 ⟨rfl, hb2⟩
    go_wp2_with fail
    refine (mul_any _ _ _ hba hi).mono ?_
    rintro e w' ⟨rfl, rfl⟩
    rw [HB.out]
    go_wp2
    go_ret
    exact ⟨rfl, hb1.trans (hb2.mono hb1.size)⟩

theorem log_at (x m : Nat) (h0 : x ≠ 0) (hx : x < 256) (h : Gf.lg x = m) (w : World) :
    Calls Try.prog 19 #[.int .u8 (x : Int)] w fun e w' => e = .returned (.tuple #[.int .i64 (m : Int), .bool true]) ∧ Below w.heap.size w w' := by
  subst h; exact log_some x w h0 hx

set_option maxRecDepth 100000 in
set_option maxHeartbeats 1000000 in
theorem gfLogs_some (a b : Nat) (ha0 : a ≠ 0) (ha : a < 256) (hb0 : b ≠ 0) (hb : b < 256) (w : World) :
    Calls Try.prog 10 #[.int .u8 (a : Int), .int .u8 (b : Int)] w fun e w' => e = .returned (.bool true) ∧ Below w.heap.size w w' := by
  have hla := Gf.lg_lt a ha0 ha
  have hlb := Gf.lg_lt b hb0 hb
  have hg := Gf.gm_lt a b ha
  have hg0 := Gf.gm_ne a b ha0 hb0 ha hb
  have HL := Lib.hid (show Gf.lg (Gf.gm a b) = (Gf.lg a + Gf.lg b) % 255 by rw [Gf.gm_pw a b ha0 hb0 ha hb, Gf.lg_pw_mod])
  have HP := Lib.hid (fun W => pow_at (((Gf.lg a : Nat) : Int) + ((Gf.lg b : Nat) : Int)) ((Gf.lg a + Gf.lg b) % 255) (by omega) W)
  have HE := Lib.hid (show Gf.pw ((Gf.lg a + Gf.lg b) % 255) = Gf.gm a b by rw [Gf.pw_mod, Gf.gm_pw a b ha0 hb0 ha hb])
  have HN := Lib.hid (fun W => pow_at (-((Gf.lg a : Nat) : Int)) ((255 - Gf.lg a) % 255) (by omega) W)
  have HI := Lib.hid (show Gf.inv a = Gf.pw ((255 - Gf.lg a) % 255) by unfold Gf.inv; rw [if_neg ha0])
  have hm : (((Gf.lg a : Nat) : Int) + ((Gf.lg b : Nat) : Int)).tmod 255 = (((Gf.lg a + Gf.lg b) % 255 : Nat) : Int) := by
    rw [Int.tmod_eq_emod_of_nonneg (by omega)]; omega
  have hm' : (((Gf.lg a : Nat) : Int) + ((Gf.lg b : Nat) : Int)) % 255 = (((Gf.lg a + Gf.lg b) % 255 : Nat) : Int) := by omega
  have HM := Lib.hid hm
  have HM' := Lib.hid hm'
  clear hm hm'
  go_enter Try.func10, Try.ntmps10
  go_wp2_with fail
  refine (log_some _ _ ha0 ha).mono ?_
  rintro e w1 ⟨rfl, hb1⟩
  go_wp2_with fail
  refine (log_some _ _ hb0 hb).mono ?_
  rintro e w2 ⟨rfl, hb2⟩
  replace hb2 := hb1.trans (hb2.mono hb1.size)
  go_wp2_with fail
  refine (mul_any _ _ _ ha hb).mono ?_
  rintro e w' ⟨rfl, rfl⟩
  go_wp2_with fail
  refine (log_at _ _ hg0 hg HL.out _).mono ?_
  rintro e w3 ⟨rfl, hb3⟩
  replace hb3 := hb2.trans (hb3.mono hb2.size)
  go_wp2_with fail
  refine (awake_any _).mono ?_
  rintro e w4 ⟨rfl, hb4⟩
  replace hb4 := hb3.trans (hb4.mono hb3.size)
  have hq : ((((Gf.lg a + Gf.lg b) % 255 : Nat) : Int) == (((Gf.lg a : Nat) : Int) + ((Gf.lg b : Nat) : Int)) % 255) = true := by rw [HM'.out]; simp
  go_wp2_with fail
  refine (HP.out _).mono ?_
  rintro e w5 ⟨rfl, hb5⟩
  replace hb5 := hb4.trans (hb5.mono hb4.size)
  rw [HE.out]
  go_wp2_with fail
  refine (mul_any _ _ _ ha hb).mono ?_
  rintro e w' ⟨rfl, rfl⟩
  go_wp2_with fail
  refine (HN.out _).mono ?_
  rintro e w6 ⟨rfl, hb6⟩
  replace hb6 := hb5.trans (hb6.mono hb5.size)
  go_wp2_with fail
  refine (inv_any _ _ ha).mono ?_
  rintro e w7 ⟨rfl, hb7⟩
  replace hb7 := hb6.trans (hb7.mono hb6.size)
  rw [HI.out]
  go_wp2
  go_ret
  exact ⟨rfl, hb7⟩

theorem zero_mul_at (b : Nat) (w : World) (hb : b < 256) :
    Calls Try.prog 14 #[.int .u8 0, .int .u8 (b : Int)] w fun e w' => e = .returned (.int .u8 0) ∧ w = w' :=
  (mul_any 0 b w (by omega) hb).mono fun e w' h => by rw [Gf.zero_gm b] at h; exact h

set_option maxRecDepth 100000 in
set_option maxHeartbeats 1000000 in
theorem gfLogs_left (b : Nat) (hb0 : b ≠ 0) (hb : b < 256) (w : World) :
    Calls Try.prog 10 #[.int .u8 0, .int .u8 (b : Int)] w fun e w' => e = .returned (.bool true) ∧ Below w.heap.size w w' := by
  have t1 : ((b : Int) == 0) = false := by simp; omega
  go_enter Try.func10, Try.ntmps10
  go_wp2_with fail
  refine (log_zero _).mono ?_
  rintro e w' ⟨rfl, rfl⟩
  go_wp2_with fail
  refine (log_some _ _ hb0 hb).mono ?_
  rintro e w2 ⟨rfl, hb2⟩
  go_wp2_with fail
  refine (zero_mul_at _ _ hb).mono ?_
  rintro e w' ⟨rfl, rfl⟩
  go_wp2_with fail
  refine (log_zero _).mono ?_
  rintro e w' ⟨rfl, rfl⟩
  go_wp2_with fail
  refine (awake_any _).mono ?_
  rintro e w4 ⟨rfl, hb4⟩
  go_wp2
  go_ret
  exact ⟨rfl, hb2.trans (hb4.mono hb2.size)⟩

set_option maxRecDepth 100000 in
set_option maxHeartbeats 1000000 in
theorem gfLogs_right (a : Nat) (ha0 : a ≠ 0) (ha : a < 256) (w : World) :
    Calls Try.prog 10 #[.int .u8 (a : Int), .int .u8 0] w fun e w' => e = .returned (.bool true) ∧ Below w.heap.size w w' := by
  have t1 : ((a : Int) == 0) = false := by simp; omega
  go_enter Try.func10, Try.ntmps10
  go_wp2_with fail
  refine (log_some _ _ ha0 ha).mono ?_
  rintro e w2 ⟨rfl, hb2⟩
  go_wp2_with fail
  refine (log_zero _).mono ?_
  rintro e w' ⟨rfl, rfl⟩
  go_wp2_with fail
  refine (mul_zero_at _ _ ha).mono ?_
  rintro e w' ⟨rfl, rfl⟩
  go_wp2_with fail
  refine (log_zero _).mono ?_
  rintro e w' ⟨rfl, rfl⟩
  go_wp2_with fail
  refine (awake_any _).mono ?_
  rintro e w4 ⟨rfl, hb4⟩
  go_wp2
  go_ret
  exact ⟨rfl, hb2.trans (hb4.mono hb2.size)⟩

set_option maxRecDepth 100000 in
set_option maxHeartbeats 1000000 in
theorem gfLogs_none (w : World) :
    Calls Try.prog 10 #[.int .u8 0, .int .u8 0] w fun e w' => e = .returned (.bool true) ∧ Below w.heap.size w w' := by
  go_enter Try.func10, Try.ntmps10
  go_wp2_with fail
  refine (log_zero _).mono ?_
  rintro e w' ⟨rfl, rfl⟩
  go_wp2_with fail
  refine (log_zero _).mono ?_
  rintro e w' ⟨rfl, rfl⟩
  go_wp2_with fail
  refine (zero_mul_at 0 _ (by omega)).mono ?_
  rintro e w' ⟨rfl, rfl⟩
  go_wp2_with fail
  refine (log_zero _).mono ?_
  rintro e w' ⟨rfl, rfl⟩
  go_wp2_with fail
  refine (awake_any _).mono ?_
  rintro e w4 ⟨rfl, hb4⟩
  go_wp2
  go_ret
  exact ⟨rfl, hb4⟩

theorem gfLogs_walk (a0 a1 : Int) (w0 : (Lit.int .u8 a0).wf = true) (w1 : (Lit.int .u8 a1).wf = true) (w : World) :
    Calls Try.prog 10 #[.int .u8 a0, .int .u8 a1] w fun e w' => e = .returned (.bool true) ∧ Below w.heap.size w w' := by
  obtain ⟨a, ha, rfl⟩ := u8_nat w0
  obtain ⟨b, hb, rfl⟩ := u8_nat w1
  by_cases ha0 : a = 0
  · subst ha0
    by_cases hb0 : b = 0
    · subst hb0; exact gfLogs_none w
    · exact gfLogs_left b hb0 hb w
  · by_cases hb0 : b = 0
    · subst hb0; exact gfLogs_right a ha0 ha w
    · exact gfLogs_some a b ha0 ha hb0 hb w

end Go.Proofs.Ytgpbjjclbmgjeaa
