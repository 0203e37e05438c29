/-
  What sum's functions do: bitOn, byteOn, times, bytesOn, Join.
-/
import Derived.Test.YtcbnpihhcjgcfaaMem
import Derived.Test.YtcbnpihhcjgcfaaCrc
namespace Go.Proofs.Ytcbnpihhcjgcfaa
open Go.RowKit

theorem ret_u32 {a b : Int} (h : a = b) : Ending.returned (.int .u32 a) = .returned (.int .u32 b) := by rw [h]

theorem u32_odd (a : Nat) (ha : a < 4294967296) : (bits BinOp.and IntKind.u32 (a : Int) 1 != 0) = decide (a % 2 = 1) := by
  rw [show (1 : Int) = ((1 : Nat) : Int) by rfl, u32_and_nat a 1 ha (by omega), Nat.and_one_is_mod, Bool.eq_iff_iff]
  simp
  omega

set_option maxHeartbeats 400000 in
theorem bitOn_any (p : Nat) (w : World) (hp : p < 4294967296) :
    Calls Try.prog 16 #[.int .u32 (p : Int)] w fun e w' => e = .returned (.int .u32 ((Crc.b1 p : Nat) : Int)) ∧ w = w' := by
  have t := u32_odd p hp
  by_cases h : p % 2 = 1
  · have t1 : (bits BinOp.and IntKind.u32 (p : Int) 1 != 0) = true := by rw [t]; simpa using h
    have H : Hid (bits BinOp.xor IntKind.u32 ((p : Int) / 2) 3988292384 = ((Crc.b1 p : Nat) : Int)) := by
      show _ = _
      rw [Crc.b1_odd p h, show (3988292384 : Int) = ((3988292384 : Nat) : Int) by rfl, show (p : Int) / 2 = ((p / 2 : Nat) : Int) by omega, u32_xor_nat _ _ (by omega) (by omega)]
    clear t h
    go_enter Try.func16, Try.ntmps16
    go_wp2
    go_ret
    exact ⟨ret_u32 H.out, rfl⟩
  · have t1 : (bits BinOp.and IntKind.u32 (p : Int) 1 != 0) = false := by rw [t]; simpa using h
    have H : Hid ((p : Int) / 2 = ((Crc.b1 p : Nat) : Int)) := by
      show _ = _
      rw [Crc.b1_even p h]; omega
    clear t h
    go_enter Try.func16, Try.ntmps16
    go_wp2
    go_ret
    exact ⟨ret_u32 H.out, rfl⟩

set_option maxHeartbeats 400000 in
theorem byteOn_any (p : Nat) (w : World) (hp : p < 4294967296) :
    Calls Try.prog 11 #[.int .u32 (p : Int)] w fun e w' => e = .returned (.int .u32 ((Crc.bN 8 p : Nat) : Int)) ∧ w = w' := by
  go_enter Try.func11, Try.ntmps11
  go_wp2
  go_loop [0, 3] (fun v i => ∃ k : Nat, k ≤ 8 ∧ i = .int .i64 k ∧ v = .int .u32 ((Crc.bN k p : Nat) : Int)) (fun _ i => 8 - (intOf i).toNat)
  case atStart => exact ⟨0, Nat.zero_le _, rfl, rfl⟩
  case round =>
    obtain ⟨k, hk, rfl, rfl⟩ := hrel
    have hl : Crc.bN k p < 4294967296 := Crc.bN_lt p hp k
    have HS : Hid (Crc.bN (k + 1) p = Crc.b1 (Crc.bN k p)) := rfl
    by_cases hlt : k < 8
    · go_wp2_with ((go_at_call 16; refine (bitOn_any _ _ (by omega)).mono ?_; rintro e w' ⟨rfl, rfl⟩))
      go_round
      case rel => exact ⟨k + 1, by omega, by go_num, by rw [HS.out]⟩
      case measure => simp [intOf]; omega
    · obtain rfl : k = 8 := by omega
      go_wp2
      go_ret
      exact ⟨rfl, rfl⟩

theorem u32_top (a : Nat) (ha : a < 4294967296) : (bits BinOp.and IntKind.u32 (a : Int) 2147483648 != 0) = decide (a / 2 ^ 31 % 2 = 1) := by
  rw [show (2147483648 : Int) = ((2147483648 : Nat) : Int) by rfl, u32_and_nat a _ ha (by omega), Bool.eq_iff_iff]
  have h : a &&& 2147483648 = a / 2 ^ 31 % 2 * 2 ^ 31 :=
    Gf.lin_ext (f := fun a => a &&& 2147483648) (g := fun a => a / 2 ^ 31 % 2 ^ 1 * 2 ^ 31) (Crc.lin_and _) (Gf.Lin.comp (f := fun x => x * 2 ^ 31) (Crc.lin_mul 31) (Gf.Lin.comp (f := fun x => x % 2 ^ 1) (Crc.lin_mod 1) (Crc.lin_div 31))) 32 (by decide +kernel) a ha
  rw [h]
  simp
  omega

set_option maxRecDepth 100000 in
set_option maxHeartbeats 1000000 in
theorem sumTimes_any (p q : Nat) (w : World) (hp : p < 4294967296) (hq : q < 4294967296) :
    Calls Try.prog 14 #[.int .u32 (p : Int), .int .u32 (q : Int)] w fun e w' => e = .returned (.int .u32 ((Crc.tmN 32 p q : Nat) : Int)) ∧ w = w' := by
  go_enter Try.func14, Try.ntmps14
  go_wp2
  go_loop [0, 1, 5, 6] (fun v u o i => ∃ k a b c : Nat, k ≤ 32 ∧ a < 4294967296 ∧ b < 4294967296 ∧ c < 4294967296 ∧ i = .int .i64 k ∧ v = .int .u32 (a : Int) ∧ u = .int .u32 (b : Int) ∧ o = .int .u32 (c : Int) ∧ Hid (Crc.tmN 32 p q = c ^^^ Crc.tmN (32 - k) a b)) (fun _ _ _ i => 32 - (intOf i).toNat)
  case atStart => exact ⟨0, p, q, 0, Nat.zero_le _, hp, hq, by omega, rfl, rfl, rfl, rfl, by show _ = _; rw [Nat.zero_xor]⟩
  case round =>
    obtain ⟨k, a, b, c, hk, ha, hb, hc, rfl, rfl, rfl, rfl, HE⟩ := hrel
    have hb1 : Crc.b1 b < 4294967296 := Crc.b1_lt b hb
    by_cases hlt : k < 32
    · have t := u32_top a ha
      have HA : Hid ((a : Int) * 2 % 4294967296 = ((a * 2 % 4294967296 : Nat) : Int)) := by show _ = _; omega
      have hk' : 32 - k = (32 - (k + 1)) + 1 := by omega
      by_cases h : a / 2 ^ 31 % 2 = 1
      · have t1 : (bits BinOp.and IntKind.u32 (a : Int) 2147483648 != 0) = true := by rw [t]; simpa using h
        have hx : c ^^^ b < 4294967296 := Crc.x_lt32 hc hb
        have HX := Lib.hid (u32_xor_nat c b hc hb)
        have HE' : Hid (Crc.tmN 32 p q = (c ^^^ b) ^^^ Crc.tmN (32 - (k + 1)) (a * 2 % 4294967296) (Crc.b1 b)) := by
          show _ = _
          rw [HE.out, hk', Crc.tmN_odd _ _ _ h, Nat.xor_assoc]
        clear t h HE hk'
        go_wp2_with ((go_at_call 16; refine (bitOn_any _ _ (by omega)).mono ?_; rintro e w' ⟨rfl, rfl⟩))
        go_round
        case rel => exact ⟨k + 1, a * 2 % 4294967296, Crc.b1 b, c ^^^ b, by omega, by omega, by omega, by omega, by go_num, by rw [HA.out], rfl, by rw [HX.out], HE'⟩
        case measure => simp [intOf]; omega
      · have t1 : (bits BinOp.and IntKind.u32 (a : Int) 2147483648 != 0) = false := by rw [t]; simpa using h
        have HE' : Hid (Crc.tmN 32 p q = c ^^^ Crc.tmN (32 - (k + 1)) (a * 2 % 4294967296) (Crc.b1 b)) := by
          show _ = _
          rw [HE.out, hk', Crc.tmN_even _ _ _ h]
        clear t h HE hk'
        go_wp2_with ((go_at_call 16; refine (bitOn_any _ _ (by omega)).mono ?_; rintro e w' ⟨rfl, rfl⟩))
        go_round
        case rel => exact ⟨k + 1, a * 2 % 4294967296, Crc.b1 b, c, by omega, by omega, by omega, by omega, by go_num, by rw [HA.out], rfl, rfl, HE'⟩
        case measure => simp [intOf]; omega
    · obtain rfl : k = 32 := by omega
      have HE' : Hid ((c : Int) = ((Crc.tmN 32 p q : Nat) : Int)) := by
        show _ = _
        rw [HE.out]
        show (c : Int) = ((c ^^^ 0 : Nat) : Int)
        rw [Nat.xor_zero]
      clear HE
      go_wp2
      go_ret
      exact ⟨ret_u32 HE'.out, rfl⟩

theorem i64_odd (a : Nat) (ha : a < 2 ^ 62) : (bits BinOp.and IntKind.i64 (a : Int) 1 != 0) = decide (a % 2 = 1) := by
  have h : bits .and .i64 (a : Int) 1 = ((a % 2 : Nat) : Int) := by
    have h := (bits_nat .i64 62 (by decide) (fun n h0 h1 => by rw [IntKind.wrap_i64]; omega) a 1 ha (by omega)).1
    rw [Nat.and_one_is_mod] at h
    exact h
  rw [h, Bool.eq_iff_iff]
  simp
  omega

theorem sumTimes_pow (p n : Nat) (w : World) (hp : p < 4294967296) :
    Calls Try.prog 14 #[.int .u32 (p : Int), .int .u32 ((Crc.bN n 2147483648 : Nat) : Int)] w fun e w' => e = .returned (.int .u32 ((Crc.bN n p : Nat) : Int)) ∧ w = w' :=
  (sumTimes_any p _ w hp (Crc.bN_lt _ (by omega) n)).mono fun e w' h => by rw [Crc.tm_pow p n hp] at h; exact h

theorem byteOn_one (w : World) : Calls Try.prog 11 #[.int .u32 2147483648] w fun e w' => e = .returned (.int .u32 ((Crc.bN 8 2147483648 : Nat) : Int)) ∧ w = w' := byteOn_any 2147483648 w (by omega)

set_option maxRecDepth 100000 in
set_option maxHeartbeats 1000000 in
theorem bytesOn_any (n : Nat) (w : World) (hn : n < 2 ^ 62) :
    Calls Try.prog 15 #[.int .i64 (n : Int)] w fun e w' => e = .returned (.int .u32 ((Crc.bN (8 * n) 2147483648 : Nat) : Int)) ∧ w = w' := by
  go_enter Try.func15, Try.ntmps15
  go_wp2_with fail
  refine (byteOn_one _).mono ?_
  rintro e w' ⟨rfl, rfl⟩
  go_wp2
  go_loop [0, 3, 4] (fun v o u => ∃ k e s : Nat, k ≤ n ∧ v = .int .i64 (k : Int) ∧ o = .int .u32 ((Crc.bN e 2147483648 : Nat) : Int) ∧ u = .int .u32 ((Crc.bN s 2147483648 : Nat) : Int) ∧ Hid (e + s * k = 8 * n)) (fun v _ _ => (intOf v).toNat)
  case atStart => exact ⟨n, 0, 8, Nat.le_refl _, rfl, rfl, rfl, by show _ = _; omega⟩
  case round =>
    obtain ⟨k, e, s, hk, rfl, rfl, rfl, HE⟩ := hrel
    have he : Crc.bN e 2147483648 < 4294967296 := Crc.bN_lt _ (by omega) e
    have hs : Crc.bN s 2147483648 < 4294967296 := Crc.bN_lt _ (by omega) s
    by_cases hlt : 0 < k
    · have t := i64_odd k (by omega)
      have H2 : Hid ((k : Int) / 2 = ((k / 2 : Nat) : Int)) := by show _ = _; omega
      have HS : Hid (Crc.bN (s + s) 2147483648 = Crc.bN s (Crc.bN s 2147483648)) := Crc.bN_add s _ s
      by_cases h : k % 2 = 1
      · have t1 : (bits BinOp.and IntKind.i64 (k : Int) 1 != 0) = true := by rw [t]; simpa using h
        have HP : Hid (Crc.bN (s + e) 2147483648 = Crc.bN s (Crc.bN e 2147483648)) := Crc.bN_add e _ s
        have HE' : Hid ((s + e) + (s + s) * (k / 2) = 8 * n) := by
          show _ = _
          rw [← HE.out]
          obtain ⟨j, rfl⟩ : ∃ j, k = 2 * j + 1 := ⟨k / 2, by omega⟩
          rw [show (2 * j + 1) / 2 = j by omega, Nat.mul_add, Nat.add_mul, ← Nat.mul_assoc, Nat.mul_comm s 2, Nat.two_mul, Nat.add_mul]
          omega
        clear t h HE
        go_wp2_with fail
        refine (sumTimes_pow _ _ _ he).mono ?_
        rintro e w' ⟨rfl, rfl⟩
        go_wp2_with fail
        refine (sumTimes_pow _ _ _ hs).mono ?_
        rintro e w' ⟨rfl, rfl⟩
        go_wp2
        go_round
        case rel => exact ⟨k / 2, s + e, s + s, by omega, by rw [H2.out], by rw [HP.out], by rw [HS.out], HE'⟩
        case measure => simp [intOf]; omega
      · have t1 : (bits BinOp.and IntKind.i64 (k : Int) 1 != 0) = false := by rw [t]; simpa using h
        have HE' : Hid (e + (s + s) * (k / 2) = 8 * n) := by
          show _ = _
          rw [← HE.out]
          obtain ⟨j, rfl⟩ : ∃ j, k = 2 * j := ⟨k / 2, by omega⟩
          rw [show (2 * j) / 2 = j by omega, Nat.add_mul, ← Nat.mul_assoc, Nat.mul_comm s 2, Nat.two_mul, Nat.add_mul]
        clear t h HE
        go_wp2_with fail
        refine (sumTimes_pow _ _ _ hs).mono ?_
        rintro e w' ⟨rfl, rfl⟩
        go_wp2
        go_round
        case rel => exact ⟨k / 2, e, s + s, by omega, by rw [H2.out], rfl, by rw [HS.out], HE'⟩
        case measure => simp [intOf]; omega
    · obtain rfl : k = 0 := by omega
      have HE' : Hid (((Crc.bN e 2147483648 : Nat) : Int) = ((Crc.bN (8 * n) 2147483648 : Nat) : Int)) := by
        show _ = _
        rw [← HE.out, Nat.mul_zero, Nat.add_zero]
      clear HE
      go_wp2
      go_ret
      exact ⟨ret_u32 HE'.out, rfl⟩

set_option maxHeartbeats 400000 in
theorem join_any (a b n : Nat) (w : World) (ha : a < 4294967296) (hb : b < 4294967296) (hn : n < 2 ^ 62) :
    Calls Try.prog 10 #[.int .u32 (a : Int), .int .u32 (b : Int), .int .i64 (n : Int)] w fun e w' => e = .returned (.int .u32 ((Crc.bN (8 * n) a ^^^ b : Nat) : Int)) ∧ w = w' := by
  have HX := Lib.hid (u32_xor_nat (Crc.bN (8 * n) a) b (Crc.bN_lt a ha _) hb)
  go_enter Try.func10, Try.ntmps10
  go_wp2_with fail
  refine (bytesOn_any _ _ hn).mono ?_
  rintro e w' ⟨rfl, rfl⟩
  go_wp2_with fail
  refine (sumTimes_pow _ _ _ ha).mono ?_
  rintro e w' ⟨rfl, rfl⟩
  go_wp2
  go_ret
  exact ⟨ret_u32 HX.out, rfl⟩

end Go.Proofs.Ytcbnpihhcjgcfaa
