/-
  What sum's functions do: bitOn, byteOn, times, bytesOn, Join.
  What sum.Of does, and the laws' fixed fact.
  What the bits' reversals do that the reference calls.
  What the reference's Of does.
-/
import Derived.Test.YtdgpbdedaafdiaaGreatMem
import Derived.Test.YtdgpbdedaafdiaaGreatCrc
import Derived.Test.YtdgpbdedaafdiaaGreatStr
import Derived.Lib.SlBytesConst
namespace Go.Proofs.YtdgpbdedaafdiaaGreat
open Go.RowKit

theorem ret_u32 {a b : Int} (h : a = b) : Ending.returned (.int .u32 a) = .returned (.int .u32 b) := by rw [h]

theorem u32_odd (a : Nat) (ha : a < 4294967296) : (bits BinOp.and IntKind.u32 (a : Int) 1 != 0) = decide (a % 2 = 1) := by
  rw [show (1 : Int) = ((1 : Nat) : Int) by rfl, u32_and_nat a 1 ha (by omega), Nat.and_one_is_mod, Bool.eq_iff_iff]
  simp
  omega

set_option maxHeartbeats 400000 in
theorem bitOn_any (p : Nat) (w : World) (hp : p < 4294967296) :
    Calls Tryz.prog 105 #[.int .u32 (p : Int)] w fun e w' => e = .returned (.int .u32 ((Crc.b1 p : Nat) : Int)) ∧ w = w' := by
  have t := u32_odd p hp
  by_cases h : p % 2 = 1
  · have t1 : (bits BinOp.and IntKind.u32 (p : Int) 1 != 0) = true := by rw [t]; simpa using h
    have H : Hid (bits BinOp.xor IntKind.u32 ((p : Int) / 2) 3988292384 = ((Crc.b1 p : Nat) : Int)) := by
      show _ = _
      rw [Crc.b1_odd p h, show (3988292384 : Int) = ((3988292384 : Nat) : Int) by rfl, show (p : Int) / 2 = ((p / 2 : Nat) : Int) by omega, u32_xor_nat _ _ (by omega) (by omega)]
    clear t h
    go_enter Tryz.func105, Tryz.ntmps105
    go_wp2
    go_ret
    exact ⟨ret_u32 H.out, rfl⟩
  · have t1 : (bits BinOp.and IntKind.u32 (p : Int) 1 != 0) = false := by rw [t]; simpa using h
    have H : Hid ((p : Int) / 2 = ((Crc.b1 p : Nat) : Int)) := by
      show _ = _
      rw [Crc.b1_even p h]; omega
    clear t h
    go_enter Tryz.func105, Tryz.ntmps105
    go_wp2
    go_ret
    exact ⟨ret_u32 H.out, rfl⟩

set_option maxHeartbeats 400000 in
theorem byteOn_any (p : Nat) (w : World) (hp : p < 4294967296) :
    Calls Tryz.prog 99 #[.int .u32 (p : Int)] w fun e w' => e = .returned (.int .u32 ((Crc.bN 8 p : Nat) : Int)) ∧ w = w' := by
  go_enter Tryz.func99, Tryz.ntmps99
  go_wp2
  go_loop [0, 3] (fun v i => ∃ k : Nat, k ≤ 8 ∧ i = .int .i64 k ∧ v = .int .u32 ((Crc.bN k p : Nat) : Int)) (fun _ i => 8 - (intOf i).toNat)
  case atStart => exact ⟨0, Nat.zero_le _, rfl, rfl⟩
  case round =>
    obtain ⟨k, hk, rfl, rfl⟩ := hrel
    have hl : Crc.bN k p < 4294967296 := Crc.bN_lt p hp k
    have HS : Hid (Crc.bN (k + 1) p = Crc.b1 (Crc.bN k p)) := rfl
    by_cases hlt : k < 8
    · go_wp2_with ((go_at_call 105; refine (bitOn_any _ _ (by omega)).mono ?_; rintro e w' ⟨rfl, rfl⟩))
      go_round
      case rel => exact ⟨k + 1, by omega, by go_num, by rw [HS.out]⟩
      case measure => simp [intOf]; omega
    · obtain rfl : k = 8 := by omega
      go_wp2
      go_ret
      exact ⟨rfl, rfl⟩

theorem u32_top (a : Nat) (ha : a < 4294967296) : (bits BinOp.and IntKind.u32 (a : Int) 2147483648 != 0) = decide (a / 2 ^ 31 % 2 = 1) := by
  rw [show (2147483648 : Int) = ((2147483648 : Nat) : Int) by rfl, u32_and_nat a _ ha (by omega), Bool.eq_iff_iff]
  have h : a &&& 2147483648 = a / 2 ^ 31 % 2 * 2 ^ 31 :=
    Gf.lin_ext (f := fun a => a &&& 2147483648) (g := fun a => a / 2 ^ 31 % 2 ^ 1 * 2 ^ 31) (Crc.lin_and _) (Gf.Lin.comp (f := fun x => x * 2 ^ 31) (Crc.lin_mul 31) (Gf.Lin.comp (f := fun x => x % 2 ^ 1) (Crc.lin_mod 1) (Crc.lin_div 31))) 32 (by decide +kernel) a ha
  rw [h]
  simp
  omega

theorem i64_odd (a : Nat) (ha : a < 2 ^ 62) : (bits BinOp.and IntKind.i64 (a : Int) 1 != 0) = decide (a % 2 = 1) := by
  have h : bits .and .i64 (a : Int) 1 = ((a % 2 : Nat) : Int) := by
    have h := (bits_nat .i64 62 (by decide) (fun n h0 h1 => by rw [IntKind.wrap_i64]; omega) a 1 ha (by omega)).1
    rw [Nat.and_one_is_mod] at h
    exact h
  rw [h, Bool.eq_iff_iff]
  simp
  omega

theorem byteOn_one (w : World) : Calls Tryz.prog 99 #[.int .u32 2147483648] w fun e w' => e = .returned (.int .u32 ((Crc.bN 8 2147483648 : Nat) : Int)) ∧ w = w' := byteOn_any 2147483648 w (by omega)

end Go.Proofs.YtdgpbdedaafdiaaGreat

namespace Go.Proofs.YtdgpbdedaafdiaaGreat
open Go.RowKit

theorem u32_not (r : Nat) (hr : r < 4294967296) : bits BinOp.xor IntKind.u32 IntKind.u32.max (r : Int) = ((4294967295 ^^^ r : Nat) : Int) :=
  u32_xor_nat 4294967295 r (by omega) hr

set_option maxHeartbeats 1000000 in
theorem of_any (a : Option Addr) (cap l : Nat) (ps : List Nat) (w : World) (hl : ps.length = l) (h : SeenAt w a cap ps) :
    Calls Tryz.prog 86 #[.slice a l cap] w fun e w' => e = .returned (.int .u32 ((Crc.sum ps : Nat) : Int)) ∧ w = w' := by
  have hm : l ≤ maxLen := by have := h.le; have := h.max; omega
  unfold maxLen at hm
  have HC := Lib.hid h.cell
  have HB := Lib.hid h.byte
  have HL := Lib.hid hl
  clear h hl
  go_enter Tryz.func86, Tryz.ntmps86
  go_wp2
  go_loop [3, 5, 8] (fun v _ i => ∃ k : Nat, k ≤ l ∧ i = .int .i64 k ∧ v = .int .u32 ((Crc.reg 4294967295 (ps.take k) : Nat) : Int)) (fun _ _ i => l - (intOf i).toNat)
  case atStart => exact ⟨0, Nat.zero_le _, rfl, rfl⟩
  case round =>
    obtain ⟨k, hk, rfl, rfl⟩ := hrel
    have hr : Crc.reg 4294967295 (ps.take k) < 4294967296 := Crc.reg_lt _ _ (by omega) (bytes_take ps k HB.out)
    by_cases hlt : k < l
    · obtain ⟨b, off, rfl, hck⟩ := HC.out k (by rw [HL.out]; exact hlt)
      have hc := bytes_get ps k HB.out
      have HS : Hid (Crc.reg 4294967295 (ps.take (k + 1)) = Crc.bN 8 (Crc.reg 4294967295 (ps.take k) ^^^ ps.getD k 0)) := by
        show _ = _
        rw [take_sn ps k (by rw [HL.out]; exact hlt), Crc.reg_app]
        rfl
      generalize ps.getD k 0 = c at *
      generalize Crc.reg 4294967295 (ps.take k) = r at *
      have hx : r ^^^ c < 4294967296 := Crc.x_lt32 hr (by omega)
      have HX := Lib.hid (u32_xor_nat r c hr (by omega))
      go_wp2_with fail
      rw [HX.out]
      refine (byteOn_any _ _ hx).mono ?_
      rintro e w' ⟨rfl, rfl⟩
      go_wp2
      go_round
      case rel => exact ⟨k + 1, by omega, by go_num, by rw [HS.out]⟩
      case measure => simp [intOf]; omega
    · obtain rfl : k = l := by omega
      have HT : Hid (ps.take k = ps) := List.take_of_length_le (by rw [HL.out]; omega)
      rw [HT.out] at hr ⊢
      go_wp2
      go_ret
      exact ⟨ret_u32 (u32_not _ hr), rfl⟩

theorem a_of9 (w : World) : Calls Tryz.prog 86 #[.slice (some ⟨w.heap.size, 0, none⟩) 9 9] (w.alloc (.cells #[Value.int IntKind.u8 49, Value.int IntKind.u8 50, Value.int IntKind.u8 51, Value.int IntKind.u8 52, Value.int IntKind.u8 53, Value.int IntKind.u8 54, Value.int IntKind.u8 55, Value.int IntKind.u8 56, Value.int IntKind.u8 57] 5 (9, 10))) fun e w' => e = .returned (.int .u32 3421780262) ∧ w.alloc (.cells #[Value.int IntKind.u8 49, Value.int IntKind.u8 50, Value.int IntKind.u8 51, Value.int IntKind.u8 52, Value.int IntKind.u8 53, Value.int IntKind.u8 54, Value.int IntKind.u8 55, Value.int IntKind.u8 56, Value.int IntKind.u8 57] 5 (9, 10)) = w' :=
  (of_any _ 9 9 [49, 50, 51, 52, 53, 54, 55, 56, 57] _ rfl (seen_lit w [49, 50, 51, 52, 53, 54, 55, 56, 57] #[Value.int IntKind.u8 49, Value.int IntKind.u8 50, Value.int IntKind.u8 51, Value.int IntKind.u8 52, Value.int IntKind.u8 53, Value.int IntKind.u8 54, Value.int IntKind.u8 55, Value.int IntKind.u8 56, Value.int IntKind.u8 57] (9, 10) rfl (by intro c hc; simp at hc; omega) (by decide))).mono fun e w' h => by rw [show Crc.sum [49, 50, 51, 52, 53, 54, 55, 56, 57] = 3421780262 by decide +kernel] at h; exact h

theorem a_of4 (w : World) : Calls Tryz.prog 86 #[.slice (some ⟨w.heap.size, 0, none⟩) 4 4] (w.alloc (.cells #[Value.int IntKind.u8 49, Value.int IntKind.u8 50, Value.int IntKind.u8 51, Value.int IntKind.u8 52] 5 (4, 5))) fun e w' => e = .returned (.int .u32 2615402659) ∧ w.alloc (.cells #[Value.int IntKind.u8 49, Value.int IntKind.u8 50, Value.int IntKind.u8 51, Value.int IntKind.u8 52] 5 (4, 5)) = w' :=
  (of_any _ 4 4 [49, 50, 51, 52] _ rfl (seen_lit w [49, 50, 51, 52] #[Value.int IntKind.u8 49, Value.int IntKind.u8 50, Value.int IntKind.u8 51, Value.int IntKind.u8 52] (4, 5) rfl (by intro c hc; simp at hc; omega) (by decide))).mono fun e w' h => by rw [show Crc.sum [49, 50, 51, 52] = 2615402659 by decide +kernel] at h; exact h

theorem a_of5 (w : World) : Calls Tryz.prog 86 #[.slice (some ⟨w.heap.size, 0, none⟩) 5 5] (w.alloc (.cells #[Value.int IntKind.u8 53, Value.int IntKind.u8 54, Value.int IntKind.u8 55, Value.int IntKind.u8 56, Value.int IntKind.u8 57] 5 (5, 6))) fun e w' => e = .returned (.int .u32 320708720) ∧ w.alloc (.cells #[Value.int IntKind.u8 53, Value.int IntKind.u8 54, Value.int IntKind.u8 55, Value.int IntKind.u8 56, Value.int IntKind.u8 57] 5 (5, 6)) = w' :=
  (of_any _ 5 5 [53, 54, 55, 56, 57] _ rfl (seen_lit w [53, 54, 55, 56, 57] #[Value.int IntKind.u8 53, Value.int IntKind.u8 54, Value.int IntKind.u8 55, Value.int IntKind.u8 56, Value.int IntKind.u8 57] (5, 6) rfl (by intro c hc; simp at hc; omega) (by decide))).mono fun e w' h => by rw [show Crc.sum [53, 54, 55, 56, 57] = 320708720 by decide +kernel] at h; exact h

theorem a_of0 (w : World) : Calls Tryz.prog 86 #[.slice none 0 0] w fun e w' => e = .returned (.int .u32 0) ∧ w = w' :=
  (of_any none 0 0 [] w rfl (SeenAt.nil (Nat.zero_le _))).mono fun e w' h => by rw [show Crc.sum [] = 0 by decide +kernel] at h; exact h

end Go.Proofs.YtdgpbdedaafdiaaGreat

namespace Go.Proofs.YtdgpbdedaafdiaaGreat
open Go.RowKit

theorem swp_step (s m : Nat) (x : Nat) (hx : x < 4294967296) (hm : m < 4294967296) (P M : Int) (hP : P = ((2 ^ s : Nat) : Int)) (hM : M = (m : Int)) :
    bits BinOp.or IntKind.u32 (bits BinOp.and IntKind.u32 ((x : Int) / P) M) (bits BinOp.and IntKind.u32 (x : Int) M * P % 4294967296) = ((Crc.swp s m x : Nat) : Int) := by
  subst hP hM
  have hd : x / 2 ^ s < 4294967296 := Nat.lt_of_le_of_lt (Nat.div_le_self _ _) hx
  have h1 : x / 2 ^ s &&& m < 4294967296 := Nat.lt_of_le_of_lt Nat.and_le_right hm
  rw [show (x : Int) / ((2 ^ s : Nat) : Int) = ((x / 2 ^ s : Nat) : Int) by simp, u32_and_nat _ m hd hm, u32_and_nat x m hx hm,
    show (((x &&& m : Nat) : Int) * ((2 ^ s : Nat) : Int) % 4294967296) = (((x &&& m) * 2 ^ s % 4294967296 : Nat) : Int) by simp, u32_or_nat _ _ h1 (Nat.mod_lt _ (by omega))]
  rfl

theorem swp_last (y : Nat) (hl : y < 4294967296) : bits BinOp.or IntKind.u32 ((y : Int) / 65536) ((y : Int) * 65536 % 4294967296) = ((Crc.swp 16 65535 y : Nat) : Int) := by
  rw [Crc.swp_half _ hl, ← u32_or_nat (y / 65536) (y * 65536 % 4294967296) (by omega) (by omega)]
  simp

theorem table_at (B : ByteArray) (hB : ∀ y, y < 256 → (B.data.getD y 0).toNat = Crc.rv 8 y) (x : Nat) (h : x < B.size) (hx : x < 256) : (B[x]'h).toNat = Crc.rv 8 x := by
  have h' : x < B.data.size := h
  rw [← hB x hx]
  show B.data[x].toNat = (B.data.getD x 0).toNat
  rw [Array.getD_eq_getD_getElem?, Array.getElem?_eq_getElem h']
  rfl

end Go.Proofs.YtdgpbdedaafdiaaGreat

namespace Go.Proofs.YtdgpbdedaafdiaaGreat
open Go.RowKit

theorem rv8_not (c : Nat) : 255 ^^^ Crc.rv 8 c = Crc.rv 8 (255 ^^^ c) := by
  rw [Crc.rv_lin 8 255 c, show Crc.rv 8 255 = 255 by decide +kernel]

theorem u8_not (c : Nat) (hc : c < 256) : bits BinOp.xor IntKind.u8 IntKind.u8.max (c : Int) = ((255 ^^^ c : Nat) : Int) := u8_xor_nat 255 c (by omega) hc

theorem behind (R y : Nat) (hR : R < 4294967296) (hy : y < 256) : bits BinOp.or IntKind.u64 ((R : Int) * 256) (y : Int) = ((R * 2 ^ 8 + y : Nat) : Int) := by
  rw [show (R : Int) * 256 = ((R * 256 : Nat) : Int) by omega, u64_or_nat _ _ (by omega) (by omega)]
  have := Nat.shiftLeft_add_eq_or_of_lt (i := 8) (b := y) hy R
  rw [Nat.shiftLeft_eq] at this
  rw [this]

theorem bit64u (l j : Nat) (hl : l < 2 ^ 40) : (bits BinOp.and IntKind.u64 ((l : Int) / 2 ^ j) 1 == 1) = decide (l / 2 ^ j % 2 = 1) := by
  have e : (l : Int) / 2 ^ j = ((l / 2 ^ j : Nat) : Int) := by simp
  have hl : l / 2 ^ j < 18446744073709551616 := Nat.lt_of_le_of_lt (Nat.div_le_self _ _) (by omega)
  rw [e, show (1 : Int) = ((1 : Nat) : Int) by rfl, u64_and_nat _ 1 hl (by omega), Nat.and_one_is_mod, Bool.eq_iff_iff]
  simp
  omega

theorem rd_yes (z k : Nat) (hz : z < 2 ^ 40) (h32 : 32 ≤ k) (h39 : k ≤ 39) (h : Crc.rdN (39 - k) z / 2 ^ k % 2 = 1) :
    bits BinOp.xor IntKind.u64 ((Crc.rdN (39 - k) z : Nat) : Int) (IntKind.u64.wrap (4374732215 * 2 ^ (k - 32))) = ((Crc.rdN (39 - (k - 1)) z : Nat) : Int) := by
  have hp : (2 : Nat) ^ (k - 32) ≤ 2 ^ 7 := Nat.pow_le_pow_right (by omega) (by omega)
  have e : (4374732215 : Int) * 2 ^ (k - 32) = ((4374732215 * 2 ^ (k - 32) : Nat) : Int) := by simp
  have hl := Crc.rdN_lt z hz (39 - k) (by omega)
  have hm : 4374732215 * 2 ^ (k - 32) < 18446744073709551616 := by omega
  rw [e, IntWalk.u64_in _ (by omega), u64_xor_nat _ _ (by omega) hm, show 39 - (k - 1) = (39 - k) + 1 by omega]
  show _ = ((Crc.rdN (39 - k) z ^^^ (if Crc.rdN (39 - k) z / 2 ^ (39 - (39 - k)) % 2 = 1 then 4374732215 * 2 ^ (39 - (39 - k) - 32) else 0) : Nat) : Int)
  rw [show 39 - (39 - k) = k by omega, if_pos h]

theorem rd_no (z k : Nat) (h32 : 32 ≤ k) (h39 : k ≤ 39) (h : ¬ Crc.rdN (39 - k) z / 2 ^ k % 2 = 1) : Crc.rdN (39 - k) z = Crc.rdN (39 - (k - 1)) z := by
  rw [show 39 - (k - 1) = (39 - k) + 1 by omega]
  show _ = Crc.rdN (39 - k) z ^^^ (if Crc.rdN (39 - k) z / 2 ^ (39 - (39 - k)) % 2 = 1 then 4374732215 * 2 ^ (39 - (39 - k) - 32) else 0)
  rw [show 39 - (39 - k) = k by omega, if_neg h, Nat.xor_zero]

end Go.Proofs.YtdgpbdedaafdiaaGreat
