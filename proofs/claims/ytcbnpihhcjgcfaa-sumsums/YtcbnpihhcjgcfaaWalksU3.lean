/-
  What the bits' reversals do that the reference calls.
-/
import Derived.Test.YtcbnpihhcjgcfaaWalksU2
namespace Go.Proofs.Ytcbnpihhcjgcfaa
open Go.RowKit

theorem swp_step (s m : Nat) (x : Nat) (hx : x < 4294967296) (hm : m < 4294967296) (P M : Int) (hP : P = ((2 ^ s : Nat) : Int)) (hM : M = (m : Int)) :
    bits BinOp.or IntKind.u32 (bits BinOp.and IntKind.u32 ((x : Int) / P) M) (bits BinOp.and IntKind.u32 (x : Int) M * P % 4294967296) = ((Crc.swp s m x : Nat) : Int) := by
  subst hP hM
  have hd : x / 2 ^ s < 4294967296 := Nat.lt_of_le_of_lt (Nat.div_le_self _ _) hx
  have h1 : x / 2 ^ s &&& m < 4294967296 := Nat.lt_of_le_of_lt Nat.and_le_right hm
  rw [show (x : Int) / ((2 ^ s : Nat) : Int) = ((x / 2 ^ s : Nat) : Int) by simp, u32_and_nat _ m hd hm, u32_and_nat x m hx hm,
    show (((x &&& m : Nat) : Int) * ((2 ^ s : Nat) : Int) % 4294967296) = (((x &&& m) * 2 ^ s % 4294967296 : Nat) : Int) by simp, u32_or_nat _ _ h1 (Nat.mod_lt _ (by omega))]
  rfl

theorem swp_last (y : Nat) (hl : y < 4294967296) : bits BinOp.or IntKind.u32 ((y : Int) / 65536) ((y : Int) * 65536 % 4294967296) = ((Crc.swp 16 65535 y : Nat) : Int) := by
  rw [Crc.swp_half _ hl, ← u32_or_nat (y / 65536) (y * 65536 % 4294967296) (by omega) (by omega)]
  simp

set_option maxHeartbeats 1000000 in
theorem revBytes_any (x : Nat) (w : World) (hx : x < 4294967296) :
    Calls Try.prog 17 #[.int .u32 (x : Int)] w fun e w' => e = .returned (.int .u32 ((Crc.swp 16 65535 (Crc.swp 8 16711935 x) : Nat) : Int)) ∧ w = w' := by
  have h8 := swp_step 8 16711935 x hx (by omega) 256 16711935 rfl rfl
  have hl : Crc.swp 8 16711935 x < 4294967296 := Crc.swp_lt 8 16711935 x (by omega)
  have H16 := Lib.hid (swp_last _ hl)
  generalize Crc.swp 8 16711935 x = y at *
  go_enter Try.func17, Try.ntmps17
  go_wp2
  go_ret
  exact ⟨ret_u32 H16.out, rfl⟩

set_option maxHeartbeats 1000000 in
theorem rev32_any (x : Nat) (w : World) (hx : x < 4294967296) :
    Calls Try.prog 13 #[.int .u32 (x : Int)] w fun e w' => e = .returned (.int .u32 ((Crc.rv 32 x : Nat) : Int)) ∧ w = w' := by
  have HE := Lib.hid (Crc.rev_eq x hx)
  have h1 := swp_step 1 1431655765 x hx (by omega) 2 1431655765 rfl rfl
  have l1 : Crc.swp 1 1431655765 x < 4294967296 := Crc.swp_lt 1 1431655765 x (by omega)
  generalize Crc.swp 1 1431655765 x = y1 at *
  have h2 := swp_step 2 858993459 y1 l1 (by omega) 4 858993459 rfl rfl
  have l2 : Crc.swp 2 858993459 y1 < 4294967296 := Crc.swp_lt 2 858993459 y1 (by omega)
  generalize Crc.swp 2 858993459 y1 = y2 at *
  have h4 := swp_step 4 252645135 y2 l2 (by omega) 16 252645135 rfl rfl
  have l4 : Crc.swp 4 252645135 y2 < 4294967296 := Crc.swp_lt 4 252645135 y2 (by omega)
  generalize Crc.swp 4 252645135 y2 = y4 at *
  go_enter Try.func13, Try.ntmps13
  go_wp2_with fail
  refine (revBytes_any _ _ l4).mono ?_
  rintro e w' ⟨rfl, rfl⟩
  rw [HE.out]
  go_wp2
  go_ret
  exact ⟨rfl, rfl⟩

theorem table_at (B : ByteArray) (hB : ∀ y, y < 256 → (B.data.getD y 0).toNat = Crc.rv 8 y) (x : Nat) (h : x < B.size) (hx : x < 256) : (B[x]'h).toNat = Crc.rv 8 x := by
  have h' : x < B.data.size := h
  rw [← hB x hx]
  show B.data[x].toNat = (B.data.getD x 0).toNat
  rw [Array.getD_eq_getD_getElem?, Array.getElem?_eq_getElem h']
  rfl

set_option maxRecDepth 1000000 in
set_option maxHeartbeats 4000000 in
theorem rev8_any (x : Nat) (w : World) (hx : x < 256) :
    Calls Try.prog 12 #[.int .u8 (x : Int)] w fun e w' => e = .returned (.int .u8 ((Crc.rv 8 x : Nat) : Int)) ∧ w = w' := by
  go_enter Try.func12, Try.ntmps12
  go_wp2
  go_ret
  refine ⟨ret_u8 (congrArg _ (table_at _ ?_ x _ hx)), rfl⟩
  decide +kernel

end Go.Proofs.Ytcbnpihhcjgcfaa
