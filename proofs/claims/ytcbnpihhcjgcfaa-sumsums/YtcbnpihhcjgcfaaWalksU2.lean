/-
  What sum.Of does, and the laws' fixed fact.
-/
import Derived.Test.YtcbnpihhcjgcfaaWalksU1
import Derived.Lib.SlBytesConst
namespace Go.Proofs.Ytcbnpihhcjgcfaa
open Go.RowKit

theorem take_snoc (ps : List Nat) (k : Nat) (h : k < ps.length) : ps.take (k + 1) = ps.take k ++ [ps.getD k 0] := by
  rw [List.take_succ_eq_append_getElem h, List.getD_eq_getElem?_getD, List.getElem?_eq_getElem h]; rfl

theorem u32_not (r : Nat) (hr : r < 4294967296) : bits BinOp.xor IntKind.u32 IntKind.u32.max (r : Int) = ((4294967295 ^^^ r : Nat) : Int) :=
  u32_xor_nat 4294967295 r (by omega) hr

set_option maxHeartbeats 1000000 in
theorem of_any (a : Option Addr) (cap l : Nat) (ps : List Nat) (w : World) (hl : ps.length = l) (h : SeenAt w a cap ps) :
    Calls Try.prog 8 #[.slice a l cap] w fun e w' => e = .returned (.int .u32 ((Crc.sum ps : Nat) : Int)) ∧ w = w' := by
  have hm : l ≤ maxLen := by have := h.le; have := h.max; omega
  unfold maxLen at hm
  have HC := Lib.hid h.cell
  have HB := Lib.hid h.byte
  have HL := Lib.hid hl
  clear h hl
  go_enter Try.func8, Try.ntmps8
  go_wp2
  go_loop [3, 5, 8] (fun v _ i => ∃ k : Nat, k ≤ l ∧ i = .int .i64 k ∧ v = .int .u32 ((Crc.reg 4294967295 (ps.take k) : Nat) : Int)) (fun _ _ i => l - (intOf i).toNat)
  case atStart => exact ⟨0, Nat.zero_le _, rfl, rfl⟩
  case round =>
    obtain ⟨k, hk, rfl, rfl⟩ := hrel
    have hr : Crc.reg 4294967295 (ps.take k) < 4294967296 := Crc.reg_lt _ _ (by omega) (bytes_take ps k HB.out)
    by_cases hlt : k < l
    · obtain ⟨b, off, rfl, hck⟩ := HC.out k (by rw [HL.out]; exact hlt)
      have hc := bytes_get ps k HB.out
      have HS : Hid (Crc.reg 4294967295 (ps.take (k + 1)) = Crc.bN 8 (Crc.reg 4294967295 (ps.take k) ^^^ ps.getD k 0)) := by
        show _ = _
        rw [take_snoc ps k (by rw [HL.out]; exact hlt), Crc.reg_app]
        rfl
      generalize ps.getD k 0 = c at *
      generalize Crc.reg 4294967295 (ps.take k) = r at *
      have hx : r ^^^ c < 4294967296 := Crc.x_lt32 hr (by omega)
      have HX := Lib.hid (u32_xor_nat r c hr (by omega))
      go_wp2_with fail
      rw [HX.out]
      refine (byteOn_any _ _ hx).mono ?_
      rintro e w' ⟨rfl, rfl⟩
      go_wp2
      go_round
      case rel => exact ⟨k + 1, by omega, by go_num, by rw [HS.out]⟩
      case measure => simp [intOf]; omega
    · obtain rfl : k = l := by omega
      have HT : Hid (ps.take k = ps) := List.take_of_length_le (by rw [HL.out]; omega)
      rw [HT.out] at hr ⊢
      go_wp2
      go_ret
      exact ⟨ret_u32 (u32_not _ hr), rfl⟩

theorem seen_lit (w : World) (ps : List Nat) (cs : Array Value) (m : Nat × Nat) (hcs : cs.toList = vals ps) (hB : Gf.Bytes ps) (hm : ps.length ≤ maxLen) :
    SeenAt (w.alloc (.cells cs 5 m)) (some ⟨w.heap.size, 0, none⟩) ps.length ps :=
  ⟨Nat.le_refl _, hm, hB, fun i hi => ⟨w.heap.size, 0, rfl, by
    rw [Nat.zero_add, World.cell?_alloc_mark, ← Array.getElem?_toList, hcs]
    exact vals_at ps i hi⟩⟩

theorem a_of9 (w : World) : Calls Try.prog 8 #[.slice (some ⟨w.heap.size, 0, none⟩) 9 9] (w.alloc (.cells #[Value.int IntKind.u8 49, Value.int IntKind.u8 50, Value.int IntKind.u8 51, Value.int IntKind.u8 52, Value.int IntKind.u8 53, Value.int IntKind.u8 54, Value.int IntKind.u8 55, Value.int IntKind.u8 56, Value.int IntKind.u8 57] 5 (9, 10))) fun e w' => e = .returned (.int .u32 3421780262) ∧ w.alloc (.cells #[Value.int IntKind.u8 49, Value.int IntKind.u8 50, Value.int IntKind.u8 51, Value.int IntKind.u8 52, Value.int IntKind.u8 53, Value.int IntKind.u8 54, Value.int IntKind.u8 55, Value.int IntKind.u8 56, Value.int IntKind.u8 57] 5 (9, 10)) = w' :=
  (of_any _ 9 9 [49, 50, 51, 52, 53, 54, 55, 56, 57] _ rfl (seen_lit w [49, 50, 51, 52, 53, 54, 55, 56, 57] #[Value.int IntKind.u8 49, Value.int IntKind.u8 50, Value.int IntKind.u8 51, Value.int IntKind.u8 52, Value.int IntKind.u8 53, Value.int IntKind.u8 54, Value.int IntKind.u8 55, Value.int IntKind.u8 56, Value.int IntKind.u8 57] (9, 10) rfl (by intro c hc; simp at hc; omega) (by decide))).mono fun e w' h => by rw [show Crc.sum [49, 50, 51, 52, 53, 54, 55, 56, 57] = 3421780262 by decide +kernel] at h; exact h

theorem a_of4 (w : World) : Calls Try.prog 8 #[.slice (some ⟨w.heap.size, 0, none⟩) 4 4] (w.alloc (.cells #[Value.int IntKind.u8 49, Value.int IntKind.u8 50, Value.int IntKind.u8 51, Value.int IntKind.u8 52] 5 (4, 5))) fun e w' => e = .returned (.int .u32 2615402659) ∧ w.alloc (.cells #[Value.int IntKind.u8 49, Value.int IntKind.u8 50, Value.int IntKind.u8 51, Value.int IntKind.u8 52] 5 (4, 5)) = w' :=
  (of_any _ 4 4 [49, 50, 51, 52] _ rfl (seen_lit w [49, 50, 51, 52] #[Value.int IntKind.u8 49, Value.int IntKind.u8 50, Value.int IntKind.u8 51, Value.int IntKind.u8 52] (4, 5) rfl (by intro c hc; simp at hc; omega) (by decide))).mono fun e w' h => by rw [show Crc.sum [49, 50, 51, 52] = 2615402659 by decide +kernel] at h; exact h

theorem a_of5 (w : World) : Calls Try.prog 8 #[.slice (some ⟨w.heap.size, 0, none⟩) 5 5] (w.alloc (.cells #[Value.int IntKind.u8 53, Value.int IntKind.u8 54, Value.int IntKind.u8 55, Value.int IntKind.u8 56, Value.int IntKind.u8 57] 5 (5, 6))) fun e w' => e = .returned (.int .u32 320708720) ∧ w.alloc (.cells #[Value.int IntKind.u8 53, Value.int IntKind.u8 54, Value.int IntKind.u8 55, Value.int IntKind.u8 56, Value.int IntKind.u8 57] 5 (5, 6)) = w' :=
  (of_any _ 5 5 [53, 54, 55, 56, 57] _ rfl (seen_lit w [53, 54, 55, 56, 57] #[Value.int IntKind.u8 53, Value.int IntKind.u8 54, Value.int IntKind.u8 55, Value.int IntKind.u8 56, Value.int IntKind.u8 57] (5, 6) rfl (by intro c hc; simp at hc; omega) (by decide))).mono fun e w' h => by rw [show Crc.sum [53, 54, 55, 56, 57] = 320708720 by decide +kernel] at h; exact h

theorem a_of0 (w : World) : Calls Try.prog 8 #[.slice none 0 0] w fun e w' => e = .returned (.int .u32 0) ∧ w = w' :=
  (of_any none 0 0 [] w rfl (SeenAt.nil (Nat.zero_le _))).mono fun e w' h => by rw [show Crc.sum [] = 0 by decide +kernel] at h; exact h

theorem a_join (w : World) : Calls Try.prog 10 #[.int .u32 2615402659, .int .u32 320708720, .int .i64 5] w fun e w' => e = .returned (.int .u32 3421780262) ∧ w = w' :=
  (join_any 2615402659 320708720 5 w (by omega) (by omega) (by omega)).mono fun e w' h => by rw [show Crc.bN (8 * 5) 2615402659 ^^^ 320708720 = 3421780262 by decide +kernel] at h; exact h

set_option maxRecDepth 100000 in
set_option maxHeartbeats 1000000 in
theorem awake_any (w : World) :
    Calls Try.prog 7 #[] w fun e w' => e = .returned (.bool true) ∧ Below w.heap.size w w' := by
  have kc := fun (w : World) (C : Array Value) (n c : Nat) => Lib.run_convert_bytes_const (P := Try.prog) w 22 5 C n c Try.underlying22 Try.underlying5
  go_enter Try.func7, Try.ntmps7
  go_wp2_with fail
  refine (a_of9 _).mono ?_
  rintro e w1 ⟨rfl, rfl⟩
  have hb1 := below_one w (Obj.cells #[Value.int IntKind.u8 49, Value.int IntKind.u8 50, Value.int IntKind.u8 51, Value.int IntKind.u8 52, Value.int IntKind.u8 53, Value.int IntKind.u8 54, Value.int IntKind.u8 55, Value.int IntKind.u8 56, Value.int IntKind.u8 57] 5 (9, 10))
  generalize w.alloc (Obj.cells #[Value.int IntKind.u8 49, Value.int IntKind.u8 50, Value.int IntKind.u8 51, Value.int IntKind.u8 52, Value.int IntKind.u8 53, Value.int IntKind.u8 54, Value.int IntKind.u8 55, Value.int IntKind.u8 56, Value.int IntKind.u8 57] 5 (9, 10)) = w1 at *
  go_wp2_with fail
  refine (a_of0 _).mono ?_
  rintro e w2 ⟨rfl, rfl⟩
  go_wp2_with fail
  refine (a_of4 _).mono ?_
  rintro e w2 ⟨rfl, rfl⟩
  have hb2 := hb1.trans ((below_one w1 (Obj.cells #[Value.int IntKind.u8 49, Value.int IntKind.u8 50, Value.int IntKind.u8 51, Value.int IntKind.u8 52] 5 (4, 5))).mono hb1.size)
  generalize w1.alloc (Obj.cells #[Value.int IntKind.u8 49, Value.int IntKind.u8 50, Value.int IntKind.u8 51, Value.int IntKind.u8 52] 5 (4, 5)) = w2 at *
  go_wp2_with fail
  refine (a_of5 _).mono ?_
  rintro e w3 ⟨rfl, rfl⟩
  have hb3 := hb2.trans ((below_one w2 (Obj.cells #[Value.int IntKind.u8 53, Value.int IntKind.u8 54, Value.int IntKind.u8 55, Value.int IntKind.u8 56, Value.int IntKind.u8 57] 5 (5, 6))).mono hb2.size)
  generalize w2.alloc (Obj.cells #[Value.int IntKind.u8 53, Value.int IntKind.u8 54, Value.int IntKind.u8 55, Value.int IntKind.u8 56, Value.int IntKind.u8 57] 5 (5, 6)) = w3 at *
  go_wp2_with fail
  refine (a_join _).mono ?_
  rintro e w4 ⟨rfl, rfl⟩
  go_wp2
  go_ret
  exact ⟨rfl, hb3⟩

end Go.Proofs.Ytcbnpihhcjgcfaa
