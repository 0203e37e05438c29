/-
  What mat's functions on one row do: scale, addMultiple.
-/
import Derived.Test.YtnhledngeicekaaMem
import Derived.Test.YtnhledngeicekaaMatA
import Derived.StillTailTactics
import Derived.BigRegion
namespace Go.Proofs.Ytnhledngeicekaa
open Go.RowKit

set_option maxHeartbeats 1000000 in
theorem scale_any (tb g cap base f : Nat) (row : List Nat) (w : World) (ht : IsTab w tb) (htg : tb ≠ g) (hown : OwnB w base g cap row) (hf : f < 256) :
    Calls Try.prog 53 #[.pointer (some ⟨tb, 0, none⟩), .slice (some ⟨g, 0, none⟩) row.length cap, .int .u8 (f : Int)] w fun e w' => e = .returned (.tuple #[]) ∧ OwnB w' base g cap (Mt.scale row f) ∧ Chg [g] w w' := by
  have hm := hown.cap_le
  have hm' : row.length ≤ maxLen := by omega
  unfold maxLen at hm'
  clear hm
  have HT := Lib.hid ht
  have HO := Lib.hid hown
  clear ht hown
  go_enter Try.func53, Try.ntmps53
  go_wp2
  go_loopw [6, 7, 10] (fun _ _ i ws => ∃ k : Nat, k ≤ row.length ∧ i = .int .i64 k ∧ Hid (OwnB ws base g cap (Mt.scaleK row f k)) ∧ Hid (Chg [g] w ws)) (fun _ _ i _ => row.length - (intOf i).toNat)
  case atStart => exact ⟨0, Nat.zero_le _, rfl, by rw [Mt.scaleK_zero]; exact HO, Chg.refl _ _⟩
  case round =>
    obtain ⟨k, hk, rfl, hO, hC⟩ := hrel
    have hkl := Mt.scaleK_len row f k
    by_cases hlt : k < row.length
    · have hck := hO.out.cell k (by rw [hkl]; exact hlt)
      have hfz := hO.out.frozen k
      have HAT := Lib.hid (Mt.scaleK_at row f k)
      rw [HAT.out] at hck
      have hb := bytes_get row k HO.out.byte
      have hg := Gf.gm_lt (row.getD k 0) f hb
      have HS := Lib.hid (Mt.scaleK_set row f k hlt)
      have HST := Lib.hid (hO.out.storedN k (Gf.gm (row.getD k 0) f) hg)
      have HTT := Lib.hid (HT.out.chg hC.out (by simp; omega))
      clear HAT hkl
      generalize row.getD k 0 = x at *
      go_wp2_with ((go_at_call 39; refine (tmul_any _ _ _ _ HTT.out (by omega) (by omega)).mono ?_; rintro e w' ⟨rfl, n, rfl⟩))
      go_round
      case rel => exact ⟨k + 1, by omega, by go_num, by rw [HS.out]; exact (HST.out n).1, hC.out.trans (HST.out n).2⟩
      case measure => simp [intOf]; omega
    · obtain rfl : k = row.length := by omega
      rw [Mt.scaleK_all] at hO
      go_wp2
      go_end0
      exact ⟨rfl, hO.out, hC.out⟩

set_option maxHeartbeats 1000000 in
theorem addMul_zero (tb : Addr) (g rl cap vl vc : Nat) (va : Option Addr) (w : World) :
    Calls Try.prog 44 #[.pointer (some tb), .slice (some ⟨g, 0, none⟩) rl cap, .slice va vl vc, .int .u8 0] w fun e w' => e = .returned (.tuple #[]) ∧ w = w' := by
  go_enter Try.func44, Try.ntmps44
  go_wp2
  first | go_end0 | (simp only [Exit.inBlock, Exit.then]; refine bodyPost_ret (results_none rfl _ _ _) rfl ?_) | refine bodyPost_ret (results_none rfl _ _ _) rfl ?_
  exact ⟨rfl, rfl⟩

set_option maxHeartbeats 1000000 in
theorem addMul_some (tb g cap base f vc : Nat) (row other : List Nat) (va : Option Addr) (w : World) (ht : IsTab w tb) (htg : tb ≠ g) (hown : OwnB w base g cap row) (hs : SeenAt w va vc other)
    (hva : ∀ b off, va = some ⟨b, off, none⟩ → b ≠ g) (hl : other.length ≤ row.length) (hf : f < 256) (hf0 : f ≠ 0) :
    Calls Try.prog 44 #[.pointer (some ⟨tb, 0, none⟩), .slice (some ⟨g, 0, none⟩) row.length cap, .slice va other.length vc, .int .u8 (f : Int)] w fun e w' => e = .returned (.tuple #[]) ∧ OwnB w' base g cap (Mt.addMul row other f) ∧ Chg [g] w w' := by
  have hm := hown.cap_le
  have hm' : row.length ≤ maxLen := by omega
  unfold maxLen at hm'
  have t0 : ((f : Int) == 0) = false := by simp; omega
  have HT := Lib.hid ht
  have HO := Lib.hid hown
  have HSV := Lib.hid hs
  have HV := Lib.hid hva
  clear hm ht hown hs hva
  go_enter Try.func44, Try.ntmps44
  go_wp2
  go_loopw [8, 9, 14] (fun _ _ i ws => ∃ k : Nat, k ≤ other.length ∧ i = .int .i64 k ∧ Hid (OwnB ws base g cap (Mt.addMul row (other.take k) f)) ∧ Hid (Chg [g] w ws)) (fun _ _ i _ => other.length - (intOf i).toNat)
  case atStart => exact ⟨0, Nat.zero_le _, rfl, by rw [List.take_zero, Mt.addMul_nil]; exact HO, Chg.refl _ _⟩
  case round =>
    obtain ⟨k, hk, rfl, hO, hC⟩ := hrel
    by_cases hlt : k < other.length
    · have hkl := Mt.addMul_len row (other.take k) f
      have hkr : k < row.length := by omega
      have hck := hO.out.cell k (by rw [hkl]; exact hkr)
      have hfz := hO.out.frozen k
      have hb1 := bytes_get _ k hO.out.byte
      have hb2 := bytes_get _ k HSV.out.byte
      have hg := Gf.gm_lt (other.getD k 0) f hb2
      have hx := Gf.x_lt _ _ hb1 hg
      have HS := Lib.hid (Mt.addMul_set row other f k hlt hkr)
      have HST := Lib.hid (hO.out.storedN k _ hx)
      have HTT := Lib.hid (HT.out.chg hC.out (by simp; omega))
      obtain ⟨vb, voff, e, hcv0⟩ := HSV.out.cell k hlt
      subst e
      have hcv := hC.out.cell hcv0 (by simp; exact HV.out vb voff rfl)
      have HX := Lib.hid (u8_xor_nat _ _ hb1 hg)
      have hk1 : (k : Int) < (row.length : Int) := by omega
      have hk2 : (k : Int) < (other.length : Int) := by omega
      have hk3 : (0 : Int) ≤ (k : Int) := by omega
      clear hcv0 hkl
      generalize other.getD k 0 = x at *
      generalize (Mt.addMul row (other.take k) f).getD k 0 = y at *
      go_wp2
      go_region_with (first | (go_at_call 39; (with_reducible refine (tmul_any _ _ _ _ ?_ ?_ ?_).mono ?_); (exact HTT.out.alike rfl); omega; omega; rintro e w' ⟨rfl, n, rfl⟩) | (go_at_call 55; (with_reducible refine (add_any _ _ _ ?_ ?_).mono ?_); omega; omega; rintro e w' ⟨rfl, rfl⟩))
      all_goals go_wp2
      all_goals
        go_round
        case rel => exact ⟨k + 1, by omega, by go_num, by rw [HS.out]; exact (HST.out _).1, hC.out.trans (HST.out _).2⟩
        case measure => simp [intOf]; omega
    · obtain rfl : k = other.length := by omega
      have HE := Lib.hid (List.take_of_length_le (Nat.le_refl other.length))
      rw [HE.out] at hO
      go_wp2
      go_end0
      exact ⟨rfl, hO.out, hC.out⟩

theorem addMul_any (tb g cap base f vc : Nat) (row other : List Nat) (va : Option Addr) (w : World) (ht : IsTab w tb) (htg : tb ≠ g) (hown : OwnB w base g cap row) (hs : SeenAt w va vc other)
    (hva : ∀ b off, va = some ⟨b, off, none⟩ → b ≠ g) (hl : other.length ≤ row.length) (hf : f < 256) :
    Calls Try.prog 44 #[.pointer (some ⟨tb, 0, none⟩), .slice (some ⟨g, 0, none⟩) row.length cap, .slice va other.length vc, .int .u8 (f : Int)] w fun e w' => e = .returned (.tuple #[]) ∧ OwnB w' base g cap (Mt.addMul row other f) ∧ Chg [g] w w' := by
  by_cases h0 : f = 0
  · subst h0
    rw [Mt.addMul_zero]
    exact (addMul_zero _ g row.length cap other.length vc va w).mono fun e w' ⟨h, h'⟩ => by subst h'; exact ⟨h, hown, Chg.refl _ _⟩
  · exact addMul_some tb g cap base f vc row other va w ht htg hown hs hva hl hf h0

end Go.Proofs.Ytnhledngeicekaa
