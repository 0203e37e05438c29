/-
  Layer 3: the reference's At (Lagrange).
-/
import Derived.Test.YtnhledngeicekaaWalksS1
namespace Go.Proofs.Ytnhledngeicekaa
open Go.RowKit

set_option maxRecDepth 100000 in
set_option maxHeartbeats 2000000 in
theorem at_lagr (va : Option Addr) (vc l x : Nat) (vs : List Nat) (w : World) (hS : SeenAt w va vc vs) (hl : vs.length = l) (hl2 : l ≤ 256) (hx : x < 256) :
    Calls Try.prog 13 #[.slice va l vc, .int .u8 (x : Int)] w fun e w' => e = .returned (.int .u8 ((Mt.lagr vs x : Nat) : Int)) ∧ ∃ n, w' = w.drewN n := by
  have HL := Lib.hid hl
  have HS := Lib.hid hS
  have HE : Hid (Mt.lagr vs x = Mt.lgr vs l x l) := by show _ = _; unfold Mt.lagr; rw [hl]
  rw [HE.out]
  clear hS hl HE
  go_enter Try.func13, Try.ntmps13
  go_wp2
  go_loopw [5, 6, 7, 8, 9, 10] (fun s i _ _ _ _ ws => ∃ j n : Nat, j ≤ l ∧ s = .int .u8 ((Mt.lgr vs l x j : Nat) : Int) ∧ i = .int .i64 j ∧ ws = w.drewN n) (fun _ i _ _ _ _ _ => l - (intOf i).toNat)
  case atStart => exact ⟨0, 0, Nat.zero_le _, rfl, rfl, rfl⟩
  case round =>
    obtain ⟨j, n, hj, rfl, rfl, hws⟩ := hrel
    have HW := Lib.hid hws
    by_cases hlt : j < l
    · generalize wr = wo at *
      clear hws
      go_wp2
      go_loop [7, 8, 9] (fun s t i => ∃ q : Nat, q ≤ l ∧ s = .int .u8 ((Mt.up x j q : Nat) : Int) ∧ t = .int .u8 ((Mt.up j j q : Nat) : Int) ∧ i = .int .i64 q) (fun _ _ i => l - (intOf i).toNat)
      case atStart => exact ⟨0, Nat.zero_le _, rfl, rfl, rfl⟩
      case round =>
        obtain ⟨q, hq, rfl, rfl, rfl⟩ := hrel
        have u1 := Mt.up_lt x j q
        have u2 := Mt.up_lt j j q
        by_cases hlq : q < l
        · by_cases hqj : q = j
          · have HU : Hid (Mt.up x j (q + 1) = Mt.up x j q ∧ Mt.up j j (q + 1) = Mt.up j j q) := by constructor <;> simp [Mt.up, hqj]
            have hd : ((q : Int) != (j : Int)) = false := by simp; omega
            generalize Mt.up x j q = s at *
            generalize Mt.up j j q = t at *
            go_wp2
            go_round
            case rel => exact ⟨q + 1, by omega, by rw [HU.out.1], by rw [HU.out.2], by go_num⟩
            case measure => simp [intOf]; omega
          · have HU : Hid (Mt.up x j (q + 1) = Gf.gm (Mt.up x j q) (x ^^^ q) ∧ Mt.up j j (q + 1) = Gf.gm (Mt.up j j q) (j ^^^ q)) := by constructor <;> simp [Mt.up, hqj]
            have hd : ((q : Int) != (j : Int)) = true := by simp; omega
            have HX1 := Lib.hid (u8_xor_nat x q hx (by omega))
            have HX2 := Lib.hid (u8_xor_nat j q (by omega) (by omega))
            have hx1 := Gf.x_lt x q hx (by omega)
            have hx2 := Gf.x_lt j q (by omega) (by omega)
            generalize Mt.up x j q = s at *
            generalize Mt.up j j q = t at *
            go_wp2_with fail
            rw [HX1.out]
            refine (ref_gm _ _ _ (by omega) hx1).mono ?_
            rintro e w' ⟨rfl, rfl⟩
            go_wp2_with fail
            rw [HX2.out]
            refine (ref_gm _ _ _ (by omega) hx2).mono ?_
            rintro e w' ⟨rfl, rfl⟩
            go_wp2
            go_round
            case rel => exact ⟨q + 1, by omega, by rw [HU.out.1], by rw [HU.out.2], by go_num⟩
            case measure => simp [intOf]; omega
        · obtain rfl : q = l := by omega
          obtain ⟨xb, xoff, e, hx0⟩ := HS.out.cell j (by rw [HL.out]; exact hlt)
          subst e
          have hxc : wo.cell? ⟨xb, xoff + j, none⟩ = some (.int .u8 ((vs.getD j 0 : Nat) : Int)) := by rw [HW.out]; exact hx0
          have hxb := bytes_get vs j HS.out.byte
          have hg := Mt.lgr_lt vs q x j HS.out.byte
          have HST : Hid (Mt.lgr vs q x (j + 1) = Mt.lgr vs q x j ^^^ Gf.gm (vs.getD j 0) (Gf.gm (Mt.up x j q) (Gf.ipow (Mt.up j j q) 254))) := rfl
          have hp := Gf.ipow_lt (Mt.up j j q) 254
          have hq1 := Gf.gm_lt (Mt.up x j q) (Gf.ipow (Mt.up j j q) 254) u1
          have hq2 := Gf.gm_lt (vs.getD j 0) (Gf.gm (Mt.up x j q) (Gf.ipow (Mt.up j j q) 254)) hxb
          have HX := Lib.hid (u8_xor_nat _ _ hg hq2)
          have i0 : (0 : Int) ≤ (j : Int) := by omega
          have i1 : (j : Int) < (q : Int) := by omega
          clear hx0
          generalize Mt.lgr vs q x j = z at *
          generalize vs.getD j 0 = y at *
          generalize Mt.up x j q = s at *
          generalize Mt.up j j q = t at *
          go_wp2_with fail
          refine (power_any t 254 _ u2 (by omega)).mono ?_
          rintro e w' ⟨rfl, rfl⟩
          generalize Gf.ipow t 254 = iv at *
          go_wp2
          go_quiet ((go_at_call 23; exact quiet_left' (ref_gm _ _ _ (by omega) (by omega))))
          go_wp2
          go_round
          case rel => exact ⟨j + 1, n + nq, by omega, by rw [HST.out, ← HX.out], by go_num, by rw [HW.out, World.drewN_drewN]⟩
          case measure => simp [intOf]; omega
    · obtain rfl : j = l := by omega
      clear hws
      go_wp2
      go_ret
      exact ⟨rfl, n, HW.out⟩

end Go.Proofs.Ytnhledngeicekaa
