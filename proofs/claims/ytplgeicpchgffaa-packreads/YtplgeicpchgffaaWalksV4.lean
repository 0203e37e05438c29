/-
  What the reference's Read does.
-/
import Derived.Test.YtplgeicpchgffaaWalksV3
namespace Go.Proofs.Ytplgeicpchgffaa
open Go.RowKit

theorem getD_take (ps : List Nat) (n i : Nat) (h : i < n) : (ps.take n).getD i 0 = ps.getD i 0 := by
  rw [List.getD_eq_getElem?_getD, List.getElem?_take_of_lt h, ← List.getD_eq_getElem?_getD]

/-- How far the value has been summed: whether it has run over, and what stands. -/
def Sofar (qs : List Nat) (j U : Nat) (bd : Bool) : Prop := (bd = true ∧ 18446744073709551616 ≤ Pk.vf qs j) ∨ (bd = false ∧ U = Pk.vf qs j)

theorem sofar_bad {qs : List Nat} {i U U' : Nat} (h : Sofar qs (i + 1) U true) (hi : i < qs.length) : Sofar qs i U' true := by
  rcases h with ⟨_, h⟩ | ⟨h, _⟩
  · refine .inl ⟨rfl, ?_⟩
    rw [Pk.vf_step qs i hi]
    omega
  · cases h

theorem sofar_over {qs : List Nat} {i U U' : Nat} (h : Sofar qs (i + 1) U false) (hi : i < qs.length) (ho : 0 < U * 128 / 18446744073709551616) : Sofar qs i U' true := by
  rcases h with ⟨h, _⟩ | ⟨_, h⟩
  · cases h
  · refine .inl ⟨rfl, ?_⟩
    rw [Pk.vf_step qs i hi]
    omega

theorem sofar_on {qs : List Nat} {i U : Nat} (h : Sofar qs (i + 1) U false) (hi : i < qs.length) (ho : ¬ 0 < U * 128 / 18446744073709551616) : Sofar qs i (U * 128 % 18446744073709551616 + qs.getD i 0 % 128) false := by
  rcases h with ⟨h, _⟩ | ⟨_, h⟩
  · cases h
  · refine .inr ⟨rfl, ?_⟩
    rw [Pk.vf_step qs i hi]
    omega

theorem read_bad (ps : List Nat) (k U : Nat) (hk : k < ps.length) (h9 : k ≤ 9) (h : ∀ j, j < k → 128 ≤ ps.getD j 0) (hx : ps.getD k 0 < 128) (hs : Sofar (ps.take (k + 1)) 0 U true) : Pk.rd ps = (0, 0) := by
  rcases hs with ⟨_, h'⟩ | ⟨h', _⟩
  · rw [Pk.rd_some ps k hk h9 h hx, if_pos (.inl h')]
  · cases h'

theorem read_long (ps : List Nat) (k : Nat) (hk : k < ps.length) (h9 : k ≤ 9) (h : ∀ j, j < k → 128 ≤ ps.getD j 0) (hx : ps.getD k 0 = 0) (h0 : 0 < k) : Pk.rd ps = (0, 0) := by
  rw [Pk.rd_some ps k hk h9 h (by omega), if_pos (.inr ⟨h0, hx⟩)]

theorem read_good (ps : List Nat) (k U : Nat) (hk : k < ps.length) (h9 : k ≤ 9) (h : ∀ j, j < k → 128 ≤ ps.getD j 0) (hx : ps.getD k 0 < 128) (hU : U < 18446744073709551616) (hs : Sofar (ps.take (k + 1)) 0 U false) (h0 : ¬ (0 < k ∧ ps.getD k 0 = 0)) : Pk.rd ps = (U, k + 1) := by
  rcases hs with ⟨h', _⟩ | ⟨_, h'⟩
  · cases h'
  · have e : Pk.val (ps.take (k + 1)) = U := h'.symm
    rw [Pk.rd_some ps k hk h9 h hx, e, if_neg (by rintro (h1 | h1); omega; exact h0 h1)]

set_option maxRecDepth 100000 in
set_option maxHeartbeats 2000000 in
theorem refRead_any (a : Option Addr) (cap l : Nat) (ps : List Nat) (w : World) (hl : ps.length = l) (h : SeenAt w a cap ps) :
    Calls Try.prog 17 #[.slice a l cap] w fun e w' => e = .returned (.tuple #[.int .i64 (Pk.unf (Pk.rd ps).1), .int .i64 (((Pk.rd ps).2 : Nat) : Int)]) ∧ w = w' := by
  have hm : l ≤ maxLen := by have := h.le; have := h.max; omega
  unfold maxLen at hm
  have HC := Lib.hid h.cell
  have HB := Lib.hid h.byte
  have HL := Lib.hid hl
  clear h hl
  go_enter Try.func17, Try.ntmps17
  go_wp2
  go_loop [4, 5, 6, 7, 8, 9] (fun v _ _ _ _ _ => ∃ k : Nat, k ≤ l ∧ k ≤ 10 ∧ v = .int .i64 ((k : Int) + 1) ∧ Hid (∀ j, j < k → 128 ≤ ps.getD j 0)) (fun v _ _ _ _ _ => 11 - (intOf v).toNat)
  case atStart => exact ⟨0, Nat.zero_le _, Nat.zero_le _, rfl, fun j hj => by omega⟩
  case round =>
    obtain ⟨k, hk, hk10, rfl, HH⟩ := hrel
    by_cases hlt : k < l ∧ k ≤ 9
    · obtain ⟨hlt, hk9⟩ := hlt
      obtain ⟨b, off, rfl, hck⟩ := HC.out k (by rw [HL.out]; exact hlt)
      have hc := bytes_get ps k HB.out
      have t1 : decide ((k : Int) + 1 ≤ (l : Int)) = true := by simp; omega
      have t2 : decide ((k : Int) + 1 ≤ 10) = true := by simp; omega
      by_cases hx : 128 ≤ ps.getD k 0
      · have HH' : Hid (∀ j, j < k + 1 → 128 ≤ ps.getD j 0) := fun j hj => by
          by_cases e : j = k
          · rw [e]; exact hx
          · exact HH.out j (by omega)
        generalize ps.getD k 0 = c at *
        have hd : decide ((128 : Int) ≤ (c : Int)) = true := by simp; omega
        go_wp2
        go_round
        case rel => exact ⟨k + 1, by omega, by omega, by go_num, HH'⟩
        case measure => simp [intOf]; omega
      · have HG1 := Lib.hid (fun U hs => read_bad ps k U (by rw [HL.out]; exact hlt) hk9 HH.out (by omega) hs)
        have HG2 := Lib.hid (fun hz h0 => read_long ps k (by rw [HL.out]; exact hlt) hk9 HH.out hz h0)
        have HG3 := Lib.hid (fun U hU hs h0 => read_good ps k U (by rw [HL.out]; exact hlt) hk9 HH.out (by omega) hU hs h0)
        have HQ : Hid ((ps.take (k + 1)).length = k + 1) := by show _ = _; rw [List.length_take, HL.out]; omega
        have HV0 : Hid (0 = Pk.vf (ps.take (k + 1)) (k + 1)) := by
          have := Pk.vf_end (ps.take (k + 1))
          rw [HQ.out] at this
          exact this.symm
        generalize hcc : ps.getD k 0 = c at *
        have HCC := Lib.hid hcc
        clear hcc
        have hd : decide ((128 : Int) ≤ (c : Int)) = false := by simp; omega
        go_wp2
        go_loop [5, 6, 7, 8, 9] (fun u bb i _ _ => ∃ (j U : Nat) (bd : Bool), j ≤ k + 1 ∧ U < 18446744073709551616 ∧ u = .int .u64 (U : Int) ∧ bb = .bool bd ∧ i = .int .i64 ((j : Int) - 1) ∧ Hid (Sofar (ps.take (k + 1)) j U bd)) (fun _ _ i _ _ => (intOf i + 1).toNat)
        case atStart => exact ⟨k + 1, 0, false, Nat.le_refl _, by omega, rfl, rfl, by go_num, .inr ⟨rfl, HV0.out⟩⟩
        case round =>
          obtain ⟨j, U, bd, hj, hU, rfl, rfl, rfl, HS⟩ := hrel
          by_cases hj0 : j = 0
          · subst hj0
            rw [show (((0 : Nat) : Int) - 1) = -1 by rfl]
            clear hd
            cases bd
            · by_cases hz : 0 < k ∧ c = 0
              · obtain ⟨hz1, rfl⟩ := hz
                have z1 : decide ((1 : Int) < (k : Int) + 1) = true := by simp; omega
                have z2 : decide ((0 : Int) < (k : Int)) = true := by simp; omega
                have z3 : decide (0 < k) = true := by simp; omega
                have HF := Lib.hid (HG2.out rfl hz1)
                clear HG1 HG2 HG3 HH HS
                go_wp2
                go_ret2
                exact ⟨ret_pair (by rw [HF.out]; rfl) (by rw [HF.out]; rfl), rfl⟩
              · have HF := Lib.hid (HG3.out U hU HS.out hz)
                have tz : (decide ((1 : Int) < (k : Int) + 1) = true ∧ decide ((0 : Int) < (k : Int)) = true ∧ decide (0 < k) = true ∧ ((c : Int) == 0) = false) ∨ (decide ((1 : Int) < (k : Int) + 1) = false ∧ decide ((0 : Int) < (k : Int)) = false ∧ decide (0 < k) = false) := by
                  by_cases e : 0 < k
                  · left; simp; omega
                  · right; simp; omega
                have hh : IntKind.i64.wrap ((U : Int) / 2) = (U : Int) / 2 := IntWalk.i64_in _ (by omega)
                clear HG1 HG2 HG3 HH HS
                by_cases h2 : U % 2 = 1
                · have t : ((U : Int) % 2 == 1) = true := by simp; omega
                  have HV : Hid (-1 - (U : Int) / 2 = Pk.unf U) := by show _ = _; rw [Pk.unf_odd U h2]; omega
                  rcases tz with ⟨z1, z2, z3, z4⟩ | ⟨z1, z2, z3⟩
                  all_goals
                    go_wp2
                    go_ret2
                    exact ⟨ret_pair (by rw [HF.out]; exact HV.out) (by rw [HF.out]; exact (by omega : (k : Int) + 1 = ((k + 1 : Nat) : Int))), rfl⟩
                · have t : ((U : Int) % 2 == 1) = false := by simp; omega
                  have HV : Hid ((U : Int) / 2 = Pk.unf U) := by show _ = _; rw [Pk.unf_even U h2]; omega
                  rcases tz with ⟨z1, z2, z3, z4⟩ | ⟨z1, z2, z3⟩
                  all_goals
                    go_wp2
                    go_ret2
                    exact ⟨ret_pair (by rw [HF.out]; exact HV.out) (by rw [HF.out]; exact (by omega : (k : Int) + 1 = ((k + 1 : Nat) : Int))), rfl⟩
            · have HF := Lib.hid (HG1.out U HS.out)
              clear HG1 HG2 HG3 HH HS
              go_wp2
              go_ret2
              exact ⟨ret_pair (by rw [HF.out]; rfl) (by rw [HF.out]; rfl), rfl⟩
          · obtain ⟨i, rfl⟩ : ∃ i, j = i + 1 := ⟨j - 1, by omega⟩
            rw [show (((i + 1 : Nat) : Int) - 1) = (i : Int) by omega]
            obtain ⟨_, _, e, hci⟩ := HC.out i (by rw [HL.out]; omega)
            cases e
            have hc' := bytes_get ps i HB.out
            have HT := Lib.hid (getD_take ps (k + 1) i (by omega))
            have hlo : U * 128 % 18446744073709551616 + ps.getD i 0 % 128 < 18446744073709551616 := by omega
            have hhi : U * 128 / 18446744073709551616 < 18446744073709551616 := by omega
            clear HG1 HG2 HG3 HH
            cases bd
            · by_cases ho : 0 < U * 128 / 18446744073709551616
              · have HS' := Lib.hid (fun U' => sofar_over (U' := U') HS.out (by rw [HQ.out]; omega) ho)
                have HMU := Lib.hid (mul64_any U w hU)
                clear HS
                generalize U * 128 / 18446744073709551616 = hi at *
                generalize U * 128 % 18446744073709551616 = lo at *
                generalize ps.getD i 0 = ci at *
                have z2 : decide ((0 : Int) < (hi : Int)) = true := by simp; omega
                have z3 : decide (0 < hi) = true := by simp; omega
                go_wp2_with fail
                refine HMU.out.mono ?_
                rintro e w' ⟨rfl, rfl⟩
                go_wp2
                go_round
                case rel => exact ⟨i, lo + ci % 128, true, by omega, by omega, by go_num, rfl, rfl, HS'.out _⟩
                case measure => simp [intOf]
              · have HS' : Hid (Sofar (ps.take (k + 1)) i (U * 128 % 18446744073709551616 + ps.getD i 0 % 128) false) := by
                  have := sofar_on HS.out (by rw [HQ.out]; omega) ho
                  rw [HT.out] at this
                  exact this
                have HMU := Lib.hid (mul64_any U w hU)
                clear HS
                generalize U * 128 / 18446744073709551616 = hi at *
                generalize U * 128 % 18446744073709551616 = lo at *
                generalize ps.getD i 0 = ci at *
                have z2 : decide ((0 : Int) < (hi : Int)) = false := by simp; omega
                have z3 : decide (0 < hi) = false := by simp; omega
                go_wp2_with fail
                refine HMU.out.mono ?_
                rintro e w' ⟨rfl, rfl⟩
                go_wp2
                go_round
                case rel => exact ⟨i, lo + ci % 128, false, by omega, by omega, by go_num, rfl, rfl, HS'⟩
                case measure => simp [intOf]
            · have HS' := Lib.hid (fun U' => sofar_bad (U' := U') HS.out (by rw [HQ.out]; omega))
              have HMU := Lib.hid (mul64_any U w hU)
              clear HS
              generalize U * 128 / 18446744073709551616 = hi at *
              generalize U * 128 % 18446744073709551616 = lo at *
              generalize ps.getD i 0 = ci at *
              go_wp2_with fail
              refine HMU.out.mono ?_
              rintro e w' ⟨rfl, rfl⟩
              go_wp2
              go_round
              case rel => exact ⟨i, lo + ci % 128, true, by omega, by omega, by go_num, rfl, rfl, HS'.out _⟩
              case measure => simp [intOf]
    · have HF : Hid (Pk.rd ps = (0, 0)) := by
        refine Pk.rd_none ps k (by rw [HL.out]; exact hk) HH.out ?_
        rw [HL.out]
        omega
      have tz : decide ((k : Int) + 1 ≤ (l : Int)) = false ∨ (decide ((k : Int) + 1 ≤ (l : Int)) = true ∧ decide ((k : Int) + 1 ≤ 10) = false) := by
        by_cases e : k < l
        · right; simp; omega
        · left; simp; omega
      clear HH
      rcases tz with z | ⟨z, z'⟩
      all_goals
        go_wp2
        go_ret2
        exact ⟨ret_pair (by rw [HF.out]; rfl) (by rw [HF.out]; rfl), rfl⟩

end Go.Proofs.Ytplgeicpchgffaa
