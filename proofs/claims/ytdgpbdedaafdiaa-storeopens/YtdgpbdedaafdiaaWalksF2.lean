/-
  The reference's Ints; conf.First.
-/
import Derived.Test.YtdgpbdedaafdiaaWalksF1
import Derived.Deep.OwnRows
namespace Go.Proofs.Ytdgpbdedaafdiaa
open Go.RowKit

set_option maxHeartbeats 1000000 in
theorem refInts_any (a b : Option Addr) (ac bc l l' : Nat) (xs ys : List Int) (w : World) (hl : xs.length = l) (hl' : ys.length = l') (h : IntsAt w a ac xs) (h' : IntsAt w b bc ys) :
    Calls Try.prog 24 #[.slice a l ac, .slice b l' bc] w fun e w' => e = .returned (.bool (decide (xs = ys))) ∧ Below w.heap.size w w' := by
  have hm := Nat.le_trans h.le h.max
  rw [hl] at hm
  unfold maxLen at hm
  have HI := Lib.hid h
  have HJ := Lib.hid h'
  have HL := Lib.hid hl
  have HL' := Lib.hid hl'
  clear h h' hl hl'
  by_cases e : l = l'
  · subst e
    have t0 : ((l : Int) != (l : Int)) = false := by simp
    go_enter Try.func24, Try.ntmps24
    go_wp2
    clear t0
    go_loopw [5] (fun i ws => ∃ j n : Nat, j ≤ l ∧ i = .int .i64 j ∧ ws = w.drewN n ∧ Hid (∀ q, q < j → xs.getD q 0 = ys.getD q 0)) (fun i _ => l - (intOf i).toNat)
    case atStart => exact ⟨0, 0, Nat.zero_le _, rfl, rfl, fun i hi => by omega⟩
    case round =>
      obtain ⟨j, n, hj, rfl, hws, hN⟩ := hrel
      have HW := Lib.hid hws
      by_cases hlt : j < l
      · obtain ⟨b1, o1, rfl, hc1⟩ := (HI.out.drewN n).cell j (by rw [HL.out]; exact hlt)
        obtain ⟨b2, o2, rfl, hc2⟩ := (HJ.out.drewN n).cell j (by rw [HL'.out]; exact hlt)
        rw [← hws] at hc1 hc2
        clear hws
        have j0 : (0 : Int) ≤ (j : Int) := by omega
        have j1 : (j : Int) < (l : Int) := by omega
        have HE : Hid (xs.getD j 0 = ys.getD j 0 ∨ decide (xs = ys) = false) := by
          by_cases e : xs.getD j 0 = ys.getD j 0
          · exact .inl e
          · refine .inr ?_
            simp
            rintro rfl
            exact e rfl
        generalize hz1 : xs.getD j 0 = z1 at *
        generalize hz2 : ys.getD j 0 = z2 at *
        have HZ1 := Lib.hid hz1
        have HZ2 := Lib.hid hz2
        clear hz1 hz2
        by_cases he : z1 = z2
        · have HE2 := Lib.hid he
          have hd : (z1 != z2) = false := by simp; exact he
          clear he
          go_wp2
          go_quiet (fail)
          go_wp2
          go_round
          case rel =>
            refine ⟨j + 1, n + nq, by omega, by go_num, by rw [HW.out, World.drewN_drewN], fun i hi => ?_⟩
            by_cases e : i = j
            · subst e; rw [HZ1.out, HZ2.out]; exact HE2.out
            · exact hN.out i (by omega)
          case measure => simp [intOf]; omega
        · have HF : Hid (decide (xs = ys) = false) := HE.out.resolve_left he
          have hd : (z1 != z2) = true := by simp; exact he
          clear he
          go_wp2
          go_quiet (fail)
          go_wp2
          go_ret
          exact ⟨ret_boolZ HF.out.symm, by rw [HW.out, World.drewN_drewN]; exact below_drewN _ _⟩
      · obtain rfl : j = l := by omega
        have HF : Hid (decide (xs = ys) = true) := by
          show _ = _
          simp
          refine List.ext_getElem (by rw [HL.out, HL'.out]) fun i h1 h2 => ?_
          have := hN.out i (by rw [← HL.out]; exact h1)
          rwa [List.getD_eq_getElem?_getD, List.getElem?_eq_getElem h1, List.getD_eq_getElem?_getD, List.getElem?_eq_getElem h2] at this
        go_wp2
        go_ret
        exact ⟨ret_boolZ HF.out.symm, below_drewN _ _⟩
  · have t0 : ((l : Int) != (l' : Int)) = true := by simp; omega
    have HF : Hid (decide (xs = ys) = false) := by
      show _ = _
      simp
      rintro rfl
      exact e (HL.out.symm.trans HL'.out)
    clear e
    go_enter Try.func24, Try.ntmps24
    go_wp2
    go_ret
    exact ⟨ret_boolZ HF.out.symm, Below.refl _ _⟩

/-- The numbers from 0 up to j, then zeros: n of them. -/
def fillZ (n j : Nat) : List Int := (List.range n).map fun i => if i < j then (i : Int) else 0
theorem fillZ_len (n j : Nat) : (fillZ n j).length = n := by simp [fillZ]
theorem fillZ_at (n j i : Nat) (h : i < n) : (fillZ n j).getD i 0 = if i < j then (i : Int) else 0 := by
  rw [List.getD_eq_getElem?_getD]
  simp [fillZ, h]
theorem fillZ_zero (n : Nat) : fillZ n 0 = List.replicate n 0 := by
  refine List.ext_getElem (by simp [fillZ]) fun i h1 h2 => ?_
  simp [fillZ]
theorem fillZ_set (n j : Nat) : (fillZ n j).set j (j : Int) = fillZ n (j + 1) := by
  refine List.ext_getElem (by simp [fillZ]) fun i h1 h2 => ?_
  rw [List.getElem_set]
  by_cases e : j = i
  · subst e; simp [fillZ]
  · simp [fillZ, e]
    by_cases h : i < j
    · rw [if_pos h, if_pos (by omega)]
    · rw [if_neg h, if_neg (by omega)]

/-- The numbers from 0 up to n. -/
def upZ (n : Nat) : List Int := fillZ n n
theorem upZ_len (n : Nat) : (upZ n).length = n := fillZ_len n n
theorem upZ_at (n i : Nat) (h : i < n) : (upZ n).getD i 0 = (i : Int) := by unfold upZ; rw [fillZ_at n n i h, if_pos h]
theorem upZ_wf (n : Nat) (hn : n ≤ 1000) (i : Nat) : -9223372036854775808 ≤ (upZ n).getD i 0 ∧ (upZ n).getD i 0 ≤ 9223372036854775807 := by
  by_cases h : i < n
  · rw [upZ_at n i h]; omega
  · rw [List.getD_eq_getElem?_getD, List.getElem?_eq_none (by rw [upZ_len]; omega)]; simp

theorem infoZ' : (Try.prog.info? 3).map (fun i => (i.zero, i.size, i.bytes)) = some (some (.int .i64 0), 1, 8) := by kernel_rfl

/-- A configuration is handed back. -/
def RetCf (w : World) (ep : Int) (zs : List Int) (e : Ending) (w' : World) : Prop :=
  ∃ a cap, e = .returned (.agg #[.int .i64 ep, .slice a zs.length cap]) ∧ IntsAt w' a cap zs ∧ Below w.heap.size w w'

end Go.Proofs.Ytdgpbdedaafdiaa
