/-
  Layer 11: ConfFirst.
-/
import Derived.Test.YtepimdkpkfbgcaaAwake11
import Derived.Test.YtepimdkpkfbgcaaArgF
import Derived.Deep.DeepCutAuto
namespace Go.Proofs.Ytepimdkpkfbgcaa
open Go.RowKit

theorem wfY {z : Int} (h : (Lit.int .i64 z).wf = true) : -9223372036854775808 ≤ z ∧ z ≤ 9223372036854775807 := by
  simpa [Lit.wf, IntKind.min, IntKind.max, IntKind.signed, IntKind.bits] using h

theorem upZ_succ (n : Nat) : upZ (n + 1) = upZ n ++ [(n : Int)] := by
  unfold upZ fillZ
  rw [List.range_succ, List.map_append]
  congr 1
  · apply List.map_congr_left
    intro i hi
    have : i < n := by simpa using hi
    rw [if_pos (by omega), if_pos this]
  · simp

set_option maxRecDepth 100000 in
set_option maxHeartbeats 4000000 in
theorem confFirst_walk (k m : Int) (w : World) (hk : (Lit.int .i64 k).wf = true) (hm : (Lit.int .i64 m).wf = true) :
    Calls Try.prog 5 #[.int .i64 k, .int .i64 m] w fun e w' => e = .returned (.bool true) ∧ Below w.heap.size w w' := by
  have HK0 := Lib.hid (wfY hk)
  have HM0 := Lib.hid (wfY hm)
  clear hk hm
  cases hf : fitB k m
  · have HF := Lib.hid hf
    have hs : ¬ (1 ≤ k ∧ 0 ≤ m ∧ k ≤ 16 - m) := by
      intro h
      unfold fitB at hf
      simp [h.1, h.2.1, h.2.2] at hf
    have HS := Lib.hid hs
    clear hf hs
    go_enter Try.func5, Try.ntmps5
    go_wp2_with fail
    refine (first_no _ _ _ HK0.out HM0.out HF.out).mono ?_
    rintro e w1 ⟨a, cap, rfl, hI, hb⟩
    have hX : Box (w1.alloc (.cells #[.int .i64 0, .slice a 0 cap] 24)) w1.heap.size #[.int .i64 0, .slice a 0 cap] := box_new _ _ _ _ rfl
    have HX := Lib.hid hX
    have HB : Hid (Ext w (w1.alloc (.cells #[.int .i64 0, .slice a 0 cap] 24))) := Ext.trans hb (below_one _ _)
    clear hI hb hX
    rw [show ([] : List Int).length = 0 from rfl]
    go_upto_region 2 with fail
    generalize w1.alloc (.cells #[.int .i64 0, .slice a 0 cap] 24) = w2 at *
    generalize w1.heap.size = B1 at *
    go_cut [30] (fun s wx => s = .bool true ∧ wx = w2)
    case first =>
      by_cases h1 : k < 1
      · have d1 : decide (k < 1) = true := by simp; exact h1
        go_wp2_with fail
        go_meet
        exact ⟨rfl, rfl⟩
      · have d1 : decide (k < 1) = false := by simp; omega
        by_cases h2 : m < 0
        · have d2 : decide (m < 0) = true := by simp; exact h2
          go_wp2_with fail
          go_meet
          exact ⟨rfl, rfl⟩
        · have d2 : decide (m < 0) = false := by simp; omega
          by_cases h3 : 16 < k
          · have d3 : decide (16 < k) = true := by simp; exact h3
            go_wp2_with fail
            go_meet
            exact ⟨rfl, rfl⟩
          · have d3 : decide (16 < k) = false := by simp; omega
            by_cases h4 : 16 < m
            · have d4 : decide (16 < m) = true := by simp; exact h4
              go_wp2_with fail
              go_meet
              exact ⟨rfl, rfl⟩
            · have d4 : decide (16 < m) = false := by simp; omega
              have hwr : IntKind.i64.wrap (k + m) = k + m := IntWalk.i64_in _ (by omega)
              have d5 : decide (16 < k + m) = true := by
                have := HS.out
                simp
                omega
              go_wp2_with fail
              go_meet
              exact ⟨rfl, rfl⟩
    case rest =>
    obtain ⟨rfl, rfl⟩ := hcut
    obtain ⟨x0, x1⟩ := box2 HX.out
    go_wp2_with fail
    refine (awake11 _).mono ?_
    rintro e w3 ⟨rfl, hb3⟩
    have HB3 := Lib.hid (HB.out.trans hb3)
    have HX3 := Lib.hid (HX.out.below hb3)
    clear hb3 x0 x1
    obtain ⟨x0, x1⟩ := box2 HX3.out
    go_wp2
    go_ret
    exact ⟨rfl, HB3.out⟩
  · have HF := Lib.hid hf
    have hs : 1 ≤ k ∧ 0 ≤ m ∧ k ≤ 16 - m := by
      unfold fitB at hf
      simp only [Bool.and_eq_true, decide_eq_true_eq] at hf
      exact ⟨hf.1.1, hf.1.2, hf.2⟩
    obtain ⟨n, hn⟩ : ∃ n : Nat, k + m = (n : Int) := ⟨(k + m).toNat, by omega⟩
    have hn16 : n ≤ 16 := by omega
    have HCF : Hid (cfB 1 (upZ n) k m = true) := by
      show _ = _
      unfold cfB
      have : nodB (upZ n) = true := by
        refine nodB_yes fun i hi => ?_
        rw [upZ_len] at hi
        unfold okAt
        rw [upZ_at n i hi]
        have e : ix (upZ n) (i : Int) = (i : Int) := ix_first (by rw [upZ_len]; exact hi) (upZ_at n i hi) fun j hj => by rw [upZ_at n j (by omega)]; omega
        rw [e]
        simp
        omega
      rw [hf, this, upZ_len, hn]
      simp
    have HN := Lib.hid hn
    have d1 : decide (k < 1) = false := by simp; omega
    have d2 : decide (m < 0) = false := by simp; omega
    have d3 : decide (16 < k) = false := by simp; omega
    have d4 : decide (16 < m) = false := by simp; omega
    have d5 : decide (16 < (n : Int)) = false := by simp; omega
    have hwr : IntKind.i64.wrap (k + m) = (n : Int) := by rw [hn]; exact IntWalk.i64_in _ (by omega)
    clear hf hs hn
    go_enter Try.func5, Try.ntmps5
    go_wp2_with fail
    refine (first_yes _ _ n _ HF.out HN.out).mono ?_
    rintro e w1 ⟨a, cap, rfl, hI, hb⟩
    rw [upZ_len]
    have hX : Box (w1.alloc (.cells #[.int .i64 1, .slice a n cap] 24)) w1.heap.size #[.int .i64 1, .slice a n cap] := box_new _ _ _ _ rfl
    have HX := Lib.hid hX
    have HI := Lib.hid (hI.below (below_one w1 (.cells #[.int .i64 1, .slice a n cap] 24)))
    have HB : Hid (Ext w (w1.alloc (.cells #[.int .i64 1, .slice a n cap] 24))) := Ext.trans hb (below_one _ _)
    clear hI hb hX
    go_upto_region 4 with fail
    generalize w1.alloc (.cells #[.int .i64 1, .slice a n cap] 24) = w2 at *
    generalize w1.heap.size = B1 at *
    have hbn := below_one w2 (.cells #[] 3)
    have HO := Lib.hid (ownZ_lit w2 w2.heap.size w2.heap.size (upZ 0) #[] 0 rfl rfl (Nat.le_refl _) rfl (Nat.zero_le _))
    clear hbn
    go_wp2_with fail
    go_loopw [6, 7] (fun b i ws => ∃ j g c : Nat, j ≤ n ∧ i = .int .i64 j ∧ b = .slice (some ⟨g, 0, none⟩) j c ∧ Hid (OwnZ ws w2.heap.size g c (upZ j)) ∧ Hid (Ext w2 ws)) (fun _ i _ => n - (intOf i).toNat)
    case atStart => exact ⟨0, _, _, Nat.zero_le _, rfl, rfl, HO.out, below_one _ _⟩
    case round =>
      obtain ⟨j, g, c, hj, rfl, rfl, hO, hE⟩ := hrel
      by_cases hlt : j < n
      · have j0 : (0 : Int) ≤ (j : Int) := by omega
        have j1 : (j : Int) < (n : Int) := by omega
        have hb2 := below_one wr (.cells #[.int .i64 (j : Int)] 3)
        have hcell : Hid ((wr.alloc (.cells #[.int .i64 (j : Int)] 3)).cell? ⟨wr.heap.size, 0, none⟩ = some (.int .i64 (j : Int))) := by show _ = _; rw [World.cell?_alloc_mark]; rfl
        have HO2 := Lib.hid (hO.out.below hb2)
        have HE2 := Lib.hid (hE.out.trans hb2)
        clear hb2
        go_wp2_with (at_builtin; refine wpList_appZ rfl (.tmp 51) (.tmp 53) rfl w2.heap.size g c j (upZ j) (j : Int) (upZ_len j) rfl HO2.out wr.heap.size 1 rfl hcell.out (by omega) HE2.out.size ?_; intro g3 c3 w3 ho3 chg3 hg3)
        rw [← upZ_succ] at ho3
        have HO3 := Lib.hid ho3
        have HE3 : Hid (Ext w2 w3) := chg3.below HE2.out HE2.out.size (by simp; exact HO2.out.lt.1)
        clear ho3 chg3 hg3
        go_roundw
        case rel => exact ⟨j + 1, g3, c3, by omega, by go_num, rfl, HO3.out, HE3.out⟩
        case measure => simp [intOf]; omega
      · obtain rfl : j = n := by omega
        have HW := Lib.hid (hO.out.ints (upZ_wf j (by omega)))
        have HX3 := Lib.hid (HX.out.below hE.out)
        have HI3 := Lib.hid (HI.out.below hE.out)
        have HB3 := Lib.hid (HB.out.trans hE.out)
        clear hO hE
        go_wp2_with fail
        refine (awake11 _).mono ?_
        rintro e w4 ⟨rfl, hb4⟩
        have HX4 := Lib.hid (HX3.out.below hb4)
        have HI4 := Lib.hid (HI3.out.below hb4)
        have HW4 := Lib.hid (HW.out.below hb4)
        have HB4 := Lib.hid (HB3.out.trans hb4)
        clear hb4 HX3 HI3 HW HB3
        obtain ⟨x0, x1⟩ := box2 HX4.out
        go_wp2_with fail
        refine (refInts_any _ _ _ _ j j (upZ j) (upZ j) _ (upZ_len j) (upZ_len j) HI4.out HW4.out).mono ?_
        rintro e w5 ⟨rfl, hb5⟩
        rw [show decide (upZ j = upZ j) = true by simp]
        have HX5 := Lib.hid (HX4.out.below hb5)
        have HI5 := Lib.hid (HI4.out.below hb5)
        have HB5 := Lib.hid (HB4.out.trans hb5)
        clear hb5 HX4 HI4 HW4 HB4 x0 x1
        obtain ⟨x0, x1⟩ := box2 HX5.out
        go_wp2_with fail
        refine (cfSound_any _ _ _ j (upZ j) _ _ _ HK0.out HM0.out (upZ_len j) HI5.out).mono ?_
        rintro e w6 ⟨rfl, hb6⟩
        rw [HCF.out]
        have HB6 := Lib.hid (HB5.out.trans hb6)
        clear hb6
        go_wp2
        go_ret
        exact ⟨rfl, HB6.out⟩

end Go.Proofs.Ytepimdkpkfbgcaa
