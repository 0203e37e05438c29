/-
  Layer 11: ConfSounds.
-/
import Derived.Test.YtepimdkpkfbgcaaAwake11
import Derived.Test.YtepimdkpkfbgcaaArgF
import Derived.Deep.DeepCutAuto
namespace Go.Proofs.Ytepimdkpkfbgcaa
open Go.RowKit


theorem wfZ {z : Int} (h : (Lit.int .i64 z).wf = true) : -9223372036854775808 ≤ z ∧ z ≤ 9223372036854775807 := by
  simpa [Lit.wf, IntKind.min, IntKind.max, IntKind.signed, IntKind.bits] using h







theorem ret_valZ {a b : Bool} (h : a = b) : Value.bool a = .bool b := by rw [h]

set_option maxRecDepth 100000 in
set_option maxHeartbeats 4000000 in
theorem confSounds_walk (ep : Int) (a : Option Addr) (cap : Nat) (zs : List Int) (k m : Int) (w : World) (h : (-9223372036854775808 ≤ ep ∧ ep ≤ 9223372036854775807) ∧ IntsAt w a cap zs) (hk : (Lit.int .i64 k).wf = true) (hm : (Lit.int .i64 m).wf = true) :
    Calls Try.prog 3 #[.agg #[.int .i64 ep, .slice a zs.length cap], .int .i64 k, .int .i64 m] w fun e w' => e = .returned (.bool true) ∧ Below w.heap.size w w' := by
  have HK0 := Lib.hid (wfZ hk)
  have HM0 := Lib.hid (wfZ hm)
  have hmx := Nat.le_trans h.2.le h.2.max
  unfold maxLen at hmx
  have HB1 : Hid (Ext w (w.alloc (.cells #[.int .i64 ep, .slice a zs.length cap] 24))) := below_one w _
  have HX1 : Hid (Box (w.alloc (.cells #[.int .i64 ep, .slice a zs.length cap] 24)) w.heap.size #[.int .i64 ep, .slice a zs.length cap]) := box_new _ _ _ _ rfl
  have HI1 := Lib.hid (h.2.below HB1.out)
  have HCF := Lib.hid (wantZ_cf ep k m zs)
  have HN0 := Lib.hid (nodK_all zs)
  obtain ⟨l, hl⟩ : ∃ l, zs.length = l := ⟨_, rfl⟩
  have HL := Lib.hid hl
  rw [hl] at HCF HN0 HX1 HB1 HI1 hmx ⊢
  clear h hk hm hl
  by_cases hbig : 100 < l
  · have d0 : decide ((100 : Int) < (l : Int)) = true := by simp; omega
    go_enter Try.func3, Try.ntmps3
    go_wp2_with fail
    refine (awake11 _).mono ?_
    rintro e w2 ⟨rfl, hb2⟩
    have HB2 := Lib.hid (HB1.out.trans hb2)
    clear hb2
    go_wp2
    go_ret
    exact ⟨rfl, HB2.out⟩
  · have d0 : decide ((100 : Int) < (l : Int)) = false := by simp; omega
    have hl100 : l ≤ 100 := by omega
    clear hbig
    go_enter Try.func3, Try.ntmps3
    go_upto_region 3 with fail
    generalize w.alloc (.cells #[.int .i64 ep, .slice a l cap] 24) = w1 at *
    generalize hB : w.heap.size = B at *
    have HBB := Lib.hid hB
    clear hB
    have x0 := HX1.out 0 _ rfl
    have x1 := HX1.out 1 _ rfl
    go_cut [7] (fun s wx => s = .bool (wantZ ep k m l) ∧ wx = w1)
    case first =>
      have HW : Hid (wantZ ep k m l = (decide (1 ≤ ep) && decide (ep ≤ 1099511627776) && decide (1 ≤ k) && decide (k ≤ 100) && decide (0 ≤ m) && decide (m ≤ 16) && decide ((l : Int) = k + m))) := rfl
      have hk1 := HK0.out
      have hm1 := HM0.out
      by_cases h1 : 1 ≤ ep
      · have d1 : decide (1 ≤ ep) = true := by simp; exact h1
        by_cases h2 : ep ≤ 1099511627776
        · have d2 : decide (ep ≤ 1099511627776) = true := by simp; exact h2
          by_cases h3 : 1 ≤ k
          · have d3 : decide (1 ≤ k) = true := by simp; exact h3
            by_cases h4 : k ≤ 100
            · have d4 : decide (k ≤ 100) = true := by simp; exact h4
              by_cases h5 : 0 ≤ m
              · have d5 : decide (0 ≤ m) = true := by simp; exact h5
                by_cases h6 : m ≤ 16
                · have d6 : decide (m ≤ 16) = true := by simp; exact h6
                  have hwr : IntKind.i64.wrap (k + m) = k + m := IntWalk.i64_in _ (by omega)
                  by_cases h7 : (l : Int) = k + m
                  · have d7 : ((l : Int) == k + m) = true := by simp; exact h7
                    have HF : Hid (true = wantZ ep k m l) := by show _ = _; rw [HW.out]; simp [h1, h2, h3, h4, h5, h6, h7]
                    clear h1 h2 h3 h4 h5 h6 h7 HW
                    go_wp2_with fail
                    go_meet
                    exact ⟨congrArg Value.bool HF.out, rfl⟩
                  · have d7 : ((l : Int) == k + m) = false := by simp; exact h7
                    have HF : Hid (false = wantZ ep k m l) := by show _ = _; rw [HW.out]; simp [h7]
                    clear h1 h2 h3 h4 h5 h6 h7 HW
                    go_wp2_with fail
                    go_meet
                    exact ⟨congrArg Value.bool HF.out, rfl⟩
                · have d6 : decide (m ≤ 16) = false := by simp; omega
                  have HF : Hid (false = wantZ ep k m l) := by show _ = _; rw [HW.out]; simp [h6]
                  clear h1 h2 h3 h4 h5 h6 HW
                  go_wp2_with fail
                  go_meet
                  exact ⟨congrArg Value.bool HF.out, rfl⟩
              · have d5 : decide (0 ≤ m) = false := by simp; omega
                have HF : Hid (false = wantZ ep k m l) := by show _ = _; rw [HW.out]; simp [h5]
                clear h1 h2 h3 h4 h5 HW
                go_wp2_with fail
                go_meet
                exact ⟨congrArg Value.bool HF.out, rfl⟩
            · have d4 : decide (k ≤ 100) = false := by simp; omega
              have HF : Hid (false = wantZ ep k m l) := by show _ = _; rw [HW.out]; simp [h4]
              clear h1 h2 h3 h4 HW
              go_wp2_with fail
              go_meet
              exact ⟨congrArg Value.bool HF.out, rfl⟩
          · have d3 : decide (1 ≤ k) = false := by simp; omega
            have HF : Hid (false = wantZ ep k m l) := by show _ = _; rw [HW.out]; simp [h3]
            clear h1 h2 h3 HW
            go_wp2_with fail
            go_meet
            exact ⟨congrArg Value.bool HF.out, rfl⟩
        · have d2 : decide (ep ≤ 1099511627776) = false := by simp; omega
          have HF : Hid (false = wantZ ep k m l) := by show _ = _; rw [HW.out]; simp [h2]
          clear h1 h2 HW
          go_wp2_with fail
          go_meet
          exact ⟨congrArg Value.bool HF.out, rfl⟩
      · have d1 : decide (1 ≤ ep) = false := by simp; omega
        have HF : Hid (false = wantZ ep k m l) := by show _ = _; rw [HW.out]; simp [h1]
        clear h1 HW
        go_wp2_with fail
        go_meet
        exact ⟨congrArg Value.bool HF.out, rfl⟩
    case rest =>
    obtain ⟨rfl, rfl⟩ := hcut
    go_wp2_with fail
    generalize wantZ ep k m l = b0 at *
    go_loopw [7, 8] (fun b i ws => ∃ j : Nat, j ≤ l ∧ i = .int .i64 j ∧ b = .bool (b0 && nodK zs j) ∧ Hid (Ext wc ws)) (fun _ i _ => l - (intOf i).toNat)
    case atStart => exact ⟨0, Nat.zero_le _, rfl, by simp [nodK], Ext.refl _⟩
    case round =>
      obtain ⟨j, hj, rfl, rfl, hE⟩ := hrel
      obtain ⟨x0, x1⟩ := box2 (HX1.out.below hE.out)
      by_cases hlt : j < l
      · have j0 : (0 : Int) ≤ (j : Int) := by omega
        have j1 : (j : Int) < (l : Int) := by omega
        have HO : Hid (okAt zs j = (decide (0 ≤ zs.getD j 0) && decide (zs.getD j 0 < 16) && decide (ix zs (zs.getD j 0) = (j : Int)))) := rfl
        have HS := Lib.hid (nodK_succ zs j)
        obtain ⟨bk, off, rfl, hc⟩ := (HI1.out.below hE.out).cell j (by rw [HL.out]; exact hlt)
        have ed : Ext wr wr.drew := (Below.refl _ _).drew
        have HX := Lib.hid ((HX1.out.below hE.out).below ed)
        have HI := Lib.hid ((HI1.out.below hE.out).below ed)
        have HC := Lib.hid (cell_later ed hc)
        have HEd := Lib.hid (hE.out.trans ed)
        clear hc ed
        generalize zs.getD j 0 = z at *
        generalize hbb : (b0 && nodK zs j) = bb at *
        have HBB2 := Lib.hid hbb
        clear hbb
        cases bb
        · have HK : Hid (false = (b0 && nodK zs (j + 1))) := by show _ = _; rw [HS.out, ← Bool.and_assoc, HBB2.out]; rfl
          go_wp2_with fail
          refine wp_region_ext (by kernel_rfl) ?_
          generalize wr.drew = wd at *
          refine wpAnyH_tk (i := 0) 54 (v := ?_) rfl rfl (by kernel_rfl) (by kernel_rfl) (by kernel_rfl) (by rfl) (fun wq hwq => ?_) ?_
          rotate_left
          · (go_simp <;> with_reducible rfl)
          simp only [List.setIfInBounds_toArray, List.set_cons_zero, List.set_cons_succ]
          refine wpAnyH_tk (i := 1) 55 (v := ?_) rfl rfl (by kernel_rfl) (by kernel_rfl) (by kernel_rfl) (by rfl) (fun wq hwq => ?_) ?_
          rotate_left
          · (go_simp <;> with_reducible rfl)
          simp only [List.setIfInBounds_toArray, List.set_cons_zero, List.set_cons_succ]
          refine wpAnyH_not (i := 2) 56 rfl rfl (by kernel_rfl) (by kernel_rfl) (by kernel_rfl) (by rfl) ?_
          simp only [List.setIfInBounds_toArray, List.set_cons_zero, List.set_cons_succ]
          refine wpAnyH_not (i := 3) 57 rfl rfl (by kernel_rfl) (by kernel_rfl) (by kernel_rfl) (by rfl) ?_
          simp only [List.setIfInBounds_toArray, List.set_cons_zero, List.set_cons_succ]
          refine wpAnyH_not (i := 4) 58 rfl rfl (by kernel_rfl) (by kernel_rfl) (by kernel_rfl) (by rfl) ?_
          simp only [List.setIfInBounds_toArray, List.set_cons_zero, List.set_cons_succ]
          refine wpAnyH_not (i := 5) 59 rfl rfl (by kernel_rfl) (by kernel_rfl) (by kernel_rfl) (by rfl) ?_
          simp only [List.setIfInBounds_toArray, List.set_cons_zero, List.set_cons_succ]
          refine wpAnyH_not (i := 6) 60 rfl rfl (by kernel_rfl) (by kernel_rfl) (by kernel_rfl) (by rfl) ?_
          simp only [List.setIfInBounds_toArray, List.set_cons_zero, List.set_cons_succ]
          refine wpAnyH_not (i := 7) 61 rfl rfl (by kernel_rfl) (by kernel_rfl) (by kernel_rfl) (by rfl) ?_
          simp only [List.setIfInBounds_toArray, List.set_cons_zero, List.set_cons_succ]
          refine wpAnyH_tk (i := 8) 62 (v := ?_) rfl rfl (by kernel_rfl) (by kernel_rfl) (by kernel_rfl) (by rfl) (fun wq hwq => ?_) ?_
          rotate_left
          · (go_simp <;> with_reducible rfl)
          simp only [List.setIfInBounds_toArray, List.set_cons_zero, List.set_cons_succ]
          refine wpAnyH_tk (i := 9) 63 (v := ?_) rfl rfl (by kernel_rfl) (by kernel_rfl) (by kernel_rfl) (by rfl) (fun wq hwq => ?_) ?_
          rotate_left
          · (go_simp <;> with_reducible rfl)
          simp only [List.setIfInBounds_toArray, List.set_cons_zero, List.set_cons_succ]
          refine wpAnyH_not (i := 10) 64 rfl rfl (by kernel_rfl) (by kernel_rfl) (by kernel_rfl) (by rfl) ?_
          simp only [List.setIfInBounds_toArray, List.set_cons_zero, List.set_cons_succ]
          refine wpAnyH_not (i := 11) 65 rfl rfl (by kernel_rfl) (by kernel_rfl) (by kernel_rfl) (by rfl) ?_
          simp only [List.setIfInBounds_toArray, List.set_cons_zero, List.set_cons_succ]
          refine wpAnyH_not (i := 12) 66 rfl rfl (by kernel_rfl) (by kernel_rfl) (by kernel_rfl) (by rfl) ?_
          simp only [List.setIfInBounds_toArray, List.set_cons_zero, List.set_cons_succ]
          refine wpAnyH_not (i := 13) 67 rfl rfl (by kernel_rfl) (by kernel_rfl) (by kernel_rfl) (by rfl) ?_
          simp only [List.setIfInBounds_toArray, List.set_cons_zero, List.set_cons_succ]
          refine wpAnyH_not (i := 14) 68 rfl rfl (by kernel_rfl) (by kernel_rfl) (by kernel_rfl) (by rfl) ?_
          simp only [List.setIfInBounds_toArray, List.set_cons_zero, List.set_cons_succ]
          refine wpAnyH_not (i := 15) 69 rfl rfl (by kernel_rfl) (by kernel_rfl) (by kernel_rfl) (by rfl) ?_
          simp only [List.setIfInBounds_toArray, List.set_cons_zero, List.set_cons_succ]
          refine wpAnyH_tk (i := 16) 70 (v := ?_) rfl rfl (by kernel_rfl) (by kernel_rfl) (by kernel_rfl) (by rfl) (fun wq hwq => ?_) ?_
          rotate_left
          · (go_simp <;> with_reducible rfl)
          simp only [List.setIfInBounds_toArray, List.set_cons_zero, List.set_cons_succ]
          refine wpAnyH_tk (i := 17) 71 (v := ?_) rfl rfl (by kernel_rfl) (by kernel_rfl) (by kernel_rfl) (by rfl) (fun wq hwq => ?_) ?_
          rotate_left
          · (go_simp <;> with_reducible rfl)
          simp only [List.setIfInBounds_toArray, List.set_cons_zero, List.set_cons_succ]
          refine wpAnyH_not (i := 18) 72 rfl rfl (by kernel_rfl) (by kernel_rfl) (by kernel_rfl) (by rfl) ?_
          simp only [List.setIfInBounds_toArray, List.set_cons_zero, List.set_cons_succ]
          refine wpAnyH_not (i := 19) 73 rfl rfl (by kernel_rfl) (by kernel_rfl) (by kernel_rfl) (by rfl) ?_
          simp only [List.setIfInBounds_toArray, List.set_cons_zero, List.set_cons_succ]
          refine wpAnyH_not (i := 20) 74 rfl rfl (by kernel_rfl) (by kernel_rfl) (by kernel_rfl) (by rfl) ?_
          simp only [List.setIfInBounds_toArray, List.set_cons_zero, List.set_cons_succ]
          refine wpAnyH_not (i := 21) 75 rfl rfl (by kernel_rfl) (by kernel_rfl) (by kernel_rfl) (by rfl) ?_
          simp only [List.setIfInBounds_toArray, List.set_cons_zero, List.set_cons_succ]
          refine wpAnyH_not (i := 22) 76 rfl rfl (by kernel_rfl) (by kernel_rfl) (by kernel_rfl) (by rfl) ?_
          simp only [List.setIfInBounds_toArray, List.set_cons_zero, List.set_cons_succ]
          refine wpAnyH_not (i := 23) 77 rfl rfl (by kernel_rfl) (by kernel_rfl) (by kernel_rfl) (by rfl) ?_
          simp only [List.setIfInBounds_toArray, List.set_cons_zero, List.set_cons_succ]
          refine wpAnyH_not (i := 24) 78 rfl rfl (by kernel_rfl) (by kernel_rfl) (by kernel_rfl) (by rfl) ?_
          simp only [List.setIfInBounds_toArray, List.set_cons_zero, List.set_cons_succ]
          refine wpAnyH_not (i := 25) 79 rfl rfl (by kernel_rfl) (by kernel_rfl) (by kernel_rfl) (by rfl) ?_
          simp only [List.setIfInBounds_toArray, List.set_cons_zero, List.set_cons_succ]
          refine wpAnyH_not (i := 26) 80 rfl rfl (by kernel_rfl) (by kernel_rfl) (by kernel_rfl) (by rfl) ?_
          simp only [List.setIfInBounds_toArray, List.set_cons_zero, List.set_cons_succ]
          refine wpAnyH_tk (i := 27) 81 (v := ?_) rfl rfl (by kernel_rfl) (by kernel_rfl) (by kernel_rfl) (by rfl) (fun wq hwq => ?_) ?_
          rotate_left
          · (go_simp <;> with_reducible rfl)
          simp only [List.setIfInBounds_toArray, List.set_cons_zero, List.set_cons_succ]
          refine wpAnyH_tk (i := 28) 7 (v := ?_) rfl rfl (by kernel_rfl) (by kernel_rfl) (by kernel_rfl) (by rfl) (fun wq hwq => ?_) ?_
          rotate_left
          · (go_simp <;> with_reducible rfl)
          simp only [List.setIfInBounds_toArray, List.set_cons_zero, List.set_cons_succ]
          refine wpAnyH_done (by kernel_rfl) ?_ _
          refine NoPanic.normal ?_
          go_wp2
          go_roundw
          case rel => exact ⟨j + 1, by omega, by go_num, ret_valZ HK.out, HEd.out⟩
          case measure => simp [intOf]; omega
        · by_cases h1 : 0 ≤ z
          · have d1 : decide (0 ≤ z) = true := by simp; exact h1
            by_cases h2 : z < 16
            · have d2 : decide (z < 16) = true := by simp; exact h2
              have HK : Hid ((ix zs z == (j : Int)) = (b0 && nodK zs (j + 1))) := by
                show _ = _
                rw [HS.out, ← Bool.and_assoc, HBB2.out, HO.out, d1, d2]
                simp
                rw [Bool.eq_iff_iff]
                simp
              clear h1 h2
              go_wp2_with fail
              refine wp_region_ext (by kernel_rfl) ?_
              generalize wr.drew = wd at *
              refine wpAnyH_tk (i := 0) 54 (v := ?_) rfl rfl (by kernel_rfl) (by kernel_rfl) (by kernel_rfl) (by rfl) (fun wq hwq => ?_) ?_
              rotate_left
              · (go_simp <;> with_reducible rfl)
              simp only [List.setIfInBounds_toArray, List.set_cons_zero, List.set_cons_succ]
              refine wpAnyH_tk (i := 1) 55 (v := ?_) rfl rfl (by kernel_rfl) (by kernel_rfl) (by kernel_rfl) (by rfl) (fun wq hwq => ?_) ?_
              rotate_left
              · (go_simp <;> with_reducible rfl)
              simp only [List.setIfInBounds_toArray, List.set_cons_zero, List.set_cons_succ]
              refine wpAnyH_tk (i := 2) 56 (v := ?_) rfl rfl (by kernel_rfl) (by kernel_rfl) (by kernel_rfl) (by rfl) (fun wq hwq => ?_) ?_
              rotate_left
              · (go_simp <;> with_reducible rfl)
              simp only [List.setIfInBounds_toArray, List.set_cons_zero, List.set_cons_succ]
              refine wpAnyH_tk (i := 3) 57 (v := ?_) rfl rfl (by kernel_rfl) (by kernel_rfl) (by kernel_rfl) (by rfl) (fun wq hwq => ?_) ?_
              rotate_left
              · (obtain ⟨x0, x1⟩ := box2 ((HX.out).below hwq); go_simp <;> with_reducible rfl)
              simp only [List.setIfInBounds_toArray, List.set_cons_zero, List.set_cons_succ]
              refine wpAnyH_tk (i := 4) 58 (v := ?_) rfl rfl (by kernel_rfl) (by kernel_rfl) (by kernel_rfl) (by rfl) (fun wq hwq => ?_) ?_
              rotate_left
              · (go_simp <;> with_reducible rfl)
              simp only [List.setIfInBounds_toArray, List.set_cons_zero, List.set_cons_succ]
              refine wpAnyH_tk (i := 5) 59 (v := ?_) rfl rfl (by kernel_rfl) (by kernel_rfl) (by kernel_rfl) (by rfl) (fun wq hwq => ?_) ?_
              rotate_left
              · (go_simp <;> with_reducible rfl)
              simp only [List.setIfInBounds_toArray, List.set_cons_zero, List.set_cons_succ]
              refine wpAnyH_tk (i := 6) 60 (v := ?_) rfl rfl (by kernel_rfl) (by kernel_rfl) (by kernel_rfl) (by rfl) (fun wq hwq => ?_) ?_
              rotate_left
              · (have hx := cell_later hwq HC.out; go_simp <;> with_reducible rfl)
              simp only [List.setIfInBounds_toArray, List.set_cons_zero, List.set_cons_succ]
              refine wpAnyH_tk (i := 7) 61 (v := ?_) rfl rfl (by kernel_rfl) (by kernel_rfl) (by kernel_rfl) (by rfl) (fun wq hwq => ?_) ?_
              rotate_left
              · (go_simp <;> with_reducible rfl)
              simp only [List.setIfInBounds_toArray, List.set_cons_zero, List.set_cons_succ]
              refine wpAnyH_tk (i := 8) 62 (v := ?_) rfl rfl (by kernel_rfl) (by kernel_rfl) (by kernel_rfl) (by rfl) (fun wq hwq => ?_) ?_
              rotate_left
              · (go_simp <;> with_reducible rfl)
              simp only [List.setIfInBounds_toArray, List.set_cons_zero, List.set_cons_succ]
              refine wpAnyH_tk (i := 9) 63 (v := ?_) rfl rfl (by kernel_rfl) (by kernel_rfl) (by kernel_rfl) (by rfl) (fun wq hwq => ?_) ?_
              rotate_left
              · (go_simp <;> with_reducible rfl)
              simp only [List.setIfInBounds_toArray, List.set_cons_zero, List.set_cons_succ]
              refine wpAnyH_tk (i := 10) 64 (v := ?_) rfl rfl (by kernel_rfl) (by kernel_rfl) (by kernel_rfl) (by rfl) (fun wq hwq => ?_) ?_
              rotate_left
              · (go_simp <;> with_reducible rfl)
              simp only [List.setIfInBounds_toArray, List.set_cons_zero, List.set_cons_succ]
              refine wpAnyH_tk (i := 11) 65 (v := ?_) rfl rfl (by kernel_rfl) (by kernel_rfl) (by kernel_rfl) (by rfl) (fun wq hwq => ?_) ?_
              rotate_left
              · (obtain ⟨x0, x1⟩ := box2 ((HX.out).below hwq); go_simp <;> with_reducible rfl)
              simp only [List.setIfInBounds_toArray, List.set_cons_zero, List.set_cons_succ]
              refine wpAnyH_tk (i := 12) 66 (v := ?_) rfl rfl (by kernel_rfl) (by kernel_rfl) (by kernel_rfl) (by rfl) (fun wq hwq => ?_) ?_
              rotate_left
              · (go_simp <;> with_reducible rfl)
              simp only [List.setIfInBounds_toArray, List.set_cons_zero, List.set_cons_succ]
              refine wpAnyH_tk (i := 13) 67 (v := ?_) rfl rfl (by kernel_rfl) (by kernel_rfl) (by kernel_rfl) (by rfl) (fun wq hwq => ?_) ?_
              rotate_left
              · (go_simp <;> with_reducible rfl)
              simp only [List.setIfInBounds_toArray, List.set_cons_zero, List.set_cons_succ]
              refine wpAnyH_tk (i := 14) 68 (v := ?_) rfl rfl (by kernel_rfl) (by kernel_rfl) (by kernel_rfl) (by rfl) (fun wq hwq => ?_) ?_
              rotate_left
              · (have hx := cell_later hwq HC.out; go_simp <;> with_reducible rfl)
              simp only [List.setIfInBounds_toArray, List.set_cons_zero, List.set_cons_succ]
              refine wpAnyH_tk (i := 15) 69 (v := ?_) rfl rfl (by kernel_rfl) (by kernel_rfl) (by kernel_rfl) (by rfl) (fun wq hwq => ?_) ?_
              rotate_left
              · (go_simp <;> with_reducible rfl)
              simp only [List.setIfInBounds_toArray, List.set_cons_zero, List.set_cons_succ]
              refine wpAnyH_tk (i := 16) 70 (v := ?_) rfl rfl (by kernel_rfl) (by kernel_rfl) (by kernel_rfl) (by rfl) (fun wq hwq => ?_) ?_
              rotate_left
              · (go_simp <;> with_reducible rfl)
              simp only [List.setIfInBounds_toArray, List.set_cons_zero, List.set_cons_succ]
              refine wpAnyH_tk (i := 17) 71 (v := ?_) rfl rfl (by kernel_rfl) (by kernel_rfl) (by kernel_rfl) (by rfl) (fun wq hwq => ?_) ?_
              rotate_left
              · (go_simp <;> with_reducible rfl)
              simp only [List.setIfInBounds_toArray, List.set_cons_zero, List.set_cons_succ]
              refine wpAnyH_tk (i := 18) 72 (v := ?_) rfl rfl (by kernel_rfl) (by kernel_rfl) (by kernel_rfl) (by rfl) (fun wq hwq => ?_) ?_
              rotate_left
              · (obtain ⟨x0, x1⟩ := box2 ((HX.out).below hwq); go_simp <;> with_reducible rfl)
              simp only [List.setIfInBounds_toArray, List.set_cons_zero, List.set_cons_succ]
              refine wpAnyH_tk (i := 19) 73 (v := ?_) rfl rfl (by kernel_rfl) (by kernel_rfl) (by kernel_rfl) (by rfl) (fun wq hwq => ?_) ?_
              rotate_left
              · (go_simp <;> with_reducible rfl)
              simp only [List.setIfInBounds_toArray, List.set_cons_zero, List.set_cons_succ]
              refine wpAnyH_tk (i := 20) 74 (v := ?_) rfl rfl (by kernel_rfl) (by kernel_rfl) (by kernel_rfl) (by rfl) (fun wq hwq => ?_) ?_
              rotate_left
              · (obtain ⟨x0, x1⟩ := box2 ((HX.out).below hwq); go_simp <;> with_reducible rfl)
              simp only [List.setIfInBounds_toArray, List.set_cons_zero, List.set_cons_succ]
              refine wpAnyH_tk (i := 21) 75 (v := ?_) rfl rfl (by kernel_rfl) (by kernel_rfl) (by kernel_rfl) (by rfl) (fun wq hwq => ?_) ?_
              rotate_left
              · (go_simp <;> with_reducible rfl)
              simp only [List.setIfInBounds_toArray, List.set_cons_zero, List.set_cons_succ]
              refine wpAnyH_tk (i := 22) 76 (v := ?_) rfl rfl (by kernel_rfl) (by kernel_rfl) (by kernel_rfl) (by rfl) (fun wq hwq => ?_) ?_
              rotate_left
              · (go_simp <;> with_reducible rfl)
              simp only [List.setIfInBounds_toArray, List.set_cons_zero, List.set_cons_succ]
              refine wpAnyH_tk (i := 23) 77 (v := ?_) rfl rfl (by kernel_rfl) (by kernel_rfl) (by kernel_rfl) (by rfl) (fun wq hwq => ?_) ?_
              rotate_left
              · (have hx := cell_later hwq HC.out; go_simp <;> with_reducible rfl)
              simp only [List.setIfInBounds_toArray, List.set_cons_zero, List.set_cons_succ]
              refine wpAnyH_tk (i := 25) 79 (v := ?_) rfl rfl (by kernel_rfl) (by kernel_rfl) (by kernel_rfl) (by rfl) (fun wq hwq => ?_) ?_
              rotate_left
              · (go_simp <;> with_reducible rfl)
              simp only [List.setIfInBounds_toArray, List.set_cons_zero, List.set_cons_succ]
              refine wpAnyH_one (i := 24) rfl (by kernel_rfl) (by rfl) (fun K hK => ?_)
              go_simp
              refine (refPos_any _ _ _ l zs _ _ HL.out HI.out).mono ?_
              rintro e w5 ⟨rfl, hb5⟩
              have HE5 := Lib.hid (HEd.out.trans hb5)
              refine hK.out _ _ hb5 ?_
              clear hK K
              clear hb5
              generalize ix zs z = p at *
              refine wpAnyH_tk (i := 26) 80 (v := ?_) rfl rfl (by kernel_rfl) (by kernel_rfl) (by kernel_rfl) (by rfl) (fun wq hwq => ?_) ?_
              rotate_left
              · (go_simp <;> with_reducible rfl)
              simp only [List.setIfInBounds_toArray, List.set_cons_zero, List.set_cons_succ]
              refine wpAnyH_tk (i := 27) 81 (v := ?_) rfl rfl (by kernel_rfl) (by kernel_rfl) (by kernel_rfl) (by rfl) (fun wq hwq => ?_) ?_
              rotate_left
              · (go_simp <;> with_reducible rfl)
              simp only [List.setIfInBounds_toArray, List.set_cons_zero, List.set_cons_succ]
              refine wpAnyH_tk (i := 28) 7 (v := ?_) rfl rfl (by kernel_rfl) (by kernel_rfl) (by kernel_rfl) (by rfl) (fun wq hwq => ?_) ?_
              rotate_left
              · (go_simp <;> with_reducible rfl)
              simp only [List.setIfInBounds_toArray, List.set_cons_zero, List.set_cons_succ]
              refine wpAnyH_done (by kernel_rfl) ?_ _
              refine NoPanic.normal ?_
              go_wp2
              go_roundw
              case rel => exact ⟨j + 1, by omega, by go_num, ret_valZ HK.out, HE5.out⟩
              case measure => simp [intOf]; omega
            · have d2 : decide (z < 16) = false := by simp; omega
              have HK : Hid (false = (b0 && nodK zs (j + 1))) := by show _ = _; rw [HS.out, ← Bool.and_assoc, HBB2.out, HO.out, d2]; simp
              clear h1 h2
              go_wp2_with fail
              refine wp_region_ext (by kernel_rfl) ?_
              generalize wr.drew = wd at *
              refine wpAnyH_tk (i := 0) 54 (v := ?_) rfl rfl (by kernel_rfl) (by kernel_rfl) (by kernel_rfl) (by rfl) (fun wq hwq => ?_) ?_
              rotate_left
              · (go_simp <;> with_reducible rfl)
              simp only [List.setIfInBounds_toArray, List.set_cons_zero, List.set_cons_succ]
              refine wpAnyH_tk (i := 1) 55 (v := ?_) rfl rfl (by kernel_rfl) (by kernel_rfl) (by kernel_rfl) (by rfl) (fun wq hwq => ?_) ?_
              rotate_left
              · (go_simp <;> with_reducible rfl)
              simp only [List.setIfInBounds_toArray, List.set_cons_zero, List.set_cons_succ]
              refine wpAnyH_tk (i := 2) 56 (v := ?_) rfl rfl (by kernel_rfl) (by kernel_rfl) (by kernel_rfl) (by rfl) (fun wq hwq => ?_) ?_
              rotate_left
              · (go_simp <;> with_reducible rfl)
              simp only [List.setIfInBounds_toArray, List.set_cons_zero, List.set_cons_succ]
              refine wpAnyH_tk (i := 3) 57 (v := ?_) rfl rfl (by kernel_rfl) (by kernel_rfl) (by kernel_rfl) (by rfl) (fun wq hwq => ?_) ?_
              rotate_left
              · (obtain ⟨x0, x1⟩ := box2 ((HX.out).below hwq); go_simp <;> with_reducible rfl)
              simp only [List.setIfInBounds_toArray, List.set_cons_zero, List.set_cons_succ]
              refine wpAnyH_tk (i := 4) 58 (v := ?_) rfl rfl (by kernel_rfl) (by kernel_rfl) (by kernel_rfl) (by rfl) (fun wq hwq => ?_) ?_
              rotate_left
              · (go_simp <;> with_reducible rfl)
              simp only [List.setIfInBounds_toArray, List.set_cons_zero, List.set_cons_succ]
              refine wpAnyH_tk (i := 5) 59 (v := ?_) rfl rfl (by kernel_rfl) (by kernel_rfl) (by kernel_rfl) (by rfl) (fun wq hwq => ?_) ?_
              rotate_left
              · (go_simp <;> with_reducible rfl)
              simp only [List.setIfInBounds_toArray, List.set_cons_zero, List.set_cons_succ]
              refine wpAnyH_tk (i := 6) 60 (v := ?_) rfl rfl (by kernel_rfl) (by kernel_rfl) (by kernel_rfl) (by rfl) (fun wq hwq => ?_) ?_
              rotate_left
              · (have hx := cell_later hwq HC.out; go_simp <;> with_reducible rfl)
              simp only [List.setIfInBounds_toArray, List.set_cons_zero, List.set_cons_succ]
              refine wpAnyH_tk (i := 7) 61 (v := ?_) rfl rfl (by kernel_rfl) (by kernel_rfl) (by kernel_rfl) (by rfl) (fun wq hwq => ?_) ?_
              rotate_left
              · (go_simp <;> with_reducible rfl)
              simp only [List.setIfInBounds_toArray, List.set_cons_zero, List.set_cons_succ]
              refine wpAnyH_tk (i := 8) 62 (v := ?_) rfl rfl (by kernel_rfl) (by kernel_rfl) (by kernel_rfl) (by rfl) (fun wq hwq => ?_) ?_
              rotate_left
              · (go_simp <;> with_reducible rfl)
              simp only [List.setIfInBounds_toArray, List.set_cons_zero, List.set_cons_succ]
              refine wpAnyH_tk (i := 9) 63 (v := ?_) rfl rfl (by kernel_rfl) (by kernel_rfl) (by kernel_rfl) (by rfl) (fun wq hwq => ?_) ?_
              rotate_left
              · (go_simp <;> with_reducible rfl)
              simp only [List.setIfInBounds_toArray, List.set_cons_zero, List.set_cons_succ]
              refine wpAnyH_tk (i := 10) 64 (v := ?_) rfl rfl (by kernel_rfl) (by kernel_rfl) (by kernel_rfl) (by rfl) (fun wq hwq => ?_) ?_
              rotate_left
              · (go_simp <;> with_reducible rfl)
              simp only [List.setIfInBounds_toArray, List.set_cons_zero, List.set_cons_succ]
              refine wpAnyH_tk (i := 11) 65 (v := ?_) rfl rfl (by kernel_rfl) (by kernel_rfl) (by kernel_rfl) (by rfl) (fun wq hwq => ?_) ?_
              rotate_left
              · (obtain ⟨x0, x1⟩ := box2 ((HX.out).below hwq); go_simp <;> with_reducible rfl)
              simp only [List.setIfInBounds_toArray, List.set_cons_zero, List.set_cons_succ]
              refine wpAnyH_tk (i := 12) 66 (v := ?_) rfl rfl (by kernel_rfl) (by kernel_rfl) (by kernel_rfl) (by rfl) (fun wq hwq => ?_) ?_
              rotate_left
              · (go_simp <;> with_reducible rfl)
              simp only [List.setIfInBounds_toArray, List.set_cons_zero, List.set_cons_succ]
              refine wpAnyH_tk (i := 13) 67 (v := ?_) rfl rfl (by kernel_rfl) (by kernel_rfl) (by kernel_rfl) (by rfl) (fun wq hwq => ?_) ?_
              rotate_left
              · (go_simp <;> with_reducible rfl)
              simp only [List.setIfInBounds_toArray, List.set_cons_zero, List.set_cons_succ]
              refine wpAnyH_tk (i := 14) 68 (v := ?_) rfl rfl (by kernel_rfl) (by kernel_rfl) (by kernel_rfl) (by rfl) (fun wq hwq => ?_) ?_
              rotate_left
              · (have hx := cell_later hwq HC.out; go_simp <;> with_reducible rfl)
              simp only [List.setIfInBounds_toArray, List.set_cons_zero, List.set_cons_succ]
              refine wpAnyH_tk (i := 15) 69 (v := ?_) rfl rfl (by kernel_rfl) (by kernel_rfl) (by kernel_rfl) (by rfl) (fun wq hwq => ?_) ?_
              rotate_left
              · (go_simp <;> with_reducible rfl)
              simp only [List.setIfInBounds_toArray, List.set_cons_zero, List.set_cons_succ]
              refine wpAnyH_tk (i := 16) 70 (v := ?_) rfl rfl (by kernel_rfl) (by kernel_rfl) (by kernel_rfl) (by rfl) (fun wq hwq => ?_) ?_
              rotate_left
              · (go_simp <;> with_reducible rfl)
              simp only [List.setIfInBounds_toArray, List.set_cons_zero, List.set_cons_succ]
              refine wpAnyH_tk (i := 17) 71 (v := ?_) rfl rfl (by kernel_rfl) (by kernel_rfl) (by kernel_rfl) (by rfl) (fun wq hwq => ?_) ?_
              rotate_left
              · (go_simp <;> with_reducible rfl)
              simp only [List.setIfInBounds_toArray, List.set_cons_zero, List.set_cons_succ]
              refine wpAnyH_not (i := 18) 72 rfl rfl (by kernel_rfl) (by kernel_rfl) (by kernel_rfl) (by rfl) ?_
              simp only [List.setIfInBounds_toArray, List.set_cons_zero, List.set_cons_succ]
              refine wpAnyH_not (i := 19) 73 rfl rfl (by kernel_rfl) (by kernel_rfl) (by kernel_rfl) (by rfl) ?_
              simp only [List.setIfInBounds_toArray, List.set_cons_zero, List.set_cons_succ]
              refine wpAnyH_not (i := 20) 74 rfl rfl (by kernel_rfl) (by kernel_rfl) (by kernel_rfl) (by rfl) ?_
              simp only [List.setIfInBounds_toArray, List.set_cons_zero, List.set_cons_succ]
              refine wpAnyH_not (i := 21) 75 rfl rfl (by kernel_rfl) (by kernel_rfl) (by kernel_rfl) (by rfl) ?_
              simp only [List.setIfInBounds_toArray, List.set_cons_zero, List.set_cons_succ]
              refine wpAnyH_not (i := 22) 76 rfl rfl (by kernel_rfl) (by kernel_rfl) (by kernel_rfl) (by rfl) ?_
              simp only [List.setIfInBounds_toArray, List.set_cons_zero, List.set_cons_succ]
              refine wpAnyH_not (i := 23) 77 rfl rfl (by kernel_rfl) (by kernel_rfl) (by kernel_rfl) (by rfl) ?_
              simp only [List.setIfInBounds_toArray, List.set_cons_zero, List.set_cons_succ]
              refine wpAnyH_not (i := 24) 78 rfl rfl (by kernel_rfl) (by kernel_rfl) (by kernel_rfl) (by rfl) ?_
              simp only [List.setIfInBounds_toArray, List.set_cons_zero, List.set_cons_succ]
              refine wpAnyH_not (i := 25) 79 rfl rfl (by kernel_rfl) (by kernel_rfl) (by kernel_rfl) (by rfl) ?_
              simp only [List.setIfInBounds_toArray, List.set_cons_zero, List.set_cons_succ]
              refine wpAnyH_not (i := 26) 80 rfl rfl (by kernel_rfl) (by kernel_rfl) (by kernel_rfl) (by rfl) ?_
              simp only [List.setIfInBounds_toArray, List.set_cons_zero, List.set_cons_succ]
              refine wpAnyH_tk (i := 27) 81 (v := ?_) rfl rfl (by kernel_rfl) (by kernel_rfl) (by kernel_rfl) (by rfl) (fun wq hwq => ?_) ?_
              rotate_left
              · (go_simp <;> with_reducible rfl)
              simp only [List.setIfInBounds_toArray, List.set_cons_zero, List.set_cons_succ]
              refine wpAnyH_tk (i := 28) 7 (v := ?_) rfl rfl (by kernel_rfl) (by kernel_rfl) (by kernel_rfl) (by rfl) (fun wq hwq => ?_) ?_
              rotate_left
              · (go_simp <;> with_reducible rfl)
              simp only [List.setIfInBounds_toArray, List.set_cons_zero, List.set_cons_succ]
              refine wpAnyH_done (by kernel_rfl) ?_ _
              refine NoPanic.normal ?_
              go_wp2
              go_roundw
              case rel => exact ⟨j + 1, by omega, by go_num, ret_valZ HK.out, HEd.out⟩
              case measure => simp [intOf]; omega
          · have d1 : decide (0 ≤ z) = false := by simp; omega
            have HK : Hid (false = (b0 && nodK zs (j + 1))) := by show _ = _; rw [HS.out, ← Bool.and_assoc, HBB2.out, HO.out, d1]; simp
            clear h1
            go_wp2_with fail
            refine wp_region_ext (by kernel_rfl) ?_
            generalize wr.drew = wd at *
            refine wpAnyH_tk (i := 0) 54 (v := ?_) rfl rfl (by kernel_rfl) (by kernel_rfl) (by kernel_rfl) (by rfl) (fun wq hwq => ?_) ?_
            rotate_left
            · (go_simp <;> with_reducible rfl)
            simp only [List.setIfInBounds_toArray, List.set_cons_zero, List.set_cons_succ]
            refine wpAnyH_tk (i := 1) 55 (v := ?_) rfl rfl (by kernel_rfl) (by kernel_rfl) (by kernel_rfl) (by rfl) (fun wq hwq => ?_) ?_
            rotate_left
            · (go_simp <;> with_reducible rfl)
            simp only [List.setIfInBounds_toArray, List.set_cons_zero, List.set_cons_succ]
            refine wpAnyH_tk (i := 2) 56 (v := ?_) rfl rfl (by kernel_rfl) (by kernel_rfl) (by kernel_rfl) (by rfl) (fun wq hwq => ?_) ?_
            rotate_left
            · (go_simp <;> with_reducible rfl)
            simp only [List.setIfInBounds_toArray, List.set_cons_zero, List.set_cons_succ]
            refine wpAnyH_tk (i := 3) 57 (v := ?_) rfl rfl (by kernel_rfl) (by kernel_rfl) (by kernel_rfl) (by rfl) (fun wq hwq => ?_) ?_
            rotate_left
            · (obtain ⟨x0, x1⟩ := box2 ((HX.out).below hwq); go_simp <;> with_reducible rfl)
            simp only [List.setIfInBounds_toArray, List.set_cons_zero, List.set_cons_succ]
            refine wpAnyH_tk (i := 4) 58 (v := ?_) rfl rfl (by kernel_rfl) (by kernel_rfl) (by kernel_rfl) (by rfl) (fun wq hwq => ?_) ?_
            rotate_left
            · (go_simp <;> with_reducible rfl)
            simp only [List.setIfInBounds_toArray, List.set_cons_zero, List.set_cons_succ]
            refine wpAnyH_tk (i := 5) 59 (v := ?_) rfl rfl (by kernel_rfl) (by kernel_rfl) (by kernel_rfl) (by rfl) (fun wq hwq => ?_) ?_
            rotate_left
            · (go_simp <;> with_reducible rfl)
            simp only [List.setIfInBounds_toArray, List.set_cons_zero, List.set_cons_succ]
            refine wpAnyH_tk (i := 6) 60 (v := ?_) rfl rfl (by kernel_rfl) (by kernel_rfl) (by kernel_rfl) (by rfl) (fun wq hwq => ?_) ?_
            rotate_left
            · (have hx := cell_later hwq HC.out; go_simp <;> with_reducible rfl)
            simp only [List.setIfInBounds_toArray, List.set_cons_zero, List.set_cons_succ]
            refine wpAnyH_tk (i := 7) 61 (v := ?_) rfl rfl (by kernel_rfl) (by kernel_rfl) (by kernel_rfl) (by rfl) (fun wq hwq => ?_) ?_
            rotate_left
            · (go_simp <;> with_reducible rfl)
            simp only [List.setIfInBounds_toArray, List.set_cons_zero, List.set_cons_succ]
            refine wpAnyH_tk (i := 8) 62 (v := ?_) rfl rfl (by kernel_rfl) (by kernel_rfl) (by kernel_rfl) (by rfl) (fun wq hwq => ?_) ?_
            rotate_left
            · (go_simp <;> with_reducible rfl)
            simp only [List.setIfInBounds_toArray, List.set_cons_zero, List.set_cons_succ]
            refine wpAnyH_tk (i := 9) 63 (v := ?_) rfl rfl (by kernel_rfl) (by kernel_rfl) (by kernel_rfl) (by rfl) (fun wq hwq => ?_) ?_
            rotate_left
            · (go_simp <;> with_reducible rfl)
            simp only [List.setIfInBounds_toArray, List.set_cons_zero, List.set_cons_succ]
            refine wpAnyH_not (i := 10) 64 rfl rfl (by kernel_rfl) (by kernel_rfl) (by kernel_rfl) (by rfl) ?_
            simp only [List.setIfInBounds_toArray, List.set_cons_zero, List.set_cons_succ]
            refine wpAnyH_not (i := 11) 65 rfl rfl (by kernel_rfl) (by kernel_rfl) (by kernel_rfl) (by rfl) ?_
            simp only [List.setIfInBounds_toArray, List.set_cons_zero, List.set_cons_succ]
            refine wpAnyH_not (i := 12) 66 rfl rfl (by kernel_rfl) (by kernel_rfl) (by kernel_rfl) (by rfl) ?_
            simp only [List.setIfInBounds_toArray, List.set_cons_zero, List.set_cons_succ]
            refine wpAnyH_not (i := 13) 67 rfl rfl (by kernel_rfl) (by kernel_rfl) (by kernel_rfl) (by rfl) ?_
            simp only [List.setIfInBounds_toArray, List.set_cons_zero, List.set_cons_succ]
            refine wpAnyH_not (i := 14) 68 rfl rfl (by kernel_rfl) (by kernel_rfl) (by kernel_rfl) (by rfl) ?_
            simp only [List.setIfInBounds_toArray, List.set_cons_zero, List.set_cons_succ]
            refine wpAnyH_not (i := 15) 69 rfl rfl (by kernel_rfl) (by kernel_rfl) (by kernel_rfl) (by rfl) ?_
            simp only [List.setIfInBounds_toArray, List.set_cons_zero, List.set_cons_succ]
            refine wpAnyH_tk (i := 16) 70 (v := ?_) rfl rfl (by kernel_rfl) (by kernel_rfl) (by kernel_rfl) (by rfl) (fun wq hwq => ?_) ?_
            rotate_left
            · (go_simp <;> with_reducible rfl)
            simp only [List.setIfInBounds_toArray, List.set_cons_zero, List.set_cons_succ]
            refine wpAnyH_tk (i := 17) 71 (v := ?_) rfl rfl (by kernel_rfl) (by kernel_rfl) (by kernel_rfl) (by rfl) (fun wq hwq => ?_) ?_
            rotate_left
            · (go_simp <;> with_reducible rfl)
            simp only [List.setIfInBounds_toArray, List.set_cons_zero, List.set_cons_succ]
            refine wpAnyH_not (i := 18) 72 rfl rfl (by kernel_rfl) (by kernel_rfl) (by kernel_rfl) (by rfl) ?_
            simp only [List.setIfInBounds_toArray, List.set_cons_zero, List.set_cons_succ]
            refine wpAnyH_not (i := 19) 73 rfl rfl (by kernel_rfl) (by kernel_rfl) (by kernel_rfl) (by rfl) ?_
            simp only [List.setIfInBounds_toArray, List.set_cons_zero, List.set_cons_succ]
            refine wpAnyH_not (i := 20) 74 rfl rfl (by kernel_rfl) (by kernel_rfl) (by kernel_rfl) (by rfl) ?_
            simp only [List.setIfInBounds_toArray, List.set_cons_zero, List.set_cons_succ]
            refine wpAnyH_not (i := 21) 75 rfl rfl (by kernel_rfl) (by kernel_rfl) (by kernel_rfl) (by rfl) ?_
            simp only [List.setIfInBounds_toArray, List.set_cons_zero, List.set_cons_succ]
            refine wpAnyH_not (i := 22) 76 rfl rfl (by kernel_rfl) (by kernel_rfl) (by kernel_rfl) (by rfl) ?_
            simp only [List.setIfInBounds_toArray, List.set_cons_zero, List.set_cons_succ]
            refine wpAnyH_not (i := 23) 77 rfl rfl (by kernel_rfl) (by kernel_rfl) (by kernel_rfl) (by rfl) ?_
            simp only [List.setIfInBounds_toArray, List.set_cons_zero, List.set_cons_succ]
            refine wpAnyH_not (i := 24) 78 rfl rfl (by kernel_rfl) (by kernel_rfl) (by kernel_rfl) (by rfl) ?_
            simp only [List.setIfInBounds_toArray, List.set_cons_zero, List.set_cons_succ]
            refine wpAnyH_not (i := 25) 79 rfl rfl (by kernel_rfl) (by kernel_rfl) (by kernel_rfl) (by rfl) ?_
            simp only [List.setIfInBounds_toArray, List.set_cons_zero, List.set_cons_succ]
            refine wpAnyH_not (i := 26) 80 rfl rfl (by kernel_rfl) (by kernel_rfl) (by kernel_rfl) (by rfl) ?_
            simp only [List.setIfInBounds_toArray, List.set_cons_zero, List.set_cons_succ]
            refine wpAnyH_tk (i := 27) 81 (v := ?_) rfl rfl (by kernel_rfl) (by kernel_rfl) (by kernel_rfl) (by rfl) (fun wq hwq => ?_) ?_
            rotate_left
            · (go_simp <;> with_reducible rfl)
            simp only [List.setIfInBounds_toArray, List.set_cons_zero, List.set_cons_succ]
            refine wpAnyH_tk (i := 28) 7 (v := ?_) rfl rfl (by kernel_rfl) (by kernel_rfl) (by kernel_rfl) (by rfl) (fun wq hwq => ?_) ?_
            rotate_left
            · (go_simp <;> with_reducible rfl)
            simp only [List.setIfInBounds_toArray, List.set_cons_zero, List.set_cons_succ]
            refine wpAnyH_done (by kernel_rfl) ?_ _
            refine NoPanic.normal ?_
            go_wp2
            go_roundw
            case rel => exact ⟨j + 1, by omega, by go_num, ret_valZ HK.out, HEd.out⟩
            case measure => simp [intOf]; omega
      · obtain rfl : j = l := by omega
        rw [HN0.out, HCF.out]
        go_wp2_with fail
        refine (awake11 _).mono ?_
        rintro e w2 ⟨rfl, hb2⟩
        have HX2 := Lib.hid ((HX1.out.below hE.out).below hb2)
        have HI2 := Lib.hid ((HI1.out.below hE.out).below hb2)
        have HB2 := Lib.hid ((HB1.out.trans hE.out).trans hb2)
        clear hb2 x0 x1
        obtain ⟨x0, x1⟩ := box2 HX2.out
        go_wp2_with fail
        refine (cfSound_any _ _ _ j zs _ _ _ HK0.out HM0.out HL.out HI2.out).mono ?_
        rintro e w3 ⟨rfl, hb3⟩
        have HB3 := Lib.hid (HB2.out.trans hb3)
        clear hb3
        generalize cfB ep zs k m = cc at *
        have hcc : (cc == cc) = true := by simp
        go_wp2
        go_ret
        exact ⟨rfl, HB3.out⟩

end Go.Proofs.Ytepimdkpkfbgcaa
