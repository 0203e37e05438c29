/-
  Layer 11: ConfBeside.
-/
import Derived.Test.YtepimdkpkfbgcaaLaw114
namespace Go.Proofs.Ytepimdkpkfbgcaa
open Go.RowKit



set_option maxRecDepth 100000 in
set_option maxHeartbeats 8000000 in
theorem confBeside_yes (ep : Int) (a : Option Addr) (cap q : Nat) (zs : List Int) (x : Int) (w : World) (h : IntsAt w a cap zs) (hl : zs.length = q + 1) (hq : q < 16) (hc : cfB ep zs 1 (q : Int) = true) (hn : nodB zs = true) :
    Calls Try.prog 7 #[.agg #[.int .i64 ep, .slice a (q + 1) cap], .int .i64 x] w fun e w' => e = .returned (.bool true) ∧ Below w.heap.size w w' := by
  have HI1 : Hid (CfW w (w.alloc (.cells #[.int .i64 ep, .slice a (q + 1) cap] 24)) w.heap.size ep a (q + 1) cap zs) := ⟨box_new _ _ _ _ rfl, h.below (below_one _ _), below_one _ _⟩
  have HL := Lib.hid hl
  have HC := Lib.hid hc
  have HN := Lib.hid hn
  have EH : Hid (atV zs 0 = nd zs 0 ∧ atO (q + 1) 0 = true) := ⟨atV_yes (by omega) (by omega), atO_yes (by omega) (by omega)⟩
  have ET : Hid (atV zs (((q + 1 : Nat) : Int) - 1) = nd zs q ∧ atO (q + 1) (((q + 1 : Nat) : Int) - 1) = true) := ⟨by
    rw [atV_yes (by omega) (by omega)]
    unfold nd
    congr 1
    omega, atO_yes (by omega) (by omega)⟩
  by_cases hp : ix zs x < 0
  · have EP : Hid (psV zs x = 0 ∧ psO zs x = false) := by
      show _ ∧ _
      unfold psV psO
      rw [if_pos hp]
      exact ⟨rfl, by simp; exact hp⟩
    have EN : Hid (bsV zs x 1 = 0 ∧ bsO zs x 1 = false) := by
      show _ ∧ _
      unfold bsV bsO
      rw [if_pos hp, if_pos hp]
      exact ⟨rfl, rfl⟩
    have EB : Hid (bsV zs x (-1) = 0 ∧ bsO zs x (-1) = false) := by
      show _ ∧ _
      unfold bsV bsO
      rw [if_pos hp, if_pos hp]
      exact ⟨rfl, rfl⟩
    clear h hl hc hn hp
    go_enter Try.func7, Try.ntmps7
    go_wp2_with fail
    refine (cfSound_any _ _ _ _ zs _ _ _ (by omega) (by omega) HL.out HI1.out.ints).mono ?_
    rintro e w2 ⟨rfl, hb2⟩
    rw [HC.out]
    generalize w.alloc (.cells #[.int .i64 ep, .slice a (q + 1) cap] 24) = w1 at *
    generalize w.heap.size = B1 at *
    obtain ⟨x0, x1⟩ := box2 HI1.out.box
    have HI2 := Lib.hid ((HI1).out.below hb2)
    clear hb2 HI1 x0 x1
    obtain ⟨x0, x1⟩ := box2 (HI2).out.box
    go_wp2_with fail
    refine (cfPos_any _ _ _ _ zs _ _ HL.out HI2.out.ints).mono ?_
    rintro e w3 ⟨rfl, hb_w3⟩
    rw [EP.out.1, EP.out.2]
    have HI3 := Lib.hid ((HI2).out.below hb_w3)
    clear hb_w3 HI2 x0 x1
    obtain ⟨x0, x1⟩ := box2 (HI3).out.box
    go_wp2_with fail
    refine (cfNext_any _ _ _ _ zs _ _ HL.out HI3.out.ints).mono ?_
    rintro e w4 ⟨rfl, hb_w4⟩
    rw [EN.out.1, EN.out.2]
    have HI4 := Lib.hid ((HI3).out.below hb_w4)
    clear hb_w4 HI3 x0 x1
    obtain ⟨x0, x1⟩ := box2 (HI4).out.box
    go_wp2_with fail
    refine (cfPrev_any _ _ _ _ zs _ _ HL.out HI4.out.ints).mono ?_
    rintro e w5 ⟨rfl, hb_w5⟩
    rw [EB.out.1, EB.out.2]
    have HI5 := Lib.hid ((HI4).out.below hb_w5)
    clear hb_w5 HI4 x0 x1
    obtain ⟨x0, x1⟩ := box2 (HI5).out.box
    go_wp2_with fail
    refine (awake11 _).mono ?_
    rintro e w6 ⟨rfl, hb6⟩
    have HI6 := Lib.hid ((HI5).out.below hb6)
    clear hb6 HI5 x0 x1
    obtain ⟨x0, x1⟩ := box2 (HI6).out.box
    go_wp2
    go_ret
    exact ⟨rfl, HI6.out.ext⟩
  · have hr := ix_range zs x
    obtain ⟨j, hj⟩ : ∃ j : Nat, ix zs x = (j : Int) := ⟨(ix zs x).toNat, by omega⟩
    have hx : x = nd zs j := by
      have := ix_at (zs := zs) (x := x) (by omega)
      rw [hj] at this
      exact this.symm
    have hjq : j ≤ q := by omega
    subst hx
    clear hp hr hj
    have EP := Lib.hid (sb_pos hn (show j < zs.length by omega))
    cases j with
    | zero =>
      have EB := Lib.hid (sb_first hn (by omega))
      by_cases hq0 : 0 < q
      · have EN := Lib.hid (sb_next hn (show 0 + 1 < zs.length by omega))
        have EM := Lib.hid (sb_prev hn (show 0 + 1 < zs.length by omega))
        have d1 : (nd zs 0 != nd zs q) = true := by
          simp
          intro e
          have := nodB_inj hn (show 0 < zs.length by omega) (show q < zs.length by omega) e
          omega
        clear h hl hc hn hq0 hjq
        go_enter Try.func7, Try.ntmps7
        go_wp2_with fail
        refine (cfSound_any _ _ _ _ zs _ _ _ (by omega) (by omega) HL.out HI1.out.ints).mono ?_
        rintro e w2 ⟨rfl, hb2⟩
        rw [HC.out]
        generalize w.alloc (.cells #[.int .i64 ep, .slice a (q + 1) cap] 24) = w1 at *
        generalize w.heap.size = B1 at *
        obtain ⟨x0, x1⟩ := box2 HI1.out.box
        have HI2 := Lib.hid ((HI1).out.below hb2)
        clear hb2 HI1 x0 x1
        obtain ⟨x0, x1⟩ := box2 (HI2).out.box
        go_wp2_with fail
        refine (cfPos_any _ _ _ _ zs _ _ HL.out HI2.out.ints).mono ?_
        rintro e w3 ⟨rfl, hb_w3⟩
        rw [EP.out.1, EP.out.2]
        have HI3 := Lib.hid ((HI2).out.below hb_w3)
        clear hb_w3 HI2 x0 x1
        obtain ⟨x0, x1⟩ := box2 (HI3).out.box
        go_wp2_with fail
        refine (cfNext_any _ _ _ _ zs _ _ HL.out HI3.out.ints).mono ?_
        rintro e w4 ⟨rfl, hb_w4⟩
        rw [EN.out.1, EN.out.2]
        have HI4 := Lib.hid ((HI3).out.below hb_w4)
        clear hb_w4 HI3 x0 x1
        obtain ⟨x0, x1⟩ := box2 (HI4).out.box
        go_wp2_with fail
        refine (cfPrev_any _ _ _ _ zs _ _ HL.out HI4.out.ints).mono ?_
        rintro e w5 ⟨rfl, hb_w5⟩
        rw [EB.out.1, EB.out.2]
        have HI5 := Lib.hid ((HI4).out.below hb_w5)
        clear hb_w5 HI4 x0 x1
        obtain ⟨x0, x1⟩ := box2 (HI5).out.box
        go_wp2_with fail
        refine (cfPrev_any _ _ _ _ zs _ _ HL.out HI5.out.ints).mono ?_
        rintro e w6 ⟨rfl, hb_w6⟩
        rw [EM.out.1, EM.out.2]
        have HI6 := Lib.hid ((HI5).out.below hb_w6)
        clear hb_w6 HI5 x0 x1
        obtain ⟨x0, x1⟩ := box2 (HI6).out.box
        go_wp2_with fail
        refine (cfHead_any _ _ _ _ zs _ HL.out HI6.out.ints).mono ?_
        rintro e wa1 ⟨rfl, hb_wa1⟩
        rw [EH.out.1, EH.out.2]
        have HA1 := Lib.hid ((HI6).out.below hb_wa1)
        clear hb_wa1 HI6 x0 x1
        obtain ⟨x0, x1⟩ := box2 (HA1).out.box
        go_wp2_with fail
        refine (cfTail_any _ _ _ _ zs _ HL.out HA1.out.ints).mono ?_
        rintro e wb1 ⟨rfl, hb_wb1⟩
        rw [ET.out.1, ET.out.2]
        have HB1 := Lib.hid ((HA1).out.below hb_wb1)
        clear hb_wb1 HA1 x0 x1
        obtain ⟨x0, x1⟩ := box2 (HB1).out.box
        go_wp2_with fail
        refine (awake11 _).mono ?_
        rintro e wc1 ⟨rfl, hbc1⟩
        have HC1 := Lib.hid ((HB1).out.below hbc1)
        clear hbc1 HB1 x0 x1
        obtain ⟨x0, x1⟩ := box2 (HC1).out.box
        go_wp2
        go_ret
        exact ⟨rfl, HC1.out.ext⟩
      · have hq00 : q = 0 := by omega
        have EN := Lib.hid (sb_last hn (show 0 + 1 = zs.length by omega))
        have d1 : (nd zs 0 != nd zs q) = false := by rw [hq00]; simp
        clear hq00
        clear h hl hc hn hq0 hjq
        go_enter Try.func7, Try.ntmps7
        go_wp2_with fail
        refine (cfSound_any _ _ _ _ zs _ _ _ (by omega) (by omega) HL.out HI1.out.ints).mono ?_
        rintro e w2 ⟨rfl, hb2⟩
        rw [HC.out]
        generalize w.alloc (.cells #[.int .i64 ep, .slice a (q + 1) cap] 24) = w1 at *
        generalize w.heap.size = B1 at *
        obtain ⟨x0, x1⟩ := box2 HI1.out.box
        have HI2 := Lib.hid ((HI1).out.below hb2)
        clear hb2 HI1 x0 x1
        obtain ⟨x0, x1⟩ := box2 (HI2).out.box
        go_wp2_with fail
        refine (cfPos_any _ _ _ _ zs _ _ HL.out HI2.out.ints).mono ?_
        rintro e w3 ⟨rfl, hb_w3⟩
        rw [EP.out.1, EP.out.2]
        have HI3 := Lib.hid ((HI2).out.below hb_w3)
        clear hb_w3 HI2 x0 x1
        obtain ⟨x0, x1⟩ := box2 (HI3).out.box
        go_wp2_with fail
        refine (cfNext_any _ _ _ _ zs _ _ HL.out HI3.out.ints).mono ?_
        rintro e w4 ⟨rfl, hb_w4⟩
        rw [EN.out.1, EN.out.2]
        have HI4 := Lib.hid ((HI3).out.below hb_w4)
        clear hb_w4 HI3 x0 x1
        obtain ⟨x0, x1⟩ := box2 (HI4).out.box
        go_wp2_with fail
        refine (cfPrev_any _ _ _ _ zs _ _ HL.out HI4.out.ints).mono ?_
        rintro e w5 ⟨rfl, hb_w5⟩
        rw [EB.out.1, EB.out.2]
        have HI5 := Lib.hid ((HI4).out.below hb_w5)
        clear hb_w5 HI4 x0 x1
        obtain ⟨x0, x1⟩ := box2 (HI5).out.box
        go_wp2_with fail
        refine (cfHead_any _ _ _ _ zs _ HL.out HI5.out.ints).mono ?_
        rintro e wa2 ⟨rfl, hb_wa2⟩
        rw [EH.out.1, EH.out.2]
        have HA2 := Lib.hid ((HI5).out.below hb_wa2)
        clear hb_wa2 HI5 x0 x1
        obtain ⟨x0, x1⟩ := box2 (HA2).out.box
        go_wp2_with fail
        refine (cfTail_any _ _ _ _ zs _ HL.out HA2.out.ints).mono ?_
        rintro e wb2 ⟨rfl, hb_wb2⟩
        rw [ET.out.1, ET.out.2]
        have HB2 := Lib.hid ((HA2).out.below hb_wb2)
        clear hb_wb2 HA2 x0 x1
        obtain ⟨x0, x1⟩ := box2 (HB2).out.box
        go_wp2_with fail
        refine (awake11 _).mono ?_
        rintro e wc2 ⟨rfl, hbc2⟩
        have HC2 := Lib.hid ((HB2).out.below hbc2)
        clear hbc2 HB2 x0 x1
        obtain ⟨x0, x1⟩ := box2 (HC2).out.box
        go_wp2
        go_ret
        exact ⟨rfl, HC2.out.ext⟩
    | succ i =>
      have EB := Lib.hid (sb_prev hn (show i + 1 < zs.length by omega))
      have EL := Lib.hid (sb_next hn (show i + 1 < zs.length by omega))
      have d1 : (nd zs (i + 1) != nd zs 0) = true := by
        simp
        intro e
        have := nodB_inj hn (show i + 1 < zs.length by omega) (show 0 < zs.length by omega) e
        omega
      by_cases hq0 : i + 1 < q
      · have EN := Lib.hid (sb_next hn (show i + 1 + 1 < zs.length by omega))
        have EM := Lib.hid (sb_prev hn (show i + 1 + 1 < zs.length by omega))
        have d2 : (nd zs (i + 1) != nd zs q) = true := by
          simp
          intro e
          have := nodB_inj hn (show i + 1 < zs.length by omega) (show q < zs.length by omega) e
          omega
        clear h hl hc hn hq0 hjq
        go_enter Try.func7, Try.ntmps7
        go_wp2_with fail
        refine (cfSound_any _ _ _ _ zs _ _ _ (by omega) (by omega) HL.out HI1.out.ints).mono ?_
        rintro e w2 ⟨rfl, hb2⟩
        rw [HC.out]
        generalize w.alloc (.cells #[.int .i64 ep, .slice a (q + 1) cap] 24) = w1 at *
        generalize w.heap.size = B1 at *
        obtain ⟨x0, x1⟩ := box2 HI1.out.box
        have HI2 := Lib.hid ((HI1).out.below hb2)
        clear hb2 HI1 x0 x1
        obtain ⟨x0, x1⟩ := box2 (HI2).out.box
        go_wp2_with fail
        refine (cfPos_any _ _ _ _ zs _ _ HL.out HI2.out.ints).mono ?_
        rintro e w3 ⟨rfl, hb_w3⟩
        rw [EP.out.1, EP.out.2]
        have HI3 := Lib.hid ((HI2).out.below hb_w3)
        clear hb_w3 HI2 x0 x1
        obtain ⟨x0, x1⟩ := box2 (HI3).out.box
        go_wp2_with fail
        refine (cfNext_any _ _ _ _ zs _ _ HL.out HI3.out.ints).mono ?_
        rintro e w4 ⟨rfl, hb_w4⟩
        rw [EN.out.1, EN.out.2]
        have HI4 := Lib.hid ((HI3).out.below hb_w4)
        clear hb_w4 HI3 x0 x1
        obtain ⟨x0, x1⟩ := box2 (HI4).out.box
        go_wp2_with fail
        refine (cfPrev_any _ _ _ _ zs _ _ HL.out HI4.out.ints).mono ?_
        rintro e w5 ⟨rfl, hb_w5⟩
        rw [EB.out.1, EB.out.2]
        have HI5 := Lib.hid ((HI4).out.below hb_w5)
        clear hb_w5 HI4 x0 x1
        obtain ⟨x0, x1⟩ := box2 (HI5).out.box
        go_wp2_with fail
        refine (cfPrev_any _ _ _ _ zs _ _ HL.out HI5.out.ints).mono ?_
        rintro e w6 ⟨rfl, hb_w6⟩
        rw [EM.out.1, EM.out.2]
        have HI6 := Lib.hid ((HI5).out.below hb_w6)
        clear hb_w6 HI5 x0 x1
        obtain ⟨x0, x1⟩ := box2 (HI6).out.box
        go_wp2_with fail
        refine (cfNext_any _ _ _ _ zs _ _ HL.out HI6.out.ints).mono ?_
        rintro e w7 ⟨rfl, hb_w7⟩
        rw [EL.out.1, EL.out.2]
        have HI7 := Lib.hid ((HI6).out.below hb_w7)
        clear hb_w7 HI6 x0 x1
        obtain ⟨x0, x1⟩ := box2 (HI7).out.box
        go_wp2_with fail
        refine (cfHead_any _ _ _ _ zs _ HL.out HI7.out.ints).mono ?_
        rintro e wa3 ⟨rfl, hb_wa3⟩
        rw [EH.out.1, EH.out.2]
        have HA3 := Lib.hid ((HI7).out.below hb_wa3)
        clear hb_wa3 HI7 x0 x1
        obtain ⟨x0, x1⟩ := box2 (HA3).out.box
        go_wp2_with fail
        refine (cfTail_any _ _ _ _ zs _ HL.out HA3.out.ints).mono ?_
        rintro e wb3 ⟨rfl, hb_wb3⟩
        rw [ET.out.1, ET.out.2]
        have HB3 := Lib.hid ((HA3).out.below hb_wb3)
        clear hb_wb3 HA3 x0 x1
        obtain ⟨x0, x1⟩ := box2 (HB3).out.box
        go_wp2_with fail
        refine (awake11 _).mono ?_
        rintro e wc3 ⟨rfl, hbc3⟩
        have HC3 := Lib.hid ((HB3).out.below hbc3)
        clear hbc3 HB3 x0 x1
        obtain ⟨x0, x1⟩ := box2 (HC3).out.box
        go_wp2
        go_ret
        exact ⟨rfl, HC3.out.ext⟩
      · have hq00 : q = i + 1 := by omega
        have EN := Lib.hid (sb_last hn (show i + 1 + 1 = zs.length by omega))
        have d2 : (nd zs (i + 1) != nd zs q) = false := by rw [hq00]; simp
        clear hq00
        clear h hl hc hn hq0 hjq
        go_enter Try.func7, Try.ntmps7
        go_wp2_with fail
        refine (cfSound_any _ _ _ _ zs _ _ _ (by omega) (by omega) HL.out HI1.out.ints).mono ?_
        rintro e w2 ⟨rfl, hb2⟩
        rw [HC.out]
        generalize w.alloc (.cells #[.int .i64 ep, .slice a (q + 1) cap] 24) = w1 at *
        generalize w.heap.size = B1 at *
        obtain ⟨x0, x1⟩ := box2 HI1.out.box
        have HI2 := Lib.hid ((HI1).out.below hb2)
        clear hb2 HI1 x0 x1
        obtain ⟨x0, x1⟩ := box2 (HI2).out.box
        go_wp2_with fail
        refine (cfPos_any _ _ _ _ zs _ _ HL.out HI2.out.ints).mono ?_
        rintro e w3 ⟨rfl, hb_w3⟩
        rw [EP.out.1, EP.out.2]
        have HI3 := Lib.hid ((HI2).out.below hb_w3)
        clear hb_w3 HI2 x0 x1
        obtain ⟨x0, x1⟩ := box2 (HI3).out.box
        go_wp2_with fail
        refine (cfNext_any _ _ _ _ zs _ _ HL.out HI3.out.ints).mono ?_
        rintro e w4 ⟨rfl, hb_w4⟩
        rw [EN.out.1, EN.out.2]
        have HI4 := Lib.hid ((HI3).out.below hb_w4)
        clear hb_w4 HI3 x0 x1
        obtain ⟨x0, x1⟩ := box2 (HI4).out.box
        go_wp2_with fail
        refine (cfPrev_any _ _ _ _ zs _ _ HL.out HI4.out.ints).mono ?_
        rintro e w5 ⟨rfl, hb_w5⟩
        rw [EB.out.1, EB.out.2]
        have HI5 := Lib.hid ((HI4).out.below hb_w5)
        clear hb_w5 HI4 x0 x1
        obtain ⟨x0, x1⟩ := box2 (HI5).out.box
        go_wp2_with fail
        refine (cfNext_any _ _ _ _ zs _ _ HL.out HI5.out.ints).mono ?_
        rintro e w7 ⟨rfl, hb_w7⟩
        rw [EL.out.1, EL.out.2]
        have HI7 := Lib.hid ((HI5).out.below hb_w7)
        clear hb_w7 HI5 x0 x1
        obtain ⟨x0, x1⟩ := box2 (HI7).out.box
        go_wp2_with fail
        refine (cfHead_any _ _ _ _ zs _ HL.out HI7.out.ints).mono ?_
        rintro e wa4 ⟨rfl, hb_wa4⟩
        rw [EH.out.1, EH.out.2]
        have HA4 := Lib.hid ((HI7).out.below hb_wa4)
        clear hb_wa4 HI7 x0 x1
        obtain ⟨x0, x1⟩ := box2 (HA4).out.box
        go_wp2_with fail
        refine (cfTail_any _ _ _ _ zs _ HL.out HA4.out.ints).mono ?_
        rintro e wb4 ⟨rfl, hb_wb4⟩
        rw [ET.out.1, ET.out.2]
        have HB4 := Lib.hid ((HA4).out.below hb_wb4)
        clear hb_wb4 HA4 x0 x1
        obtain ⟨x0, x1⟩ := box2 (HB4).out.box
        go_wp2_with fail
        refine (awake11 _).mono ?_
        rintro e wc4 ⟨rfl, hbc4⟩
        have HC4 := Lib.hid ((HB4).out.below hbc4)
        clear hbc4 HB4 x0 x1
        obtain ⟨x0, x1⟩ := box2 (HC4).out.box
        go_wp2
        go_ret
        exact ⟨rfl, HC4.out.ext⟩

theorem confBeside_walk (ep : Int) (a : Option Addr) (cap : Nat) (zs : List Int) (x : Int) (w : World) (h : (-9223372036854775808 ≤ ep ∧ ep ≤ 9223372036854775807) ∧ IntsAt w a cap zs) (_hx : (Lit.int .i64 x).wf = true) :
    Calls Try.prog 7 #[.agg #[.int .i64 ep, .slice a zs.length cap], .int .i64 x] w fun e w' => e = .returned (.bool true) ∧ Below w.heap.size w w' := by
  cases hc : cfB ep zs 1 ((zs.length : Int) - 1)
  · exact confBeside_no ep a cap zs.length zs x w h.2 rfl hc
  · obtain ⟨q, hq, h16, hn, hc2⟩ := cf_parts hc
    rw [hq]
    exact confBeside_yes ep a cap q zs x w h.2 hq h16 hc2 hn

end Go.Proofs.Ytepimdkpkfbgcaa
