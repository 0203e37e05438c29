/-
  Layer 11: ConfChain, ConfBeside.
-/
import Derived.Test.YtepimdkpkfbgcaaLaw112
namespace Go.Proofs.Ytepimdkpkfbgcaa
open Go.RowKit

/-- The member at place j. -/
def nd (zs : List Int) (j : Nat) : Int := zs.getD j 0

theorem nod_ix {zs : List Int} (h : nodB zs = true) {j : Nat} (hj : j < zs.length) : ix zs (nd zs j) = (j : Int) := (nodB_at h hj).2.2

theorem sb_pos {zs : List Int} (h : nodB zs = true) {j : Nat} (hj : j < zs.length) : psV zs (nd zs j) = (j : Int) ∧ psO zs (nd zs j) = true := by
  have e := nod_ix h hj
  unfold psV psO
  rw [e, if_neg (by omega)]
  exact ⟨rfl, by simp⟩

theorem sb_next {zs : List Int} (h : nodB zs = true) {j : Nat} (hj : j + 1 < zs.length) : bsV zs (nd zs j) 1 = nd zs (j + 1) ∧ bsO zs (nd zs j) 1 = true := by
  have e := nod_ix h (show j < zs.length by omega)
  unfold bsV bsO
  rw [e, if_neg (by omega), if_neg (by omega), atV_yes (by omega) (by omega), atO_yes (by omega) (by omega)]
  exact ⟨rfl, rfl⟩

theorem sb_last {zs : List Int} (h : nodB zs = true) {j : Nat} (hj : j + 1 = zs.length) : bsV zs (nd zs j) 1 = 0 ∧ bsO zs (nd zs j) 1 = false := by
  have e := nod_ix h (show j < zs.length by omega)
  unfold bsV bsO
  rw [e, if_neg (by omega), if_neg (by omega), atO_high (by omega), atV_no (atO_high (by omega))]
  exact ⟨rfl, rfl⟩

theorem sb_prev {zs : List Int} (h : nodB zs = true) {j : Nat} (hj : j + 1 < zs.length) : bsV zs (nd zs (j + 1)) (-1) = nd zs j ∧ bsO zs (nd zs (j + 1)) (-1) = true := by
  have e := nod_ix h hj
  unfold bsV bsO
  rw [e, if_neg (by omega), if_neg (by omega), atV_yes (by omega) (by omega), atO_yes (by omega) (by omega)]
  refine ⟨?_, rfl⟩
  unfold nd
  congr 1
  omega

theorem sb_first {zs : List Int} (h : nodB zs = true) (hj : 0 < zs.length) : bsV zs (nd zs 0) (-1) = 0 ∧ bsO zs (nd zs 0) (-1) = false := by
  have e := nod_ix h hj
  unfold bsV bsO
  rw [e, if_neg (by omega), if_neg (by omega), atO_low (by omega), atV_no (atO_low (by omega))]
  exact ⟨rfl, rfl⟩


set_option maxRecDepth 100000 in
set_option maxHeartbeats 4000000 in
theorem confChain_no (ep : Int) (a : Option Addr) (cap l : Nat) (zs : List Int) (w : World) (h : IntsAt w a cap zs) (hl : zs.length = l) (hc : cfB ep zs 1 ((l : Int) - 1) = false) :
    Calls Try.prog 6 #[.agg #[.int .i64 ep, .slice a l cap]] w fun e w' => e = .returned (.bool true) ∧ Below w.heap.size w w' := by
  have hmx := Nat.le_trans h.le h.max
  rw [hl] at hmx
  unfold maxLen at hmx
  have HI1 : Hid (CfW w (w.alloc (.cells #[.int .i64 ep, .slice a l cap] 24)) w.heap.size ep a l cap zs) := ⟨box_new _ _ _ _ rfl, h.below (below_one _ _), below_one _ _⟩
  have HL := Lib.hid hl
  have HC := Lib.hid hc
  clear h hl hc
  go_enter Try.func6, Try.ntmps6
  go_wp2_with fail
  refine (cfSound_any _ _ _ _ zs _ _ _ (by omega) (by omega) HL.out HI1.out.ints).mono ?_
  rintro e w2 ⟨rfl, hb2⟩
  rw [HC.out]
  have HB2 := Lib.hid (HI1.out.ext.trans hb2)
  clear hb2
  go_wp2_with fail
  refine (awake11 _).mono ?_
  rintro e w3 ⟨rfl, hb3⟩
  have HB3 := Lib.hid (HB2.out.trans hb3)
  clear hb3
  go_wp2
  go_ret
  exact ⟨rfl, HB3.out⟩

set_option maxRecDepth 100000 in
set_option maxHeartbeats 4000000 in
theorem confBeside_no (ep : Int) (a : Option Addr) (cap l : Nat) (zs : List Int) (x : Int) (w : World) (h : IntsAt w a cap zs) (hl : zs.length = l) (hc : cfB ep zs 1 ((l : Int) - 1) = false) :
    Calls Try.prog 7 #[.agg #[.int .i64 ep, .slice a l cap], .int .i64 x] w fun e w' => e = .returned (.bool true) ∧ Below w.heap.size w w' := by
  have hmx := Nat.le_trans h.le h.max
  rw [hl] at hmx
  unfold maxLen at hmx
  have HI1 : Hid (CfW w (w.alloc (.cells #[.int .i64 ep, .slice a l cap] 24)) w.heap.size ep a l cap zs) := ⟨box_new _ _ _ _ rfl, h.below (below_one _ _), below_one _ _⟩
  have HL := Lib.hid hl
  have HC := Lib.hid hc
  clear h hl hc
  go_enter Try.func7, Try.ntmps7
  go_wp2_with fail
  refine (cfSound_any _ _ _ _ zs _ _ _ (by omega) (by omega) HL.out HI1.out.ints).mono ?_
  rintro e w2 ⟨rfl, hb2⟩
  rw [HC.out]
  have HB2 := Lib.hid (HI1.out.ext.trans hb2)
  clear hb2
  go_wp2_with fail
  refine (awake11 _).mono ?_
  rintro e w3 ⟨rfl, hb3⟩
  have HB3 := Lib.hid (HB2.out.trans hb3)
  clear hb3
  go_wp2
  go_ret
  exact ⟨rfl, HB3.out⟩

set_option maxRecDepth 100000 in
set_option maxHeartbeats 4000000 in
theorem confChain_yes (ep : Int) (a : Option Addr) (cap q : Nat) (zs : List Int) (w : World) (h : IntsAt w a cap zs) (hl : zs.length = q + 1) (hq : q < 16) (hc : cfB ep zs 1 (q : Int) = true) (hn : nodB zs = true) :
    Calls Try.prog 6 #[.agg #[.int .i64 ep, .slice a (q + 1) cap]] w fun e w' => e = .returned (.bool true) ∧ Below w.heap.size w w' := by
  have HI1 : Hid (CfW w (w.alloc (.cells #[.int .i64 ep, .slice a (q + 1) cap] 24)) w.heap.size ep a (q + 1) cap zs) := ⟨box_new _ _ _ _ rfl, h.below (below_one _ _), below_one _ _⟩
  have HL := Lib.hid hl
  have HC := Lib.hid hc
  have HN := Lib.hid hn
  have EH : Hid (atV zs 0 = nd zs 0 ∧ atO (q + 1) 0 = true) := ⟨atV_yes (by omega) (by omega), atO_yes (by omega) (by omega)⟩
  have ET : Hid (atV zs (((q + 1 : Nat) : Int) - 1) = nd zs q ∧ atO (q + 1) (((q + 1 : Nat) : Int) - 1) = true) := ⟨by
    rw [atV_yes (by omega) (by omega)]
    unfold nd
    congr 1
    omega, atO_yes (by omega) (by omega)⟩
  clear h hl hc hn
  go_enter Try.func6, Try.ntmps6
  go_wp2_with fail
  refine (cfSound_any _ _ _ _ zs _ _ _ (by omega) (by omega) HL.out HI1.out.ints).mono ?_
  rintro e w2 ⟨rfl, hb2⟩
  rw [HC.out]
  generalize w.alloc (.cells #[.int .i64 ep, .slice a (q + 1) cap] 24) = w1 at *
  generalize w.heap.size = B1 at *
  obtain ⟨x0, x1⟩ := box2 HI1.out.box
  have HI2 := Lib.hid ((HI1).out.below hb2)
  clear hb2 HI1 x0 x1
  obtain ⟨x0, x1⟩ := box2 (HI2).out.box
  go_wp2_with fail
  refine (cfHead_any _ _ _ _ zs _ HL.out HI2.out.ints).mono ?_
  rintro e w3 ⟨rfl, hb3⟩
  rw [EH.out.1, EH.out.2]
  have HI3 := Lib.hid ((HI2).out.below hb3)
  clear hb3 HI2 x0 x1
  obtain ⟨x0, x1⟩ := box2 (HI3).out.box
  clear x0 x1
  go_wp2_with fail
  go_loopw [3, 5, 6, 7, 8, 9, 10, 11] (fun n i _ _ _ _ _ _ ws => ∃ j : Nat, j ≤ q ∧ i = .int .i64 j ∧ n = .int .i64 (nd zs j) ∧ Hid (CfW w ws B1 ep a (q + 1) cap zs)) (fun _ i _ _ _ _ _ _ _ => q + 1 - (intOf i).toNat)
  case atStart => exact ⟨0, Nat.zero_le _, rfl, rfl, HI3.out⟩
  case round =>
    obtain ⟨j, hj, rfl, rfl, hI⟩ := hrel
    obtain ⟨x0, x1⟩ := box2 hI.out.box
    have j0 : (0 : Int) ≤ (j : Int) := by omega
    have j1 : (j : Int) < (q : Int) + 1 := by omega
    have EP := Lib.hid (sb_pos HN.out (show j < zs.length by rw [HL.out]; omega))
    by_cases hlt : j < q
    · have d1 : decide ((j : Int) < (q : Int)) = true := by simp; exact hlt
      have EN := Lib.hid (sb_next HN.out (show j + 1 < zs.length by rw [HL.out]; omega))
      have EB := Lib.hid (sb_prev HN.out (show j + 1 < zs.length by rw [HL.out]; omega))
      go_wp2_with fail
      refine (cfPos_any _ _ _ _ zs _ _ HL.out hI.out.ints).mono ?_
      rintro e w4 ⟨rfl, hb4⟩
      rw [EP.out.1, EP.out.2]
      have HI4 := Lib.hid ((hI).out.below hb4)
      clear hb4 hI x0 x1
      obtain ⟨x0, x1⟩ := box2 (HI4).out.box
      go_wp2_with fail
      refine (cfNext_any _ _ _ _ zs _ _ HL.out HI4.out.ints).mono ?_
      rintro e w5 ⟨rfl, hb5⟩
      rw [EN.out.1, EN.out.2]
      have HI5 := Lib.hid ((HI4).out.below hb5)
      clear hb5 HI4 x0 x1
      obtain ⟨x0, x1⟩ := box2 (HI5).out.box
      go_wp2_with fail
      refine (cfPrev_any _ _ _ _ zs _ _ HL.out HI5.out.ints).mono ?_
      rintro e w6 ⟨rfl, hb6⟩
      rw [EB.out.1, EB.out.2]
      have HI6 := Lib.hid ((HI5).out.below hb6)
      clear hb6 HI5 x0 x1
      obtain ⟨x0, x1⟩ := box2 (HI6).out.box
      clear EP EN EB
      generalize hz1 : nd zs (j + 1) = y1 at *
      have HZ1 := Lib.hid hz1
      clear hz1
      generalize nd zs j = y0 at *
      go_wp2
      go_roundw
      case rel => exact ⟨j + 1, by omega, by go_num, by rw [HZ1.out], HI6.out⟩
      case measure => simp [intOf]; omega
    · have d1 : decide ((j : Int) < (q : Int)) = false := by simp; omega
      obtain rfl : j = q := by omega
      have EN := Lib.hid (sb_last HN.out (show j + 1 = zs.length by rw [HL.out]))
      go_wp2_with fail
      refine (cfPos_any _ _ _ _ zs _ _ HL.out hI.out.ints).mono ?_
      rintro e w4 ⟨rfl, hb4⟩
      rw [EP.out.1, EP.out.2]
      have HI4 := Lib.hid ((hI).out.below hb4)
      clear hb4 hI x0 x1
      obtain ⟨x0, x1⟩ := box2 (HI4).out.box
      go_wp2_with fail
      refine (cfNext_any _ _ _ _ zs _ _ HL.out HI4.out.ints).mono ?_
      rintro e w5 ⟨rfl, hb5⟩
      rw [EN.out.1, EN.out.2]
      have HI5 := Lib.hid ((HI4).out.below hb5)
      clear hb5 HI4 x0 x1
      obtain ⟨x0, x1⟩ := box2 (HI5).out.box
      go_wp2_with fail
      refine (cfTail_any _ _ _ _ zs _ HL.out HI5.out.ints).mono ?_
      rintro e w6 ⟨rfl, hb6⟩
      rw [ET.out.1, ET.out.2]
      have HI6 := Lib.hid ((HI5).out.below hb6)
      clear hb6 HI5 x0 x1
      obtain ⟨x0, x1⟩ := box2 (HI6).out.box
      go_wp2_with fail
      refine (awake11 _).mono ?_
      rintro e w7 ⟨rfl, hb7⟩
      have HI7 := Lib.hid ((HI6).out.below hb7)
      clear hb7 HI6 x0 x1
      obtain ⟨x0, x1⟩ := box2 (HI7).out.box
      clear EP EN EH ET
      generalize nd zs j = y0 at *
      go_wp2
      go_ret
      exact ⟨rfl, HI7.out.ext⟩

theorem cf_parts {ep : Int} {zs : List Int} {l : Nat} (hc : cfB ep zs 1 ((l : Int) - 1) = true) : ∃ q : Nat, l = q + 1 ∧ q < 16 ∧ nodB zs = true ∧ cfB ep zs 1 (q : Int) = true := by
  have h := cfB_at hc
  refine ⟨l - 1, by omega, by omega, h.2.2.2.2.2.2, ?_⟩
  rw [show ((l - 1 : Nat) : Int) = (l : Int) - 1 by omega]
  exact hc

theorem confChain_walk (ep : Int) (a : Option Addr) (cap : Nat) (zs : List Int) (w : World) (h : (-9223372036854775808 ≤ ep ∧ ep ≤ 9223372036854775807) ∧ IntsAt w a cap zs) :
    Calls Try.prog 6 #[.agg #[.int .i64 ep, .slice a zs.length cap]] w fun e w' => e = .returned (.bool true) ∧ Below w.heap.size w w' := by
  cases hc : cfB ep zs 1 ((zs.length : Int) - 1)
  · exact confChain_no ep a cap zs.length zs w h.2 rfl hc
  · obtain ⟨q, hq, h16, hn, hc2⟩ := cf_parts hc
    rw [hq]
    exact confChain_yes ep a cap q zs w h.2 hq h16 hc2 hn

end Go.Proofs.Ytepimdkpkfbgcaa
