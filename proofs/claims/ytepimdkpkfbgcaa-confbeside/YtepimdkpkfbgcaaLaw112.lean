/-
  Layer 11: ConfPlaces.
-/
import Derived.Test.YtepimdkpkfbgcaaAwake11
import Derived.Test.YtepimdkpkfbgcaaArgF
import Derived.Deep.DeepCutAuto
namespace Go.Proofs.Ytepimdkpkfbgcaa
open Go.RowKit

theorem IntsAt.cellAt {w : World} {b off cap : Nat} {zs : List Int} (h : IntsAt w (some ⟨b, off, none⟩) cap zs) (i : Nat) (hi : i < zs.length) : w.cell? ⟨b, off + i, none⟩ = some (.int .i64 (zs.getD i 0)) := by
  obtain ⟨b', o', e, hc⟩ := h.cell i hi
  cases e
  exact hc

theorem IntsAt.cellI {w : World} {b off cap : Nat} {zs : List Int} (h : IntsAt w (some ⟨b, off, none⟩) cap zs) (p : Int) (h0 : 0 ≤ p) (h1 : p < (zs.length : Int)) : w.cell? ⟨b, off + p.toNat, none⟩ = some (.int .i64 (atV zs p)) := by
  rw [atV_yes h0 h1]
  exact h.cellAt p.toNat (by omega)

/-- One call more: the box, the members and the world behind it. -/
structure CfW (w w' : World) (B : Nat) (ep : Int) (a : Option Addr) (l cap : Nat) (zs : List Int) : Prop where
  box : Box w' B #[.int .i64 ep, .slice a l cap]
  ints : IntsAt w' a cap zs
  ext : Ext w w'

theorem CfW.below {w w' w2 : World} {B : Nat} {ep : Int} {a : Option Addr} {l cap : Nat} {zs : List Int} (h : CfW w w' B ep a l cap zs) (hb : Below w'.heap.size w' w2) : CfW w w2 B ep a l cap zs :=
  ⟨h.box.below hb, h.ints.below hb, h.ext.trans hb⟩




theorem wfX {z : Int} (h : (Lit.int .i64 z).wf = true) : -9223372036854775808 ≤ z ∧ z ≤ 9223372036854775807 := by
  simpa [Lit.wf, IntKind.min, IntKind.max, IntKind.signed, IntKind.bits] using h

set_option maxRecDepth 100000 in
set_option maxHeartbeats 4000000 in
theorem confPlaces_big (ep : Int) (a : Option Addr) (cap l : Nat) (x : Int) (w : World) (h : 300 < l) :
    Calls Try.prog 4 #[.agg #[.int .i64 ep, .slice a l cap], .int .i64 x] w fun e w' => e = .returned (.bool true) ∧ Below w.heap.size w w' := by
  have HB1 : Hid (Ext w (w.alloc (.cells #[.int .i64 ep, .slice a l cap] 24))) := below_one w _
  have d0 : decide ((300 : Int) < (l : Int)) = true := by simp; omega
  clear h
  go_enter Try.func4, Try.ntmps4
  go_wp2_with fail
  refine (awake11 _).mono ?_
  rintro e w2 ⟨rfl, hb2⟩
  have HB2 := Lib.hid (HB1.out.trans hb2)
  clear hb2
  go_wp2
  go_ret
  exact ⟨rfl, HB2.out⟩

set_option maxRecDepth 100000 in
set_option maxHeartbeats 4000000 in
theorem confPlaces_none (ep : Int) (a : Option Addr) (cap : Nat) (x : Int) (w : World) (h : IntsAt w a cap []) :
    Calls Try.prog 4 #[.agg #[.int .i64 ep, .slice a 0 cap], .int .i64 x] w fun e w' => e = .returned (.bool true) ∧ Below w.heap.size w w' := by
  obtain ⟨zs, hz⟩ : ∃ zs : List Int, zs = [] := ⟨_, rfl⟩
  rw [← hz] at h
  have HI1 : Hid (CfW w (w.alloc (.cells #[.int .i64 ep, .slice a 0 cap] 24)) w.heap.size ep a 0 cap zs) := ⟨box_new _ _ _ _ rfl, h.below (below_one _ _), below_one _ _⟩
  have HL : Hid (zs.length = 0) := by show _ = _; rw [hz]; rfl
  have HIX : Hid (ix zs x = -1) := by show _ = _; rw [hz]; rfl
  have E1 : Hid (psV zs x = 0) := by show _ = _; rw [hz]; rfl
  have E2 : Hid (psO zs x = false) := by show _ = _; rw [hz]; rfl
  have E3 : Hid (bsV zs x 1 = 0) := by show _ = _; rw [hz]; rfl
  have E4 : Hid (bsO zs x 1 = false) := by show _ = _; rw [hz]; rfl
  have E5 : Hid (bsV zs x (-1) = 0) := by show _ = _; rw [hz]; rfl
  have E6 : Hid (bsO zs x (-1) = false) := by show _ = _; rw [hz]; rfl
  have EH : Hid (atV zs 0 = 0 ∧ atO 0 0 = false) := by show _ ∧ _; rw [hz]; exact ⟨rfl, rfl⟩
  have ET : Hid (atV zs (((0 : Nat) : Int) - 1) = 0 ∧ atO 0 (((0 : Nat) : Int) - 1) = false) := by show _ ∧ _; rw [hz]; exact ⟨rfl, rfl⟩
  clear h hz
  go_enter Try.func4, Try.ntmps4
  go_wp2_with fail
  refine (refPos_any _ _ _ _ zs _ _ HL.out HI1.out.ints).mono ?_
  rintro e w2 ⟨rfl, hb2⟩
  generalize w.alloc (.cells #[.int .i64 ep, .slice _ _ cap] 24) = w1 at *
  generalize w.heap.size = B1 at *
  rw [HIX.out]
  obtain ⟨x0, x1⟩ := box2 HI1.out.box
  have HI2 := Lib.hid ((HI1).out.below hb2)
  clear hb2 HI1 x0 x1
  obtain ⟨x0, x1⟩ := box2 (HI2).out.box
  go_wp2_with fail
  refine (cfPos_any _ _ _ _ zs _ _ HL.out HI2.out.ints).mono ?_
  rintro e w3 ⟨rfl, hb3⟩
  rw [(E1).out, (E2).out]
  have HI3 := Lib.hid ((HI2).out.below hb3)
  clear hb3 HI2 x0 x1
  obtain ⟨x0, x1⟩ := box2 (HI3).out.box
  go_wp2_with fail
  refine (cfNext_any _ _ _ _ zs _ _ HL.out HI3.out.ints).mono ?_
  rintro e w4 ⟨rfl, hb4⟩
  rw [(E3).out, (E4).out]
  have HI4 := Lib.hid ((HI3).out.below hb4)
  clear hb4 HI3 x0 x1
  obtain ⟨x0, x1⟩ := box2 (HI4).out.box
  go_wp2_with fail
  refine (cfPrev_any _ _ _ _ zs _ _ HL.out HI4.out.ints).mono ?_
  rintro e w5 ⟨rfl, hb5⟩
  rw [(E5).out, (E6).out]
  have HI5 := Lib.hid ((HI4).out.below hb5)
  clear hb5 HI4 x0 x1
  obtain ⟨x0, x1⟩ := box2 (HI5).out.box
  go_wp2_with fail
  refine (cfHead_any _ _ _ _ zs _ HL.out HI5.out.ints).mono ?_
  rintro e w6 ⟨rfl, hb6⟩
  rw [EH.out.1, EH.out.2]
  have HI6 := Lib.hid ((HI5).out.below hb6)
  clear hb6 HI5 x0 x1
  obtain ⟨x0, x1⟩ := box2 (HI6).out.box
  go_wp2_with fail
  refine (cfTail_any _ _ _ _ zs _ HL.out HI6.out.ints).mono ?_
  rintro e w7 ⟨rfl, hb7⟩
  rw [ET.out.1, ET.out.2]
  have HI7 := Lib.hid ((HI6).out.below hb7)
  clear hb7 HI6 x0 x1
  obtain ⟨x0, x1⟩ := box2 (HI7).out.box
  go_wp2_with fail
  refine (awake11 _).mono ?_
  rintro e w8 ⟨rfl, hb8⟩
  have HI8 := Lib.hid ((HI7).out.below hb8)
  clear hb8 HI7 x0 x1
  obtain ⟨x0, x1⟩ := box2 (HI8).out.box
  go_wp2
  go_ret
  exact ⟨rfl, HI8.out.ext⟩


set_option maxRecDepth 100000 in
set_option maxHeartbeats 8000000 in
theorem confPlaces_some (ep : Int) (b off : Nat) (cap q : Nat) (zs : List Int) (x : Int) (w : World) (h : IntsAt w (some ⟨b, off, none⟩) cap zs) (hl : zs.length = q + 1) (hq : q < 300) :
    Calls Try.prog 4 #[.agg #[.int .i64 ep, .slice (some ⟨b, off, none⟩) (q + 1) cap], .int .i64 x] w fun e w' => e = .returned (.bool true) ∧ Below w.heap.size w w' := by
  have HI1 : Hid (CfW w (w.alloc (.cells #[.int .i64 ep, .slice (some ⟨b, off, none⟩) (q + 1) cap] 24)) w.heap.size ep (some ⟨b, off, none⟩) (q + 1) cap zs) := ⟨box_new _ _ _ _ rfl, h.below (below_one _ _), below_one _ _⟩
  have HL := Lib.hid hl
  have hv0 : atV zs 0 = zs.getD 0 0 := atV_yes (by omega) (by omega)
  have hv1 : atV zs (((q + 1 : Nat) : Int) - 1) = zs.getD q 0 := by
    rw [atV_yes (by omega) (by omega)]
    congr 1
    omega
  have EH : Hid (atV zs 0 = atV zs 0 ∧ atO (q + 1) 0 = true) := ⟨rfl, atO_yes (by omega) (by omega)⟩
  have ET : Hid (atV zs (((q + 1 : Nat) : Int) - 1) = zs.getD q 0 ∧ atO (q + 1) (((q + 1 : Nat) : Int) - 1) = true) := ⟨hv1, atO_yes (by omega) (by omega)⟩
  rw [hv0] at EH
  have EH2 : Hid (atV zs 0 = zs.getD 0 0 ∧ atO (q + 1) 0 = true) := ⟨hv0, EH.out.2⟩
  clear EH
  have EH := EH2
  clear EH2
  obtain ⟨z0, hz0⟩ : ∃ z, zs.getD 0 0 = z := ⟨_, rfl⟩
  obtain ⟨z1, hz1⟩ : ∃ z, zs.getD q 0 = z := ⟨_, rfl⟩
  have HZ0 := Lib.hid hz0
  have HZ1 := Lib.hid hz1
  rw [hz0] at EH
  rw [hz1] at ET
  have HR := ix_range zs x
  rw [hl] at HR
  obtain ⟨p, hp⟩ : ∃ p, ix zs x = p := ⟨_, rfl⟩
  have HIX := Lib.hid hp
  have hpv : psV zs x = if p < 0 then 0 else p := by unfold psV; rw [hp]
  have hpo : psO zs x = decide (0 ≤ p) := by unfold psO; rw [hp]
  have hnv : bsV zs x 1 = if p < 0 then 0 else atV zs (p + 1) := by unfold bsV; rw [hp]
  have hno : bsO zs x 1 = if p < 0 then false else atO (q + 1) (p + 1) := by unfold bsO; rw [hp, hl]
  have hlv : bsV zs x (-1) = if p < 0 then 0 else atV zs (p - 1) := by unfold bsV; rw [hp]; rfl
  have hlo : bsO zs x (-1) = if p < 0 then false else atO (q + 1) (p - 1) := by unfold bsO; rw [hp, hl]; rfl
  rw [hp] at HR
  by_cases hp0 : p < 0
  · rw [if_pos hp0] at hpv hnv hno hlv hlo
    have E1 := Lib.hid hpv
    have E2 : Hid (psO zs x = false) := by show _ = _; rw [hpo]; simp; exact hp0
    have E3 := Lib.hid hnv
    have E4 := Lib.hid hno
    have E5 := Lib.hid hlv
    have E6 := Lib.hid hlo
    obtain rfl : p = -1 := by omega
    clear h hl hv0 hv1 hz0 hz1 hp hpv hpo hnv hno hlv hlo HR hp0
    go_enter Try.func4, Try.ntmps4
    go_wp2_with fail
    refine (refPos_any _ _ _ _ zs _ _ HL.out HI1.out.ints).mono ?_
    rintro e w2 ⟨rfl, hb2⟩
    generalize w.alloc (.cells #[.int .i64 ep, .slice _ _ cap] 24) = w1 at *
    generalize w.heap.size = B1 at *
    rw [HIX.out]
    obtain ⟨x0, x1⟩ := box2 HI1.out.box
    have HI2 := Lib.hid ((HI1).out.below hb2)
    clear hb2 HI1 x0 x1
    obtain ⟨x0, x1⟩ := box2 (HI2).out.box
    go_wp2_with fail
    refine (cfPos_any _ _ _ _ zs _ _ HL.out HI2.out.ints).mono ?_
    rintro e w3 ⟨rfl, hb3⟩
    rw [(E1).out, (E2).out]
    have HI3 := Lib.hid ((HI2).out.below hb3)
    clear hb3 HI2 x0 x1
    obtain ⟨x0, x1⟩ := box2 (HI3).out.box
    go_wp2_with fail
    refine (cfNext_any _ _ _ _ zs _ _ HL.out HI3.out.ints).mono ?_
    rintro e w4 ⟨rfl, hb4⟩
    rw [(E3).out, (E4).out]
    have HI4 := Lib.hid ((HI3).out.below hb4)
    clear hb4 HI3 x0 x1
    obtain ⟨x0, x1⟩ := box2 (HI4).out.box
    go_wp2_with fail
    refine (cfPrev_any _ _ _ _ zs _ _ HL.out HI4.out.ints).mono ?_
    rintro e w5 ⟨rfl, hb5⟩
    rw [(E5).out, (E6).out]
    have HI5 := Lib.hid ((HI4).out.below hb5)
    clear hb5 HI4 x0 x1
    obtain ⟨x0, x1⟩ := box2 (HI5).out.box
    go_wp2_with fail
    refine (cfHead_any _ _ _ _ zs _ HL.out HI5.out.ints).mono ?_
    rintro e w6 ⟨rfl, hb6⟩
    rw [EH.out.1, EH.out.2]
    have HI6 := Lib.hid ((HI5).out.below hb6)
    clear hb6 HI5 x0 x1
    obtain ⟨x0, x1⟩ := box2 (HI6).out.box
    go_wp2_with fail
    refine (cfTail_any _ _ _ _ zs _ HL.out HI6.out.ints).mono ?_
    rintro e w7 ⟨rfl, hb7⟩
    rw [ET.out.1, ET.out.2]
    have HI7 := Lib.hid ((HI6).out.below hb7)
    clear hb7 HI6 x0 x1
    obtain ⟨x0, x1⟩ := box2 (HI7).out.box
    go_wp2_with fail
    refine (awake11 _).mono ?_
    rintro e w8 ⟨rfl, hb8⟩
    have HI8 := Lib.hid ((HI7).out.below hb8)
    clear hb8 HI7 x0 x1
    obtain ⟨x0, x1⟩ := box2 (HI8).out.box
    have c0 := HI8.out.ints.cellAt 0 (by rw [HL.out]; omega)
    have c1 := HI8.out.ints.cellAt q (by rw [HL.out]; omega)
    rw [Nat.add_zero, HZ0.out] at c0
    rw [HZ1.out] at c1
    have q0 : (0 : Int) ≤ (q : Int) := by omega
    go_wp2
    go_ret
    exact ⟨rfl, HI8.out.ext⟩
  · have hl300 : (q : Int) < 300 := by omega
    rw [if_neg hp0] at hpv hnv hno hlv hlo
    have E1 := Lib.hid hpv
    have E2 : Hid (psO zs x = true) := by show _ = _; rw [hpo]; simp; omega
    have d1 : decide (0 ≤ p) = true := by simp; omega
    have hw1 : IntKind.i64.wrap (p + 1) = p + 1 := IntWalk.i64_in _ (by omega)
    have hw2 : IntKind.i64.wrap (p - 1) = p - 1 := IntWalk.i64_in _ (by omega)
    by_cases hn : p < (q : Int)
    · have d2 : decide (p < (q : Int)) = true := by simp; exact hn
      have n0 : 0 ≤ p + 1 := by omega
      have n1 : p + 1 < (q : Int) + 1 := by omega
      have E3 := Lib.hid hnv
      have E4 : Hid (bsO zs x 1 = true) := by show _ = _; rw [hno]; exact atO_yes (by omega) (by omega)
      by_cases hb : 0 < p
      · have d3 : decide (0 < p) = true := by simp; exact hb
        have b0 : 0 ≤ p - 1 := by omega
        have b1 : p - 1 < (q : Int) + 1 := by omega
        have E5 := Lib.hid hlv
        have E6 : Hid (bsO zs x (-1) = true) := by show _ = _; rw [hlo]; exact atO_yes (by omega) (by omega)
        clear h hl hv0 hv1 hz0 hz1 hp hpv hpo hnv hno hlv hlo HR hp0 hn hb
        go_enter Try.func4, Try.ntmps4
        go_wp2_with fail
        refine (refPos_any _ _ _ _ zs _ _ HL.out HI1.out.ints).mono ?_
        rintro e w2 ⟨rfl, hb2⟩
        generalize w.alloc (.cells #[.int .i64 ep, .slice _ _ cap] 24) = w1 at *
        generalize w.heap.size = B1 at *
        rw [HIX.out]
        obtain ⟨x0, x1⟩ := box2 HI1.out.box
        have HI2 := Lib.hid ((HI1).out.below hb2)
        clear hb2 HI1 x0 x1
        obtain ⟨x0, x1⟩ := box2 (HI2).out.box
        go_wp2_with fail
        refine (cfPos_any _ _ _ _ zs _ _ HL.out HI2.out.ints).mono ?_
        rintro e w3 ⟨rfl, hb3⟩
        rw [(E1).out, (E2).out]
        have HI3 := Lib.hid ((HI2).out.below hb3)
        clear hb3 HI2 x0 x1
        obtain ⟨x0, x1⟩ := box2 (HI3).out.box
        go_wp2_with fail
        refine (cfNext_any _ _ _ _ zs _ _ HL.out HI3.out.ints).mono ?_
        rintro e w4 ⟨rfl, hb4⟩
        rw [(E3).out, (E4).out]
        have HI4 := Lib.hid ((HI3).out.below hb4)
        clear hb4 HI3 x0 x1
        obtain ⟨x0, x1⟩ := box2 (HI4).out.box
        go_wp2_with fail
        refine (cfPrev_any _ _ _ _ zs _ _ HL.out HI4.out.ints).mono ?_
        rintro e w5 ⟨rfl, hb5⟩
        rw [(E5).out, (E6).out]
        have HI5 := Lib.hid ((HI4).out.below hb5)
        clear hb5 HI4 x0 x1
        obtain ⟨x0, x1⟩ := box2 (HI5).out.box
        have cn := HI5.out.ints.cellI (p + 1) n0 (by rw [HL.out]; omega)
        have cb := HI5.out.ints.cellI (p - 1) b0 (by rw [HL.out]; omega)
        rw [show (p - 1).toNat = p.toNat - 1 by omega] at cb
        generalize atV zs (p + 1) = y1 at *
        generalize atV zs (p - 1) = y2 at *
        go_wp2_with fail
        refine (cfHead_any _ _ _ _ zs _ HL.out HI5.out.ints).mono ?_
        rintro e w6 ⟨rfl, hb6⟩
        rw [EH.out.1, EH.out.2]
        have HI6 := Lib.hid ((HI5).out.below hb6)
        clear hb6 HI5 x0 x1
        obtain ⟨x0, x1⟩ := box2 (HI6).out.box
        go_wp2_with fail
        refine (cfTail_any _ _ _ _ zs _ HL.out HI6.out.ints).mono ?_
        rintro e w7 ⟨rfl, hb7⟩
        rw [ET.out.1, ET.out.2]
        have HI7 := Lib.hid ((HI6).out.below hb7)
        clear hb7 HI6 x0 x1
        obtain ⟨x0, x1⟩ := box2 (HI7).out.box
        go_wp2_with fail
        refine (awake11 _).mono ?_
        rintro e w8 ⟨rfl, hb8⟩
        have HI8 := Lib.hid ((HI7).out.below hb8)
        clear hb8 HI7 x0 x1
        obtain ⟨x0, x1⟩ := box2 (HI8).out.box
        have c0 := HI8.out.ints.cellAt 0 (by rw [HL.out]; omega)
        have c1 := HI8.out.ints.cellAt q (by rw [HL.out]; omega)
        rw [Nat.add_zero, HZ0.out] at c0
        rw [HZ1.out] at c1
        have q0 : (0 : Int) ≤ (q : Int) := by omega
        go_wp2
        go_ret
        exact ⟨rfl, HI8.out.ext⟩
      · have d3 : decide (0 < p) = false := by simp; omega
        have E5 : Hid (bsV zs x (-1) = 0) := by show _ = _; rw [hlv]; exact atV_no (atO_low (by omega))
        have E6 : Hid (bsO zs x (-1) = false) := by show _ = _; rw [hlo]; exact atO_low (by omega)
        clear h hl hv0 hv1 hz0 hz1 hp hpv hpo hnv hno hlv hlo HR hp0 hn hb
        go_enter Try.func4, Try.ntmps4
        go_wp2_with fail
        refine (refPos_any _ _ _ _ zs _ _ HL.out HI1.out.ints).mono ?_
        rintro e w2 ⟨rfl, hb2⟩
        generalize w.alloc (.cells #[.int .i64 ep, .slice _ _ cap] 24) = w1 at *
        generalize w.heap.size = B1 at *
        rw [HIX.out]
        obtain ⟨x0, x1⟩ := box2 HI1.out.box
        have HI2 := Lib.hid ((HI1).out.below hb2)
        clear hb2 HI1 x0 x1
        obtain ⟨x0, x1⟩ := box2 (HI2).out.box
        go_wp2_with fail
        refine (cfPos_any _ _ _ _ zs _ _ HL.out HI2.out.ints).mono ?_
        rintro e w3 ⟨rfl, hb3⟩
        rw [(E1).out, (E2).out]
        have HI3 := Lib.hid ((HI2).out.below hb3)
        clear hb3 HI2 x0 x1
        obtain ⟨x0, x1⟩ := box2 (HI3).out.box
        go_wp2_with fail
        refine (cfNext_any _ _ _ _ zs _ _ HL.out HI3.out.ints).mono ?_
        rintro e w4 ⟨rfl, hb4⟩
        rw [(E3).out, (E4).out]
        have HI4 := Lib.hid ((HI3).out.below hb4)
        clear hb4 HI3 x0 x1
        obtain ⟨x0, x1⟩ := box2 (HI4).out.box
        go_wp2_with fail
        refine (cfPrev_any _ _ _ _ zs _ _ HL.out HI4.out.ints).mono ?_
        rintro e w5 ⟨rfl, hb5⟩
        rw [(E5).out, (E6).out]
        have HI5 := Lib.hid ((HI4).out.below hb5)
        clear hb5 HI4 x0 x1
        obtain ⟨x0, x1⟩ := box2 (HI5).out.box
        have cn := HI5.out.ints.cellI (p + 1) n0 (by rw [HL.out]; omega)
        generalize atV zs (p + 1) = y1 at *
        go_wp2_with fail
        refine (cfHead_any _ _ _ _ zs _ HL.out HI5.out.ints).mono ?_
        rintro e w6 ⟨rfl, hb6⟩
        rw [EH.out.1, EH.out.2]
        have HI6 := Lib.hid ((HI5).out.below hb6)
        clear hb6 HI5 x0 x1
        obtain ⟨x0, x1⟩ := box2 (HI6).out.box
        go_wp2_with fail
        refine (cfTail_any _ _ _ _ zs _ HL.out HI6.out.ints).mono ?_
        rintro e w7 ⟨rfl, hb7⟩
        rw [ET.out.1, ET.out.2]
        have HI7 := Lib.hid ((HI6).out.below hb7)
        clear hb7 HI6 x0 x1
        obtain ⟨x0, x1⟩ := box2 (HI7).out.box
        go_wp2_with fail
        refine (awake11 _).mono ?_
        rintro e w8 ⟨rfl, hb8⟩
        have HI8 := Lib.hid ((HI7).out.below hb8)
        clear hb8 HI7 x0 x1
        obtain ⟨x0, x1⟩ := box2 (HI8).out.box
        have c0 := HI8.out.ints.cellAt 0 (by rw [HL.out]; omega)
        have c1 := HI8.out.ints.cellAt q (by rw [HL.out]; omega)
        rw [Nat.add_zero, HZ0.out] at c0
        rw [HZ1.out] at c1
        have q0 : (0 : Int) ≤ (q : Int) := by omega
        go_wp2
        go_ret
        exact ⟨rfl, HI8.out.ext⟩
    · have d2 : decide (p < (q : Int)) = false := by simp; omega
      have E3 : Hid (bsV zs x 1 = 0) := by show _ = _; rw [hnv]; exact atV_no (by rw [hl]; exact atO_high (by omega))
      have E4 : Hid (bsO zs x 1 = false) := by show _ = _; rw [hno]; exact atO_high (by omega)
      by_cases hb : 0 < p
      · have d3 : decide (0 < p) = true := by simp; exact hb
        have b0 : 0 ≤ p - 1 := by omega
        have b1 : p - 1 < (q : Int) + 1 := by omega
        have E5 := Lib.hid hlv
        have E6 : Hid (bsO zs x (-1) = true) := by show _ = _; rw [hlo]; exact atO_yes (by omega) (by omega)
        clear h hl hv0 hv1 hz0 hz1 hp hpv hpo hnv hno hlv hlo HR hp0 hn hb
        go_enter Try.func4, Try.ntmps4
        go_wp2_with fail
        refine (refPos_any _ _ _ _ zs _ _ HL.out HI1.out.ints).mono ?_
        rintro e w2 ⟨rfl, hb2⟩
        generalize w.alloc (.cells #[.int .i64 ep, .slice _ _ cap] 24) = w1 at *
        generalize w.heap.size = B1 at *
        rw [HIX.out]
        obtain ⟨x0, x1⟩ := box2 HI1.out.box
        have HI2 := Lib.hid ((HI1).out.below hb2)
        clear hb2 HI1 x0 x1
        obtain ⟨x0, x1⟩ := box2 (HI2).out.box
        go_wp2_with fail
        refine (cfPos_any _ _ _ _ zs _ _ HL.out HI2.out.ints).mono ?_
        rintro e w3 ⟨rfl, hb3⟩
        rw [(E1).out, (E2).out]
        have HI3 := Lib.hid ((HI2).out.below hb3)
        clear hb3 HI2 x0 x1
        obtain ⟨x0, x1⟩ := box2 (HI3).out.box
        go_wp2_with fail
        refine (cfNext_any _ _ _ _ zs _ _ HL.out HI3.out.ints).mono ?_
        rintro e w4 ⟨rfl, hb4⟩
        rw [(E3).out, (E4).out]
        have HI4 := Lib.hid ((HI3).out.below hb4)
        clear hb4 HI3 x0 x1
        obtain ⟨x0, x1⟩ := box2 (HI4).out.box
        go_wp2_with fail
        refine (cfPrev_any _ _ _ _ zs _ _ HL.out HI4.out.ints).mono ?_
        rintro e w5 ⟨rfl, hb5⟩
        rw [(E5).out, (E6).out]
        have HI5 := Lib.hid ((HI4).out.below hb5)
        clear hb5 HI4 x0 x1
        obtain ⟨x0, x1⟩ := box2 (HI5).out.box
        have cb := HI5.out.ints.cellI (p - 1) b0 (by rw [HL.out]; omega)
        rw [show (p - 1).toNat = p.toNat - 1 by omega] at cb
        generalize atV zs (p - 1) = y2 at *
        go_wp2_with fail
        refine (cfHead_any _ _ _ _ zs _ HL.out HI5.out.ints).mono ?_
        rintro e w6 ⟨rfl, hb6⟩
        rw [EH.out.1, EH.out.2]
        have HI6 := Lib.hid ((HI5).out.below hb6)
        clear hb6 HI5 x0 x1
        obtain ⟨x0, x1⟩ := box2 (HI6).out.box
        go_wp2_with fail
        refine (cfTail_any _ _ _ _ zs _ HL.out HI6.out.ints).mono ?_
        rintro e w7 ⟨rfl, hb7⟩
        rw [ET.out.1, ET.out.2]
        have HI7 := Lib.hid ((HI6).out.below hb7)
        clear hb7 HI6 x0 x1
        obtain ⟨x0, x1⟩ := box2 (HI7).out.box
        go_wp2_with fail
        refine (awake11 _).mono ?_
        rintro e w8 ⟨rfl, hb8⟩
        have HI8 := Lib.hid ((HI7).out.below hb8)
        clear hb8 HI7 x0 x1
        obtain ⟨x0, x1⟩ := box2 (HI8).out.box
        have c0 := HI8.out.ints.cellAt 0 (by rw [HL.out]; omega)
        have c1 := HI8.out.ints.cellAt q (by rw [HL.out]; omega)
        rw [Nat.add_zero, HZ0.out] at c0
        rw [HZ1.out] at c1
        have q0 : (0 : Int) ≤ (q : Int) := by omega
        go_wp2
        go_ret
        exact ⟨rfl, HI8.out.ext⟩
      · have d3 : decide (0 < p) = false := by simp; omega
        have E5 : Hid (bsV zs x (-1) = 0) := by show _ = _; rw [hlv]; exact atV_no (atO_low (by omega))
        have E6 : Hid (bsO zs x (-1) = false) := by show _ = _; rw [hlo]; exact atO_low (by omega)
        clear h hl hv0 hv1 hz0 hz1 hp hpv hpo hnv hno hlv hlo HR hp0 hn hb
        go_enter Try.func4, Try.ntmps4
        go_wp2_with fail
        refine (refPos_any _ _ _ _ zs _ _ HL.out HI1.out.ints).mono ?_
        rintro e w2 ⟨rfl, hb2⟩
        generalize w.alloc (.cells #[.int .i64 ep, .slice _ _ cap] 24) = w1 at *
        generalize w.heap.size = B1 at *
        rw [HIX.out]
        obtain ⟨x0, x1⟩ := box2 HI1.out.box
        have HI2 := Lib.hid ((HI1).out.below hb2)
        clear hb2 HI1 x0 x1
        obtain ⟨x0, x1⟩ := box2 (HI2).out.box
        go_wp2_with fail
        refine (cfPos_any _ _ _ _ zs _ _ HL.out HI2.out.ints).mono ?_
        rintro e w3 ⟨rfl, hb3⟩
        rw [(E1).out, (E2).out]
        have HI3 := Lib.hid ((HI2).out.below hb3)
        clear hb3 HI2 x0 x1
        obtain ⟨x0, x1⟩ := box2 (HI3).out.box
        go_wp2_with fail
        refine (cfNext_any _ _ _ _ zs _ _ HL.out HI3.out.ints).mono ?_
        rintro e w4 ⟨rfl, hb4⟩
        rw [(E3).out, (E4).out]
        have HI4 := Lib.hid ((HI3).out.below hb4)
        clear hb4 HI3 x0 x1
        obtain ⟨x0, x1⟩ := box2 (HI4).out.box
        go_wp2_with fail
        refine (cfPrev_any _ _ _ _ zs _ _ HL.out HI4.out.ints).mono ?_
        rintro e w5 ⟨rfl, hb5⟩
        rw [(E5).out, (E6).out]
        have HI5 := Lib.hid ((HI4).out.below hb5)
        clear hb5 HI4 x0 x1
        obtain ⟨x0, x1⟩ := box2 (HI5).out.box
        go_wp2_with fail
        refine (cfHead_any _ _ _ _ zs _ HL.out HI5.out.ints).mono ?_
        rintro e w6 ⟨rfl, hb6⟩
        rw [EH.out.1, EH.out.2]
        have HI6 := Lib.hid ((HI5).out.below hb6)
        clear hb6 HI5 x0 x1
        obtain ⟨x0, x1⟩ := box2 (HI6).out.box
        go_wp2_with fail
        refine (cfTail_any _ _ _ _ zs _ HL.out HI6.out.ints).mono ?_
        rintro e w7 ⟨rfl, hb7⟩
        rw [ET.out.1, ET.out.2]
        have HI7 := Lib.hid ((HI6).out.below hb7)
        clear hb7 HI6 x0 x1
        obtain ⟨x0, x1⟩ := box2 (HI7).out.box
        go_wp2_with fail
        refine (awake11 _).mono ?_
        rintro e w8 ⟨rfl, hb8⟩
        have HI8 := Lib.hid ((HI7).out.below hb8)
        clear hb8 HI7 x0 x1
        obtain ⟨x0, x1⟩ := box2 (HI8).out.box
        have c0 := HI8.out.ints.cellAt 0 (by rw [HL.out]; omega)
        have c1 := HI8.out.ints.cellAt q (by rw [HL.out]; omega)
        rw [Nat.add_zero, HZ0.out] at c0
        rw [HZ1.out] at c1
        have q0 : (0 : Int) ≤ (q : Int) := by omega
        go_wp2
        go_ret
        exact ⟨rfl, HI8.out.ext⟩

theorem confPlaces_walk (ep : Int) (a : Option Addr) (cap : Nat) (zs : List Int) (x : Int) (w : World) (h : (-9223372036854775808 ≤ ep ∧ ep ≤ 9223372036854775807) ∧ IntsAt w a cap zs) (_hx : (Lit.int .i64 x).wf = true) :
    Calls Try.prog 4 #[.agg #[.int .i64 ep, .slice a zs.length cap], .int .i64 x] w fun e w' => e = .returned (.bool true) ∧ Below w.heap.size w w' := by
  by_cases hb : 300 < zs.length
  · exact confPlaces_big ep a cap zs.length x w hb
  · cases hz : zs.length with
    | zero =>
      obtain rfl : zs = [] := List.length_eq_zero_iff.mp hz
      exact confPlaces_none ep a cap x w h.2
    | succ q =>
      obtain ⟨b, off, rfl, _⟩ := h.2.cell 0 (by omega)
      exact confPlaces_some ep b off cap q zs x w h.2 hz (by omega)

end Go.Proofs.Ytepimdkpkfbgcaa
