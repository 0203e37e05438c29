/-
  The walks of the laws MatMuls and MatChains.
-/
import Derived.Test.YtfldocibbjgdkaaAwake2
namespace Go.Proofs.Ytfldocibbjgdkaa
open Go.RowKit

theorem cut_at (va : Option Addr) (vc l : Nat) (m : List (List Nat)) (w : World) (hG : GridAt w va vc m) (hl : m.length = l) :
    Calls Try.prog 8 #[.slice va l vc] w (RetM w (ctM m).length (ctM m)) := by
  subst hl; exact cut_any va vc m w hG

theorem ctM_le (m : List (List Nat)) : (ctM m).length ≤ 12 := by rw [ctM_len]; omega
theorem ctM_row (m : List (List Nat)) (i : Nat) : ((ctM m).getD i []).length ≤ 12 := by
  by_cases h : i < (ctM m).length
  · rw [ctM_len] at h
    rw [ctM_get m i (by omega), List.length_take]; omega
  · rw [show (ctM m).getD i [] = [] by rw [List.getD_eq_getElem?_getD, List.getElem?_eq_none (by omega)]; rfl]; simp






set_option maxRecDepth 100000 in
set_option maxHeartbeats 4000000 in
theorem matMuls_walk (a0 : Option Addr) (len0 cap0 : Nat) (m0 : List (List Nat)) (a1 : Option Addr) (len1 cap1 : Nat) (m1 : List (List Nat)) (w : World) (w0 : m0.length = len0 ∧ GridAt w a0 cap0 m0) (w1 : m1.length = len1 ∧ GridAt w a1 cap1 m1) :
    Calls Try.prog 3 #[.slice a0 len0 cap0, .slice a1 len1 cap1] w fun e w' => e = .returned (.bool true) ∧ Below w.heap.size w w' := by
  have HL0 := Lib.hid w0.1
  have HG0 := Lib.hid w0.2
  have HL1 := Lib.hid w1.1
  have HG1 := Lib.hid w1.2
  have la := ctM_le m0
  have lb := ctM_le m1
  have HLA := Lib.hid (ctM_row m0)
  have HLB := Lib.hid (ctM_row m1)
  clear w0 w1
  by_cases sa : Sd (ctM m0)
  · have HSA := Lib.hid sa
    by_cases sb : Sd (ctM m1)
    · have HSB := Lib.hid sb
      have hB0 := sb.1
      by_cases hf : ((ctM m0).getD 0 []).length = (ctM m1).length
      · have HF := Lib.hid hf
        clear sa sb hf
        go_enter Try.func3, Try.ntmps3
        go_wp2_with fail
        refine (cut_at _ _ _ _ _ HG0.out HL0.out).mono ?_
        rintro e w1 ⟨_, GA, CA, ga, ca, rfl, hA1, hb1⟩
        have HA1 := Lib.hid hA1.gridAt
        have HB1 := Lib.hid hb1
        clear hA1 hb1
        go_wp2_with fail
        refine (cut_at _ _ _ _ _ (HG1.out.below HB1.out) HL1.out).mono ?_
        rintro e w2 ⟨_, GB, CB, gb, cb, rfl, hB2, hb2⟩
        have HBB2 := Lib.hid hB2.gridAt
        have HA2 := Lib.hid (HA1.out.below hb2)
        have HB2 := Lib.hid (HB1.out.trans (hb2.mono HB1.out.size))
        clear hB2 hb2 HA1 HB1
        generalize hA : ctM m0 = A at *
        generalize hB : ctM m1 = B at *
        clear hA hB
        go_wp2_with fail
        refine (matMul_yes _ _ _ _ _ _ _ HA2.out HBB2.out HSA.out HSB.out HF.out (by omega) (by have := HLB.out 0; omega)).mono ?_
        rintro e w3 ⟨hml, GM, CM, gm, cm, rfl, hM3, hb3⟩
        have HML := Lib.hid hml
        have HM3 := Lib.hid hM3.gridAt
        have HA3 := Lib.hid (HA2.out.below hb3)
        have HBB3 := Lib.hid (HBB2.out.below hb3)
        have HB3 := Lib.hid (HB2.out.trans (hb3.mono HB2.out.size))
        clear hM3 hb3 hml HA2 HBB2 HB2
        go_wp2_with fail
        refine (rsound_yes _ _ _ _ HA3.out HSA.out).mono ?_
        rintro e w4 ⟨rfl, hb4⟩
        have HA4 := Lib.hid (HA3.out.below hb4)
        have HBB4 := Lib.hid (HBB3.out.below hb4)
        have HB4 := Lib.hid (HB3.out.trans (hb4.mono HB3.out.size))
        have HW4 := Lib.hid hb4
        clear hb4
        go_wp2_with fail
        refine (rsound_yes _ _ _ _ HBB4.out HSB.out).mono ?_
        rintro e w5 ⟨rfl, hb5⟩
        have HA5 := Lib.hid (HA4.out.below hb5)
        have HBB5 := Lib.hid (HBB4.out.below hb5)
        have HB5 := Lib.hid (HB4.out.trans (hb5.mono HB4.out.size))
        have HW5 := Lib.hid (HW4.out.trans (hb5.mono HW4.out.size))
        clear hb5
        have HM5 := Lib.hid (HM3.out.below HW5.out)
        obtain ⟨b0, off0, ra, rc, e0, hc0, _⟩ := HA5.out.at 0 HSA.out.1
        cases e0
        rw [HF.out] at hc0
        have t0 : ((B.length : Int) != (B.length : Int)) = false := by simp
        have t1 : (0 : Int) < (A.length : Int) := by have := HSA.out.1; omega
        have hc0' : w5.cell? ⟨GA, 0, none⟩ = some (.slice ra B.length rc) := hc0
        clear hc0
        go_wp2_with fail
        refine (awake_any _).mono ?_
        rintro e w6 ⟨rfl, hb6⟩
        have HA6 := Lib.hid (HA5.out.below hb6)
        have HBB6 := Lib.hid (HBB5.out.below hb6)
        have HM6 := Lib.hid (HM5.out.below hb6)
        have HB6 := Lib.hid (HB5.out.trans (hb6.mono HB5.out.size))
        clear hb6 t0 t1 hc0'
        go_wp2_with fail
        refine (product_any _ _ _ _ _ _ _ HA6.out HBB6.out HSA.out HSB.out HF.out (by omega) (by have := HLB.out 0; omega) (by omega)).mono ?_
        rintro e w7 ⟨hpl, GP, CP, gp, cp, rfl, hP7, hb7⟩
        have HP7 := Lib.hid hP7.gridAt
        have HM7 := Lib.hid (HM6.out.below hb7)
        have HB7 := Lib.hid (HB6.out.trans (hb7.mono HB6.out.size))
        have HPL := Lib.hid hpl
        have HE := Lib.hid (prod_eq A B HSB.out HA6.out.by HBB6.out.by)
        clear hP7 hb7 hpl
        go_wp2_with fail
        refine (same_at _ _ _ _ _ _ _ _ _ HM7.out HP7.out HE.out HML.out HPL.out).mono ?_
        rintro e w8 ⟨rfl, hb8⟩
        go_wp2
        go_ret
        exact ⟨rfl, HB7.out.trans (hb8.mono HB7.out.size)⟩
      · have HF := Lib.hid hf
        have HNO : Hid (¬ (Sd (ctM m0) ∧ Sd (ctM m1) ∧ ((ctM m0).getD 0 []).length = (ctM m1).length)) := fun h => hf h.2.2
        clear sa sb hf
        go_enter Try.func3, Try.ntmps3
        go_wp2_with fail
        refine (cut_at _ _ _ _ _ HG0.out HL0.out).mono ?_
        rintro e w1 ⟨_, GA, CA, ga, ca, rfl, hA1, hb1⟩
        have HA1 := Lib.hid hA1.gridAt
        have HB1 := Lib.hid hb1
        clear hA1 hb1
        go_wp2_with fail
        refine (cut_at _ _ _ _ _ (HG1.out.below HB1.out) HL1.out).mono ?_
        rintro e w2 ⟨_, GB, CB, gb, cb, rfl, hB2, hb2⟩
        have HBB2 := Lib.hid hB2.gridAt
        have HA2 := Lib.hid (HA1.out.below hb2)
        have HB2 := Lib.hid (HB1.out.trans (hb2.mono HB1.out.size))
        clear hB2 hb2 HA1 HB1
        generalize hA : ctM m0 = A at *
        generalize hB : ctM m1 = B at *
        clear hA hB
        go_wp2_with fail
        refine (matMul_no _ _ _ _ _ _ _ HA2.out HBB2.out HNO.out).mono ?_
        rintro e w3 ⟨rfl, hb3⟩
        have HA3 := Lib.hid (HA2.out.below hb3)
        have HBB3 := Lib.hid (HBB2.out.below hb3)
        have HB3 := Lib.hid (HB2.out.trans (hb3.mono HB2.out.size))
        clear hb3 HA2 HBB2 HB2
        go_wp2_with fail
        refine (rsound_yes _ _ _ _ HA3.out HSA.out).mono ?_
        rintro e w4 ⟨rfl, hb4⟩
        have HA4 := Lib.hid (HA3.out.below hb4)
        have HBB4 := Lib.hid (HBB3.out.below hb4)
        have HB4 := Lib.hid (HB3.out.trans (hb4.mono HB3.out.size))
        have HW4 := Lib.hid hb4
        clear hb4
        go_wp2_with fail
        refine (rsound_yes _ _ _ _ HBB4.out HSB.out).mono ?_
        rintro e w5 ⟨rfl, hb5⟩
        have HA5 := Lib.hid (HA4.out.below hb5)
        have HBB5 := Lib.hid (HBB4.out.below hb5)
        have HB5 := Lib.hid (HB4.out.trans (hb5.mono HB4.out.size))
        have HW5 := Lib.hid (HW4.out.trans (hb5.mono HW4.out.size))
        clear hb5
        obtain ⟨b0, off0, ra, rc, e0, hc0, _⟩ := HA5.out.at 0 HSA.out.1
        cases e0
        generalize (A.getD 0 []).length = l at *
        have t0 : ((l : Int) != (B.length : Int)) = true := by have := HF.out; simp; omega
        have t1 : (0 : Int) < (A.length : Int) := by have := HSA.out.1; omega
        have hc0' : w5.cell? ⟨GA, 0, none⟩ = some (.slice ra l rc) := hc0
        clear hc0
        go_wp2_with fail
        refine (awake_any _).mono ?_
        rintro e w6 ⟨rfl, hb6⟩
        have HA6 := Lib.hid (HA5.out.below hb6)
        have HBB6 := Lib.hid (HBB5.out.below hb6)
        have HB6 := Lib.hid (HB5.out.trans (hb6.mono HB5.out.size))
        clear hb6
        go_wp2_with fail
        refine (sound_yes _ _ _ _ HA6.out HSA.out).mono ?_
        rintro e w7 ⟨rfl, hb7⟩
        have HA7 := Lib.hid (HA6.out.below hb7)
        have HBB7 := Lib.hid (HBB6.out.below hb7)
        have HB7 := Lib.hid (HB6.out.trans (hb7.mono HB6.out.size))
        clear hb7
        go_wp2_with fail
        refine (rsound_yes _ _ _ _ HA7.out HSA.out).mono ?_
        rintro e w8 ⟨rfl, hb8⟩
        have HBB8 := Lib.hid (HBB7.out.below hb8)
        have HB8 := Lib.hid (HB7.out.trans (hb8.mono HB7.out.size))
        clear hb8
        go_wp2_with fail
        refine (sound_yes _ _ _ _ HBB8.out HSB.out).mono ?_
        rintro e w9 ⟨rfl, hb9⟩
        have HBB9 := Lib.hid (HBB8.out.below hb9)
        have HB9 := Lib.hid (HB8.out.trans (hb9.mono HB8.out.size))
        clear hb9
        go_wp2_with fail
        refine (rsound_yes _ _ _ _ HBB9.out HSB.out).mono ?_
        rintro e w10 ⟨rfl, hb10⟩
        have HB10 := Lib.hid (HB9.out.trans (hb10.mono HB9.out.size))
        clear hb10
        go_wp2
        go_ret
        exact ⟨rfl, HB10.out⟩
    · have HSB := Lib.hid sb
      have HNO : Hid (¬ (Sd (ctM m0) ∧ Sd (ctM m1) ∧ ((ctM m0).getD 0 []).length = (ctM m1).length)) := fun h => sb h.2.1
      clear sa sb
      go_enter Try.func3, Try.ntmps3
      go_wp2_with fail
      refine (cut_at _ _ _ _ _ HG0.out HL0.out).mono ?_
      rintro e w1 ⟨_, GA, CA, ga, ca, rfl, hA1, hb1⟩
      have HA1 := Lib.hid hA1.gridAt
      have HB1 := Lib.hid hb1
      clear hA1 hb1
      go_wp2_with fail
      refine (cut_at _ _ _ _ _ (HG1.out.below HB1.out) HL1.out).mono ?_
      rintro e w2 ⟨_, GB, CB, gb, cb, rfl, hB2, hb2⟩
      have HBB2 := Lib.hid hB2.gridAt
      have HA2 := Lib.hid (HA1.out.below hb2)
      have HB2 := Lib.hid (HB1.out.trans (hb2.mono HB1.out.size))
      clear hB2 hb2 HA1 HB1
      generalize hA : ctM m0 = A at *
      generalize hB : ctM m1 = B at *
      clear hA hB
      go_wp2_with fail
      refine (matMul_no _ _ _ _ _ _ _ HA2.out HBB2.out HNO.out).mono ?_
      rintro e w3 ⟨rfl, hb3⟩
      have HA3 := Lib.hid (HA2.out.below hb3)
      have HBB3 := Lib.hid (HBB2.out.below hb3)
      have HB3 := Lib.hid (HB2.out.trans (hb3.mono HB2.out.size))
      clear hb3 HA2 HBB2 HB2
      go_wp2_with fail
      refine (rsound_yes _ _ _ _ HA3.out HSA.out).mono ?_
      rintro e w4 ⟨rfl, hb4⟩
      have HA4 := Lib.hid (HA3.out.below hb4)
      have HBB4 := Lib.hid (HBB3.out.below hb4)
      have HB4 := Lib.hid (HB3.out.trans (hb4.mono HB3.out.size))
      have HW4 := Lib.hid hb4
      clear hb4
      go_wp2_with fail
      refine (rsound_no _ _ _ _ HBB4.out HSB.out).mono ?_
      rintro e w5 ⟨rfl, hb5⟩
      have HA5 := Lib.hid (HA4.out.below hb5)
      have HBB5 := Lib.hid (HBB4.out.below hb5)
      have HB5 := Lib.hid (HB4.out.trans (hb5.mono HB4.out.size))
      have HW5 := Lib.hid (HW4.out.trans (hb5.mono HW4.out.size))
      clear hb5
      go_wp2_with fail
      refine (awake_any _).mono ?_
      rintro e w6 ⟨rfl, hb6⟩
      have HA6 := Lib.hid (HA5.out.below hb6)
      have HBB6 := Lib.hid (HBB5.out.below hb6)
      have HB6 := Lib.hid (HB5.out.trans (hb6.mono HB5.out.size))
      clear hb6
      go_wp2_with fail
      refine (sound_yes _ _ _ _ HA6.out HSA.out).mono ?_
      rintro e w7 ⟨rfl, hb7⟩
      have HA7 := Lib.hid (HA6.out.below hb7)
      have HBB7 := Lib.hid (HBB6.out.below hb7)
      have HB7 := Lib.hid (HB6.out.trans (hb7.mono HB6.out.size))
      clear hb7
      go_wp2_with fail
      refine (rsound_yes _ _ _ _ HA7.out HSA.out).mono ?_
      rintro e w8 ⟨rfl, hb8⟩
      have HBB8 := Lib.hid (HBB7.out.below hb8)
      have HB8 := Lib.hid (HB7.out.trans (hb8.mono HB7.out.size))
      clear hb8
      go_wp2_with fail
      refine (sound_no _ _ _ _ HBB8.out HSB.out).mono ?_
      rintro e w9 ⟨rfl, hb9⟩
      have HBB9 := Lib.hid (HBB8.out.below hb9)
      have HB9 := Lib.hid (HB8.out.trans (hb9.mono HB8.out.size))
      clear hb9
      go_wp2_with fail
      refine (rsound_no _ _ _ _ HBB9.out HSB.out).mono ?_
      rintro e w10 ⟨rfl, hb10⟩
      have HB10 := Lib.hid (HB9.out.trans (hb10.mono HB9.out.size))
      clear hb10
      go_wp2
      go_ret
      exact ⟨rfl, HB10.out⟩
  · have HSA := Lib.hid sa
    have HNO : Hid (¬ (Sd (ctM m0) ∧ Sd (ctM m1) ∧ ((ctM m0).getD 0 []).length = (ctM m1).length)) := fun h => sa h.1
    by_cases sb : Sd (ctM m1)
    · have HSB := Lib.hid sb
      clear sa sb
      go_enter Try.func3, Try.ntmps3
      go_wp2_with fail
      refine (cut_at _ _ _ _ _ HG0.out HL0.out).mono ?_
      rintro e w1 ⟨_, GA, CA, ga, ca, rfl, hA1, hb1⟩
      have HA1 := Lib.hid hA1.gridAt
      have HB1 := Lib.hid hb1
      clear hA1 hb1
      go_wp2_with fail
      refine (cut_at _ _ _ _ _ (HG1.out.below HB1.out) HL1.out).mono ?_
      rintro e w2 ⟨_, GB, CB, gb, cb, rfl, hB2, hb2⟩
      have HBB2 := Lib.hid hB2.gridAt
      have HA2 := Lib.hid (HA1.out.below hb2)
      have HB2 := Lib.hid (HB1.out.trans (hb2.mono HB1.out.size))
      clear hB2 hb2 HA1 HB1
      generalize hA : ctM m0 = A at *
      generalize hB : ctM m1 = B at *
      clear hA hB
      go_wp2_with fail
      refine (matMul_no _ _ _ _ _ _ _ HA2.out HBB2.out HNO.out).mono ?_
      rintro e w3 ⟨rfl, hb3⟩
      have HA3 := Lib.hid (HA2.out.below hb3)
      have HBB3 := Lib.hid (HBB2.out.below hb3)
      have HB3 := Lib.hid (HB2.out.trans (hb3.mono HB2.out.size))
      clear hb3 HA2 HBB2 HB2
      go_wp2_with fail
      refine (rsound_no _ _ _ _ HA3.out HSA.out).mono ?_
      rintro e w4 ⟨rfl, hb4⟩
      have HA4 := Lib.hid (HA3.out.below hb4)
      have HBB4 := Lib.hid (HBB3.out.below hb4)
      have HB4 := Lib.hid (HB3.out.trans (hb4.mono HB3.out.size))
      have HW4 := Lib.hid hb4
      clear hb4
      have HA5 := HA4
      have HBB5 := HBB4
      have HB5 := HB4
      go_wp2_with fail
      refine (awake_any _).mono ?_
      rintro e w6 ⟨rfl, hb6⟩
      have HA6 := Lib.hid (HA5.out.below hb6)
      have HBB6 := Lib.hid (HBB5.out.below hb6)
      have HB6 := Lib.hid (HB5.out.trans (hb6.mono HB5.out.size))
      clear hb6
      go_wp2_with fail
      refine (sound_no _ _ _ _ HA6.out HSA.out).mono ?_
      rintro e w7 ⟨rfl, hb7⟩
      have HA7 := Lib.hid (HA6.out.below hb7)
      have HBB7 := Lib.hid (HBB6.out.below hb7)
      have HB7 := Lib.hid (HB6.out.trans (hb7.mono HB6.out.size))
      clear hb7
      go_wp2_with fail
      refine (rsound_no _ _ _ _ HA7.out HSA.out).mono ?_
      rintro e w8 ⟨rfl, hb8⟩
      have HBB8 := Lib.hid (HBB7.out.below hb8)
      have HB8 := Lib.hid (HB7.out.trans (hb8.mono HB7.out.size))
      clear hb8
      go_wp2_with fail
      refine (sound_yes _ _ _ _ HBB8.out HSB.out).mono ?_
      rintro e w9 ⟨rfl, hb9⟩
      have HBB9 := Lib.hid (HBB8.out.below hb9)
      have HB9 := Lib.hid (HB8.out.trans (hb9.mono HB8.out.size))
      clear hb9
      go_wp2_with fail
      refine (rsound_yes _ _ _ _ HBB9.out HSB.out).mono ?_
      rintro e w10 ⟨rfl, hb10⟩
      have HB10 := Lib.hid (HB9.out.trans (hb10.mono HB9.out.size))
      clear hb10
      go_wp2
      go_ret
      exact ⟨rfl, HB10.out⟩
    · have HSB := Lib.hid sb
      clear sa sb
      go_enter Try.func3, Try.ntmps3
      go_wp2_with fail
      refine (cut_at _ _ _ _ _ HG0.out HL0.out).mono ?_
      rintro e w1 ⟨_, GA, CA, ga, ca, rfl, hA1, hb1⟩
      have HA1 := Lib.hid hA1.gridAt
      have HB1 := Lib.hid hb1
      clear hA1 hb1
      go_wp2_with fail
      refine (cut_at _ _ _ _ _ (HG1.out.below HB1.out) HL1.out).mono ?_
      rintro e w2 ⟨_, GB, CB, gb, cb, rfl, hB2, hb2⟩
      have HBB2 := Lib.hid hB2.gridAt
      have HA2 := Lib.hid (HA1.out.below hb2)
      have HB2 := Lib.hid (HB1.out.trans (hb2.mono HB1.out.size))
      clear hB2 hb2 HA1 HB1
      generalize hA : ctM m0 = A at *
      generalize hB : ctM m1 = B at *
      clear hA hB
      go_wp2_with fail
      refine (matMul_no _ _ _ _ _ _ _ HA2.out HBB2.out HNO.out).mono ?_
      rintro e w3 ⟨rfl, hb3⟩
      have HA3 := Lib.hid (HA2.out.below hb3)
      have HBB3 := Lib.hid (HBB2.out.below hb3)
      have HB3 := Lib.hid (HB2.out.trans (hb3.mono HB2.out.size))
      clear hb3 HA2 HBB2 HB2
      go_wp2_with fail
      refine (rsound_no _ _ _ _ HA3.out HSA.out).mono ?_
      rintro e w4 ⟨rfl, hb4⟩
      have HA4 := Lib.hid (HA3.out.below hb4)
      have HBB4 := Lib.hid (HBB3.out.below hb4)
      have HB4 := Lib.hid (HB3.out.trans (hb4.mono HB3.out.size))
      have HW4 := Lib.hid hb4
      clear hb4
      have HA5 := HA4
      have HBB5 := HBB4
      have HB5 := HB4
      go_wp2_with fail
      refine (awake_any _).mono ?_
      rintro e w6 ⟨rfl, hb6⟩
      have HA6 := Lib.hid (HA5.out.below hb6)
      have HBB6 := Lib.hid (HBB5.out.below hb6)
      have HB6 := Lib.hid (HB5.out.trans (hb6.mono HB5.out.size))
      clear hb6
      go_wp2_with fail
      refine (sound_no _ _ _ _ HA6.out HSA.out).mono ?_
      rintro e w7 ⟨rfl, hb7⟩
      have HA7 := Lib.hid (HA6.out.below hb7)
      have HBB7 := Lib.hid (HBB6.out.below hb7)
      have HB7 := Lib.hid (HB6.out.trans (hb7.mono HB6.out.size))
      clear hb7
      go_wp2_with fail
      refine (rsound_no _ _ _ _ HA7.out HSA.out).mono ?_
      rintro e w8 ⟨rfl, hb8⟩
      have HBB8 := Lib.hid (HBB7.out.below hb8)
      have HB8 := Lib.hid (HB7.out.trans (hb8.mono HB7.out.size))
      clear hb8
      go_wp2_with fail
      refine (sound_no _ _ _ _ HBB8.out HSB.out).mono ?_
      rintro e w9 ⟨rfl, hb9⟩
      have HBB9 := Lib.hid (HBB8.out.below hb9)
      have HB9 := Lib.hid (HB8.out.trans (hb9.mono HB8.out.size))
      clear hb9
      go_wp2_with fail
      refine (rsound_no _ _ _ _ HBB9.out HSB.out).mono ?_
      rintro e w10 ⟨rfl, hb10⟩
      have HB10 := Lib.hid (HB9.out.trans (hb10.mono HB9.out.size))
      clear hb10
      go_wp2
      go_ret
      exact ⟨rfl, HB10.out⟩

end Go.Proofs.Ytfldocibbjgdkaa
