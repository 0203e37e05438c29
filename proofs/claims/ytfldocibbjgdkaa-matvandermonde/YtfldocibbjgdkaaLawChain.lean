/-
  The walk of the law MatChains.
-/
import Derived.Test.YtfldocibbjgdkaaLawMul
namespace Go.Proofs.Ytfldocibbjgdkaa
open Go.RowKit

theorem bytes_of (r : List Nat) (h : ∀ j, j < r.length → r.getD j 0 < 256) : Gf.Bytes r := by
  intro x hx
  obtain ⟨j, hj, rfl⟩ := List.mem_iff_getElem.mp hx
  have := h j hj
  rw [List.getD_eq_getElem?_getD, List.getElem?_eq_getElem hj] at this
  exact this

theorem mprod_sd (a b : List (List Nat)) (sa : Sd a) (sb : Sd b) : Sd (mprod a b) :=
  ⟨by rw [mprod_len]; exact sa.1, by rw [mprod_row a b 0 sa.1]; exact sb.2.1, fun i hi => by rw [mprod_len] at hi; rw [mprod_row a b i hi, mprod_row a b 0 sa.1]⟩

theorem by_mprod (a b : List (List Nat)) (sb : Sd b) (ba : Mt.By a) (bb : Mt.By b) : Mt.By (mprod a b) := by
  intro i
  by_cases hi : i < a.length
  · refine bytes_of _ fun j _ => ?_
    show Mt.en (mprod a b) i j < 256
    rw [mprod_en a b sb ba bb i j hi]
    exact Mt.xs_lt _ _ fun l _ => Gf.gm_lt _ _ (ba.lt i l)
  · rw [show (mprod a b).getD i [] = [] by rw [List.getD_eq_getElem?_getD, List.getElem?_eq_none (by rw [mprod_len]; omega)]; rfl]
    exact bytes_nil

theorem mprod_assoc (a b c : List (List Nat)) (sa : Sd a) (sb : Sd b) (sc : Sd c) (ba : Mt.By a) (bb : Mt.By b) (bc : Mt.By c) :
    mprod (mprod a b) c = mprod a (mprod b c) := by
  have sab := mprod_sd a b sa sb
  have sbc := mprod_sd b c sb sc
  have bab := by_mprod a b sb ba bb
  have bbc := by_mprod b c sc bb bc
  refine mat_congr _ _ (c.getD 0 []).length (by rw [mprod_len, mprod_len, mprod_len]) (fun i hi => ?_) (fun i hi => ?_) (fun i hi k hk => ?_)
  · rw [mprod_len] at hi; exact mprod_row _ _ i hi
  · rw [mprod_len, mprod_len] at hi; rw [mprod_row _ _ i hi, mprod_row b c 0 sb.1]
  · rw [mprod_len, mprod_len] at hi
    rw [mprod_en _ _ sc bab bc i k (by rw [mprod_len]; exact hi), mprod_en _ _ sbc ba bbc i k hi, mprod_len]
    have e1 : ∀ l, l < c.length → Gf.gm (Mt.en (mprod a b) i l) (Mt.en c l k) = Mt.xs b.length fun j => Gf.gm (Mt.en a i j) (Gf.gm (Mt.en b j l) (Mt.en c l k)) := by
      intro l _
      rw [mprod_en a b sb ba bb i l hi, Mt.xs_gm]
      apply Mt.xs_congr
      intro j _
      exact Gf.gm_assoc _ _ _ (ba.lt i j) (bb.lt j l) (bc.lt l k)
    have e2 : ∀ j, j < b.length → Gf.gm (Mt.en a i j) (Mt.en (mprod b c) j k) = Mt.xs c.length fun l => Gf.gm (Mt.en a i j) (Gf.gm (Mt.en b j l) (Mt.en c l k)) := by
      intro j hj
      rw [mprod_en b c sc bb bc j k hj, Mt.gm_xs]
    rw [Mt.xs_congr _ _ _ e1, Mt.xs_congr _ _ _ e2]
    exact Mt.xs_swap _ _ _

theorem ident_sq (n : Nat) : Mt.Sq n (ident n) where
  len := idK_len n n
  row i hi := idK_row n n i hi
  byte := by
    intro i
    by_cases hi : i < n
    · refine bytes_of _ fun j hj => ?_
      have hj' : j < n := by have := idK_row n n i hi; rw [ident] at hj; omega
      show Mt.en (ident n) i j < 256
      rw [ident_en n i j hi hj']
      split <;> omega
    · rw [show (ident n).getD i [] = [] by rw [List.getD_eq_getElem?_getD, List.getElem?_eq_none (by rw [ident, idK_len]; omega)]; rfl]
      exact bytes_nil

theorem mprod_ident (a : List (List Nat)) (n : Nat) (sa : Sd a) (ba : Mt.By a) (hn : (a.getD 0 []).length = n) : mprod a (ident n) = a := by
  have h0 : 0 < n := by rw [← hn]; exact sa.2.1
  have sI := Sd.of_sq (ident_sq n) h0
  refine mat_congr _ _ n (by rw [mprod_len]) (fun i hi => ?_) (fun i hi => ?_) (fun i hi k hk => ?_)
  · rw [mprod_len] at hi; rw [mprod_row _ _ i hi]; exact idK_row n n 0 h0
  · rw [mprod_len] at hi; rw [sa.2.2 i hi, hn]
  · rw [mprod_len] at hi
    rw [mprod_en a _ sI ba (ident_sq n).byte i k hi, (ident_sq n).len, Mt.xs_one n k _ hk (fun l hl hne => by rw [ident_en n l k hl hk, if_neg hne, Gf.gm_zero]), ident_en n k k hk hk, if_pos rfl, Gf.gm_one _ (ba.lt i k)]




set_option maxRecDepth 100000 in
set_option maxHeartbeats 4000000 in
theorem matChains_walk (a0 : Option Addr) (len0 cap0 : Nat) (m0 : List (List Nat)) (a1 : Option Addr) (len1 cap1 : Nat) (m1 : List (List Nat)) (a2 : Option Addr) (len2 cap2 : Nat) (m2 : List (List Nat)) (w : World)
    (w0 : m0.length = len0 ∧ GridAt w a0 cap0 m0) (w1 : m1.length = len1 ∧ GridAt w a1 cap1 m1) (w2 : m2.length = len2 ∧ GridAt w a2 cap2 m2) :
    Calls Try.prog 6 #[.slice a0 len0 cap0, .slice a1 len1 cap1, .slice a2 len2 cap2] w fun e w' => e = .returned (.bool true) ∧ Below w.heap.size w w' := by
  have HL0 := Lib.hid w0.1
  have HG0 := Lib.hid w0.2
  have HL1 := Lib.hid w1.1
  have HG1 := Lib.hid w1.2
  have HL2 := Lib.hid w2.1
  have HG2 := Lib.hid w2.2
  have la := ctM_le m0
  have lb := ctM_le m1
  have lc := ctM_le m2
  have HLA := Lib.hid (ctM_row m0)
  have HLB := Lib.hid (ctM_row m1)
  have HLC := Lib.hid (ctM_row m2)
  clear w0 w1 w2
  by_cases h1 : Sd (ctM m0) ∧ Sd (ctM m1) ∧ ((ctM m0).getD 0 []).length = (ctM m1).length
  · have HSA := Lib.hid h1.1
    have HSB := Lib.hid h1.2.1
    have HF := Lib.hid h1.2.2
    clear h1
    by_cases h2 : Sd (ctM m1) ∧ Sd (ctM m2) ∧ ((ctM m1).getD 0 []).length = (ctM m2).length
    · have HSC := Lib.hid h2.2.1
      have HF2 := Lib.hid h2.2.2
      clear h2
      go_enter Try.func6, Try.ntmps6
      go_wp2_with fail
      refine (cut_at _ _ _ _ _ HG0.out HL0.out).mono ?_
      rintro e w1 ⟨_, GA, CA, ga, ca, rfl, hA1, hb1⟩
      have HA1 := Lib.hid hA1.gridAt
      have HB1 := Lib.hid hb1
      clear hA1 hb1
      go_wp2_with fail
      refine (cut_at _ _ _ _ _ (HG1.out.below HB1.out) HL1.out).mono ?_
      rintro e w2 ⟨_, GB, CB, gb, cb, rfl, hB2, hb2⟩
      have HBB2 := Lib.hid hB2.gridAt
      have HA2 := Lib.hid (HA1.out.below hb2)
      have HB2 := Lib.hid (HB1.out.trans (hb2.mono HB1.out.size))
      clear hB2 hb2 HA1 HB1
      go_wp2_with fail
      refine (cut_at _ _ _ _ _ (HG2.out.below HB2.out) HL2.out).mono ?_
      rintro e w3 ⟨_, GC, CC, gc, cc, rfl, hC3, hb3⟩
      have HC3 := Lib.hid hC3.gridAt
      have HA3 := Lib.hid (HA2.out.below hb3)
      have HBB3 := Lib.hid (HBB2.out.below hb3)
      have HB3 := Lib.hid (HB2.out.trans (hb3.mono HB2.out.size))
      clear hC3 hb3 HA2 HBB2 HB2
      generalize hA : ctM m0 = A at *
      generalize hB : ctM m1 = B at *
      generalize hC : ctM m2 = C at *
      clear hA hB hC
      go_wp2_with fail
      refine (matMul_yes _ _ _ _ _ _ _ HA3.out HBB3.out HSA.out HSB.out HF.out (by omega) (by have := HLB.out 0; omega)).mono ?_
      rintro e w4 ⟨hxl, GX, CX, gx, cx, rfl, hX4, hb4⟩
      have HXL := Lib.hid hxl
      have HX4 := Lib.hid hX4.gridAt
      have HA4 := Lib.hid (HA3.out.below hb4)
      have HBB4 := Lib.hid (HBB3.out.below hb4)
      have HC4 := Lib.hid (HC3.out.below hb4)
      have HB4 := Lib.hid (HB3.out.trans (hb4.mono HB3.out.size))
      clear hX4 hb4 hxl HA3 HBB3 HC3 HB3
      go_wp2_with fail
      refine (matMul_yes _ _ _ _ _ _ _ HBB4.out HC4.out HSB.out HSC.out HF2.out (by omega) (by have := HLC.out 0; omega)).mono ?_
      rintro e w5 ⟨hyl, GY, CY, gy, cy, rfl, hY5, hb5⟩
      have HYL := Lib.hid hyl
      have HY5 := Lib.hid hY5.gridAt
      have HX5 := Lib.hid (HX4.out.below hb5)
      have HA5 := Lib.hid (HA4.out.below hb5)
      have HC5 := Lib.hid (HC4.out.below hb5)
      have HB5 := Lib.hid (HB4.out.trans (hb5.mono HB4.out.size))
      have HBA := Lib.hid HA4.out.by
      have HBYB := Lib.hid HBB4.out.by
      have HBYC := Lib.hid HC4.out.by
      clear hY5 hb5 hyl HX4 HA4 HC4 HB4 HBB4
      go_wp2_with fail
      refine (matMul_at _ _ _ _ _ _ _ _ _ HX5.out HC5.out (mprod_sd _ _ HSA.out HSB.out) HSC.out (by rw [mprod_row _ _ 0 HSA.out.1]; exact HF2.out) (by rw [mprod_len]; omega) (by have := HLC.out 0; omega) HXL.out rfl).mono ?_
      rintro e w6 ⟨hpl, GP, CP, gp, cp, rfl, hP6, hb6⟩
      have HPL := Lib.hid hpl
      have HP6 := Lib.hid hP6.gridAt
      have HY6 := Lib.hid (HY5.out.below hb6)
      have HA6 := Lib.hid (HA5.out.below hb6)
      have HB6 := Lib.hid (HB5.out.trans (hb6.mono HB5.out.size))
      clear hP6 hb6 hpl HX5 HY5 HA5 HC5 HB5
      go_wp2_with fail
      refine (matMul_at _ _ _ _ _ _ _ _ _ HA6.out HY6.out HSA.out (mprod_sd _ _ HSB.out HSC.out) (by rw [mprod_len]; exact HF.out) (by omega) (by rw [mprod_row _ _ 0 HSB.out.1]; have := HLC.out 0; omega) rfl HYL.out).mono ?_
      rintro e w7 ⟨hql, GQ, CQ, gq, cq, rfl, hQ7, hb7⟩
      have HQL := Lib.hid hql
      have HQ7 := Lib.hid hQ7.gridAt
      have HP7 := Lib.hid (HP6.out.below hb7)
      have HA7 := Lib.hid (HA6.out.below hb7)
      have HB7 := Lib.hid (HB6.out.trans (hb7.mono HB6.out.size))
      clear hQ7 hb7 hql HP6 HY6 HA6 HB6
      obtain ⟨b0, off0, ra, rc, e0, hc0, _⟩ := HA7.out.at 0 HSA.out.1
      cases e0
      rw [HF.out] at hc0
      have t1 : (0 : Int) < (A.length : Int) := by have := HSA.out.1; omega
      have hc0' : w7.cell? ⟨GA, 0, none⟩ = some (.slice ra B.length rc) := hc0
      clear hc0
      have hB0 := HSB.out.1
      go_wp2_with fail
      refine (one_any B.length _ (by omega) (by omega)).mono ?_
      rintro e w8 ⟨hol, GO, CO, go, co, rfl, hO8, hb8⟩
      have HOL := Lib.hid hol
      have HO8 := Lib.hid hO8.gridAt
      have HQ8 := Lib.hid (HQ7.out.below hb8)
      have HP8 := Lib.hid (HP7.out.below hb8)
      have HA8 := Lib.hid (HA7.out.below hb8)
      have HB8 := Lib.hid (HB7.out.trans (hb8.mono HB7.out.size))
      clear hO8 hb8 hol HQ7 HP7 HA7 HB7 hc0' t1
      go_wp2_with fail
      refine (matMul_at _ _ _ _ _ _ _ _ _ HA8.out HO8.out HSA.out (Sd.of_sq (ident_sq _) hB0) (by rw [(ident_sq _).len]; exact HF.out) (by omega) (by rw [(ident_sq B.length).row 0 hB0]; omega) rfl HOL.out).mono ?_
      rintro e w9 ⟨hil, GI, CI, gi, ci, rfl, hI9, hb9⟩
      have HIL := Lib.hid hil
      have HI9 := Lib.hid hI9.gridAt
      have HQ9 := Lib.hid (HQ8.out.below hb9)
      have HP9 := Lib.hid (HP8.out.below hb9)
      have HA9 := Lib.hid (HA8.out.below hb9)
      have HB9 := Lib.hid (HB8.out.trans (hb9.mono HB8.out.size))
      clear hI9 hb9 hil HQ8 HP8 HA8 HB8 HO8
      go_wp2_with fail
      refine (awake_any _).mono ?_
      rintro e w10 ⟨rfl, hb10⟩
      have HI10 := Lib.hid (HI9.out.below hb10)
      have HQ10 := Lib.hid (HQ9.out.below hb10)
      have HP10 := Lib.hid (HP9.out.below hb10)
      have HA10 := Lib.hid (HA9.out.below hb10)
      have HB10 := Lib.hid (HB9.out.trans (hb10.mono HB9.out.size))
      clear hb10 HQ9 HP9 HA9 HB9 HI9
      go_wp2_with fail
      refine (same_at _ _ _ _ _ _ _ _ _ HP10.out HQ10.out (mprod_assoc A B C HSA.out HSB.out HSC.out HBA.out HBYB.out HBYC.out) HPL.out HQL.out).mono ?_
      rintro e w11 ⟨rfl, hb11⟩
      have HI11 := Lib.hid (HI10.out.below hb11)
      have HA11 := Lib.hid (HA10.out.below hb11)
      have HB11 := Lib.hid (HB10.out.trans (hb11.mono HB10.out.size))
      clear hb11
      go_wp2_with fail
      refine (same_at _ _ _ _ _ _ _ _ _ HI11.out HA11.out (mprod_ident A B.length HSA.out HBA.out HF.out) HIL.out rfl).mono ?_
      rintro e w12 ⟨rfl, hb12⟩
      go_wp2
      go_ret
      exact ⟨rfl, HB11.out.trans (hb12.mono HB11.out.size)⟩
    · have HNO := Lib.hid h2
      clear h2
      go_enter Try.func6, Try.ntmps6
      go_wp2_with fail
      refine (cut_at _ _ _ _ _ HG0.out HL0.out).mono ?_
      rintro e w1 ⟨_, GA, CA, ga, ca, rfl, hA1, hb1⟩
      have HA1 := Lib.hid hA1.gridAt
      have HB1 := Lib.hid hb1
      clear hA1 hb1
      go_wp2_with fail
      refine (cut_at _ _ _ _ _ (HG1.out.below HB1.out) HL1.out).mono ?_
      rintro e w2 ⟨_, GB, CB, gb, cb, rfl, hB2, hb2⟩
      have HBB2 := Lib.hid hB2.gridAt
      have HA2 := Lib.hid (HA1.out.below hb2)
      have HB2 := Lib.hid (HB1.out.trans (hb2.mono HB1.out.size))
      clear hB2 hb2 HA1 HB1
      go_wp2_with fail
      refine (cut_at _ _ _ _ _ (HG2.out.below HB2.out) HL2.out).mono ?_
      rintro e w3 ⟨_, GC, CC, gc, cc, rfl, hC3, hb3⟩
      have HC3 := Lib.hid hC3.gridAt
      have HA3 := Lib.hid (HA2.out.below hb3)
      have HBB3 := Lib.hid (HBB2.out.below hb3)
      have HB3 := Lib.hid (HB2.out.trans (hb3.mono HB2.out.size))
      clear hC3 hb3 HA2 HBB2 HB2
      generalize hA : ctM m0 = A at *
      generalize hB : ctM m1 = B at *
      generalize hC : ctM m2 = C at *
      clear hA hB hC
      go_wp2_with fail
      refine (matMul_yes _ _ _ _ _ _ _ HA3.out HBB3.out HSA.out HSB.out HF.out (by omega) (by have := HLB.out 0; omega)).mono ?_
      rintro e w4 ⟨hxl, GX, CX, gx, cx, rfl, hX4, hb4⟩
      have HXL := Lib.hid hxl
      have HX4 := Lib.hid hX4.gridAt
      have HA4 := Lib.hid (HA3.out.below hb4)
      have HBB4 := Lib.hid (HBB3.out.below hb4)
      have HC4 := Lib.hid (HC3.out.below hb4)
      have HB4 := Lib.hid (HB3.out.trans (hb4.mono HB3.out.size))
      clear hX4 hb4 hxl HA3 HBB3 HC3 HB3
      go_wp2_with fail
      refine (matMul_no _ _ _ _ _ _ _ HBB4.out HC4.out HNO.out).mono ?_
      rintro e w5 ⟨rfl, hb5⟩
      have HB5 := Lib.hid (HB4.out.trans (hb5.mono HB4.out.size))
      clear hb5
      go_wp2_with fail
      refine (awake_any _).mono ?_
      rintro e w6 ⟨rfl, hb6⟩
      go_wp2
      go_ret
      exact ⟨rfl, HB5.out.trans (hb6.mono HB5.out.size)⟩
  · have HNO := Lib.hid h1
    clear h1
    by_cases h2 : Sd (ctM m1) ∧ Sd (ctM m2) ∧ ((ctM m1).getD 0 []).length = (ctM m2).length
    · have HSB := Lib.hid h2.1
      have HSC := Lib.hid h2.2.1
      have HF2 := Lib.hid h2.2.2
      clear h2
      go_enter Try.func6, Try.ntmps6
      go_wp2_with fail
      refine (cut_at _ _ _ _ _ HG0.out HL0.out).mono ?_
      rintro e w1 ⟨_, GA, CA, ga, ca, rfl, hA1, hb1⟩
      have HA1 := Lib.hid hA1.gridAt
      have HB1 := Lib.hid hb1
      clear hA1 hb1
      go_wp2_with fail
      refine (cut_at _ _ _ _ _ (HG1.out.below HB1.out) HL1.out).mono ?_
      rintro e w2 ⟨_, GB, CB, gb, cb, rfl, hB2, hb2⟩
      have HBB2 := Lib.hid hB2.gridAt
      have HA2 := Lib.hid (HA1.out.below hb2)
      have HB2 := Lib.hid (HB1.out.trans (hb2.mono HB1.out.size))
      clear hB2 hb2 HA1 HB1
      go_wp2_with fail
      refine (cut_at _ _ _ _ _ (HG2.out.below HB2.out) HL2.out).mono ?_
      rintro e w3 ⟨_, GC, CC, gc, cc, rfl, hC3, hb3⟩
      have HC3 := Lib.hid hC3.gridAt
      have HA3 := Lib.hid (HA2.out.below hb3)
      have HBB3 := Lib.hid (HBB2.out.below hb3)
      have HB3 := Lib.hid (HB2.out.trans (hb3.mono HB2.out.size))
      clear hC3 hb3 HA2 HBB2 HB2
      generalize hA : ctM m0 = A at *
      generalize hB : ctM m1 = B at *
      generalize hC : ctM m2 = C at *
      clear hA hB hC
      go_wp2_with fail
      refine (matMul_no _ _ _ _ _ _ _ HA3.out HBB3.out HNO.out).mono ?_
      rintro e w4 ⟨rfl, hb4⟩
      have HBB4 := Lib.hid (HBB3.out.below hb4)
      have HC4 := Lib.hid (HC3.out.below hb4)
      have HB4 := Lib.hid (HB3.out.trans (hb4.mono HB3.out.size))
      clear hb4
      go_wp2_with fail
      refine (matMul_yes _ _ _ _ _ _ _ HBB4.out HC4.out HSB.out HSC.out HF2.out (by omega) (by have := HLC.out 0; omega)).mono ?_
      rintro e w5 ⟨hyl, GY, CY, gy, cy, rfl, hY5, hb5⟩
      have HB5 := Lib.hid (HB4.out.trans (hb5.mono HB4.out.size))
      clear hb5 hY5 hyl
      go_wp2_with fail
      refine (awake_any _).mono ?_
      rintro e w6 ⟨rfl, hb6⟩
      go_wp2
      go_ret
      exact ⟨rfl, HB5.out.trans (hb6.mono HB5.out.size)⟩
    · have HNO2 := Lib.hid h2
      clear h2
      go_enter Try.func6, Try.ntmps6
      go_wp2_with fail
      refine (cut_at _ _ _ _ _ HG0.out HL0.out).mono ?_
      rintro e w1 ⟨_, GA, CA, ga, ca, rfl, hA1, hb1⟩
      have HA1 := Lib.hid hA1.gridAt
      have HB1 := Lib.hid hb1
      clear hA1 hb1
      go_wp2_with fail
      refine (cut_at _ _ _ _ _ (HG1.out.below HB1.out) HL1.out).mono ?_
      rintro e w2 ⟨_, GB, CB, gb, cb, rfl, hB2, hb2⟩
      have HBB2 := Lib.hid hB2.gridAt
      have HA2 := Lib.hid (HA1.out.below hb2)
      have HB2 := Lib.hid (HB1.out.trans (hb2.mono HB1.out.size))
      clear hB2 hb2 HA1 HB1
      go_wp2_with fail
      refine (cut_at _ _ _ _ _ (HG2.out.below HB2.out) HL2.out).mono ?_
      rintro e w3 ⟨_, GC, CC, gc, cc, rfl, hC3, hb3⟩
      have HC3 := Lib.hid hC3.gridAt
      have HA3 := Lib.hid (HA2.out.below hb3)
      have HBB3 := Lib.hid (HBB2.out.below hb3)
      have HB3 := Lib.hid (HB2.out.trans (hb3.mono HB2.out.size))
      clear hC3 hb3 HA2 HBB2 HB2
      generalize hA : ctM m0 = A at *
      generalize hB : ctM m1 = B at *
      generalize hC : ctM m2 = C at *
      clear hA hB hC
      go_wp2_with fail
      refine (matMul_no _ _ _ _ _ _ _ HA3.out HBB3.out HNO.out).mono ?_
      rintro e w4 ⟨rfl, hb4⟩
      have HBB4 := Lib.hid (HBB3.out.below hb4)
      have HC4 := Lib.hid (HC3.out.below hb4)
      have HB4 := Lib.hid (HB3.out.trans (hb4.mono HB3.out.size))
      clear hb4
      go_wp2_with fail
      refine (matMul_no _ _ _ _ _ _ _ HBB4.out HC4.out HNO2.out).mono ?_
      rintro e w5 ⟨rfl, hb5⟩
      have HB5 := Lib.hid (HB4.out.trans (hb5.mono HB4.out.size))
      clear hb5
      go_wp2_with fail
      refine (awake_any _).mono ?_
      rintro e w6 ⟨rfl, hb6⟩
      go_wp2
      go_ret
      exact ⟨rfl, HB5.out.trans (hb6.mono HB5.out.size)⟩

end Go.Proofs.Ytfldocibbjgdkaa
