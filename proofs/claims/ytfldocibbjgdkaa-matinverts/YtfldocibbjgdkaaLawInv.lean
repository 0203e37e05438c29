/-
  The walk of the law MatInverts.
-/
import Derived.Test.YtfldocibbjgdkaaWalksR
namespace Go.Proofs.Ytfldocibbjgdkaa
open Go.RowKit

theorem rsound_at (va : Option Addr) (vc l : Nat) (m : List (List Nat)) (w : World) (hG : GridAt w va vc m) (h : Sd m) (hl : m.length = l) :
    Calls Try.prog 10 #[.slice va l vc] w fun e w' => e = .returned (.bool true) ∧ Below w.heap.size w w' := by
  subst hl; exact rsound_yes va vc m w hG h

theorem product_at (va vb : Option Addr) (vc vd n : Nat) (a b : List (List Nat)) (w : World) (hA : GridAt w va vc a) (hB : GridAt w vb vd b) (sa : Mt.Sq n a) (sb : Mt.Sq n b) (h0 : 0 < n) (hn : n ≤ 1000) :
    Calls Try.prog 14 #[.slice va n vc, .slice vb n vd] w (RetM w n (prK a b n n)) := by
  have := product_any va vb vc vd a b w hA hB (Sd.of_sq sa h0) (Sd.of_sq sb h0) (by rw [sa.row 0 h0, sb.len]) (by rw [sa.len]; omega) (by rw [sb.row 0 h0]; omega) (by rw [sb.len]; omega)
  rw [sa.len, sb.len, sb.row 0 h0] at this
  exact this




set_option maxRecDepth 100000 in
set_option maxHeartbeats 4000000 in
theorem matInverts_walk (a0 : Option Addr) (len0 cap0 : Nat) (m0 : List (List Nat)) (w : World) (w0 : m0.length = len0 ∧ GridAt w a0 cap0 m0) :
    Calls Try.prog 4 #[.slice a0 len0 cap0] w fun e w' => e = .returned (.bool true) ∧ Below w.heap.size w w' := by
  have HL0 := Lib.hid w0.1
  have HG0 := Lib.hid w0.2
  have la := ctM_le m0
  clear w0
  by_cases sa : Sd (ctM m0)
  · have HSA := Lib.hid sa
    by_cases hq : (ctM m0).length = ((ctM m0).getD 0 []).length
    · have HQ := Lib.hid hq
      clear sa hq
      go_enter Try.func4, Try.ntmps4
      go_wp2_with fail
      refine (cut_at _ _ _ _ _ HG0.out HL0.out).mono ?_
      rintro e w1 ⟨_, GA, CA, ga, ca, rfl, hA1, hb1⟩
      have HA1 := Lib.hid hA1.gridAt
      have HB1 := Lib.hid hb1
      clear hA1 hb1
      generalize hA : ctM m0 = A at *
      clear hA
      have HSQ : Hid (Mt.Sq A.length A) := ⟨rfl, fun i hi => by rw [HSA.out.2.2 i hi]; exact HQ.out.symm, HA1.out.by⟩
      have hn0 := HSA.out.1
      obtain ⟨n, hn⟩ : ∃ n, n = A.length := ⟨_, rfl⟩
      rw [← hn] at HSQ HQ hn0 la ⊢
      have HN := Lib.hid hn
      clear hn
      go_wp2_with fail
      refine (inverse_any _ _ n A _ HA1.out HSA.out HN.out.symm HQ.out.symm (by omega)).mono ?_
      rintro e w2 ⟨hb2, ⟨GX, CX, gx, cx, X, rfl, hX, sX, iX⟩ | ⟨rfl, hS⟩⟩
      · have HX2 := Lib.hid hX.gridAt
        have HSX := Lib.hid sX
        have HIX := Lib.hid iX
        have HA2 := Lib.hid (HA1.out.below hb2)
        have HB2 := Lib.hid (HB1.out.trans (hb2.mono HB1.out.size))
        clear hX sX iX hb2 HA1 HB1
        go_wp2_with fail
        refine (rsound_at _ _ _ A _ HA2.out HSA.out HN.out.symm).mono ?_
        rintro e w3 ⟨rfl, hb3⟩
        have HX3 := Lib.hid (HX2.out.below hb3)
        have HA3 := Lib.hid (HA2.out.below hb3)
        have HB3 := Lib.hid (HB2.out.trans (hb3.mono HB2.out.size))
        clear hb3 HX2 HA2 HB2
        obtain ⟨b0, off0, ra, rc, e0, hc0, _⟩ := HA3.out.at 0 HSA.out.1
        cases e0
        rw [← HQ.out] at hc0
        have hc0' : w3.cell? ⟨GA, 0, none⟩ = some (.slice ra n rc) := hc0
        have t0 : ((n : Int) != (n : Int)) = false := by simp
        have t1 : (0 : Int) < (n : Int) := by omega
        clear hc0
        go_wp2_with fail
        refine (awake_any _).mono ?_
        rintro e w4 ⟨rfl, hb4⟩
        have HX4 := Lib.hid (HX3.out.below hb4)
        have HA4 := Lib.hid (HA3.out.below hb4)
        have HB4 := Lib.hid (HB3.out.trans (hb4.mono HB3.out.size))
        clear hb4 HX3 HA3 HB3 hc0' t0
        go_wp2_with fail
        refine (rsound_at _ _ _ X _ HX4.out (Sd.of_sq HSX.out hn0) HSX.out.len).mono ?_
        rintro e w5 ⟨rfl, hb5⟩
        have HX5 := Lib.hid (HX4.out.below hb5)
        have HA5 := Lib.hid (HA4.out.below hb5)
        have HB5 := Lib.hid (HB4.out.trans (hb5.mono HB4.out.size))
        clear hb5 HX4 HA4 HB4
        obtain ⟨b0, off0, ra, rc, e0, hc0, _⟩ := HX5.out.at 0 (by rw [HSX.out.len]; exact hn0)
        cases e0
        rw [HSX.out.row 0 hn0] at hc0
        have hc0' : w5.cell? ⟨GX, 0, none⟩ = some (.slice ra n rc) := hc0
        have t2 : ((n : Int) == (n : Int)) = true := by simp
        clear hc0
        go_wp2_with fail
        refine (product_at _ _ _ _ n X A _ HX5.out HA5.out HSX.out HSQ.out hn0 (by omega)).mono ?_
        rintro e w6 ⟨hpl, GP, CP, gp, cp, rfl, hP6, hb6⟩
        have HPL := Lib.hid hpl
        have HP6 := Lib.hid hP6.gridAt
        have HX6 := Lib.hid (HX5.out.below hb6)
        have HA6 := Lib.hid (HA5.out.below hb6)
        have HB6 := Lib.hid (HB5.out.trans (hb6.mono HB5.out.size))
        clear hb6 hP6 hpl HX5 HA5 HB5 hc0'
        go_wp2_with fail
        refine (rone_any n _ (by omega)).mono ?_
        rintro e w7 ⟨hol, GO, CO, go, co, rfl, hO7, hb7⟩
        have HOL := Lib.hid hol
        have HO7 := Lib.hid hO7.gridAt
        have HP7 := Lib.hid (HP6.out.below hb7)
        have HX7 := Lib.hid (HX6.out.below hb7)
        have HA7 := Lib.hid (HA6.out.below hb7)
        have HB7 := Lib.hid (HB6.out.trans (hb7.mono HB6.out.size))
        clear hb7 hO7 hol HX6 HA6 HB6 HP6
        go_wp2_with fail
        refine (same_at _ _ _ _ _ _ _ _ _ HP7.out HO7.out (inv_prod_left HIX.out HSQ.out.byte HSQ.out.len) HPL.out HOL.out).mono ?_
        rintro e w8 ⟨rfl, hb8⟩
        have HX8 := Lib.hid (HX7.out.below hb8)
        have HA8 := Lib.hid (HA7.out.below hb8)
        have HB8 := Lib.hid (HB7.out.trans (hb8.mono HB7.out.size))
        clear hb8 HX7 HA7 HB7 HP7 HO7 HPL HOL
        go_wp2_with fail
        refine (product_at _ _ _ _ n A X _ HA8.out HX8.out HSQ.out HSX.out hn0 (by omega)).mono ?_
        rintro e w9 ⟨hpl, GP, CP, gp, cp, rfl, hP9, hb9⟩
        have HPL := Lib.hid hpl
        have HP9 := Lib.hid hP9.gridAt
        have HB9 := Lib.hid (HB8.out.trans (hb9.mono HB8.out.size))
        clear hb9 hP9 hpl HX8 HA8 HB8
        go_wp2_with fail
        refine (rone_any n _ (by omega)).mono ?_
        rintro e w10 ⟨hol, GO, CO, go, co, rfl, hO10, hb10⟩
        have HOL := Lib.hid hol
        have HO10 := Lib.hid hO10.gridAt
        have HP10 := Lib.hid (HP9.out.below hb10)
        have HB10 := Lib.hid (HB9.out.trans (hb10.mono HB9.out.size))
        clear hb10 hO10 hol HB9 HP9
        go_wp2_with fail
        refine (same_at _ _ _ _ _ _ _ _ _ HP10.out HO10.out (inv_prod_right HIX.out HSX.out.byte HSX.out.len) HPL.out HOL.out).mono ?_
        rintro e w11 ⟨rfl, hb11⟩
        go_wp2
        go_ret
        exact ⟨rfl, HB10.out.trans (hb11.mono HB10.out.size)⟩
      · have HSI := Lib.hid hS
        have HA2 := Lib.hid (HA1.out.below hb2)
        have HB2 := Lib.hid (HB1.out.trans (hb2.mono HB1.out.size))
        clear hS hb2 HA1 HB1
        go_wp2_with fail
        refine (rsound_at _ _ _ A _ HA2.out HSA.out HN.out.symm).mono ?_
        rintro e w3 ⟨rfl, hb3⟩
        have HA3 := Lib.hid (HA2.out.below hb3)
        have HB3 := Lib.hid (HB2.out.trans (hb3.mono HB2.out.size))
        clear hb3 HA2 HB2
        obtain ⟨b0, off0, ra, rc, e0, hc0, _⟩ := HA3.out.at 0 HSA.out.1
        cases e0
        rw [← HQ.out] at hc0
        have hc0' : w3.cell? ⟨GA, 0, none⟩ = some (.slice ra n rc) := hc0
        have t0 : ((n : Int) != (n : Int)) = false := by simp
        have t1 : (0 : Int) < (n : Int) := by omega
        clear hc0
        go_wp2_with fail
        refine (awake_any _).mono ?_
        rintro e w4 ⟨rfl, hb4⟩
        have HA4 := Lib.hid (HA3.out.below hb4)
        have HB4 := Lib.hid (HB3.out.trans (hb4.mono HB3.out.size))
        clear hb4 HA3 HB3 hc0' t0
        go_wp2_with fail
        refine (rank_any _ _ n A _ HA4.out HSQ.out la).mono ?_
        rintro e w5 ⟨hb5, r, hr, rfl, hrk⟩
        have hlt : r < n := by
          rcases Nat.lt_or_ge r n with h | h
          · exact h
          · obtain ⟨x, hx, ⟨j, hj, hne⟩, hz⟩ := HSI.out
            exact absurd (hrk (by omega) x hx hz j hj) hne
        clear hrk
        have hd : decide ((r : Int) < (n : Int)) = true := by simp; omega
        go_wp2
        go_ret
        exact ⟨rfl, HB4.out.trans (hb5.mono HB4.out.size)⟩
    · have HF := Lib.hid hq
      have HNO : Hid (¬ (Sd (ctM m0) ∧ (ctM m0).length = ((ctM m0).getD 0 []).length)) := fun h => hq h.2
      clear sa hq
      go_enter Try.func4, Try.ntmps4
      go_wp2_with fail
      refine (cut_at _ _ _ _ _ HG0.out HL0.out).mono ?_
      rintro e w1 ⟨_, GA, CA, ga, ca, rfl, hA1, hb1⟩
      have HA1 := Lib.hid hA1.gridAt
      have HB1 := Lib.hid hb1
      clear hA1 hb1
      generalize hA : ctM m0 = A at *
      clear hA
      go_wp2_with fail
      refine (inverse_no _ _ A _ HA1.out HNO.out).mono ?_
      rintro e w2 ⟨rfl, hb2⟩
      have HA2 := Lib.hid (HA1.out.below hb2)
      have HB2 := Lib.hid (HB1.out.trans (hb2.mono HB1.out.size))
      clear hb2
      go_wp2_with fail
      refine (rsound_yes _ _ A _ HA2.out HSA.out).mono ?_
      rintro e w3 ⟨rfl, hb3⟩
      have HA3 := Lib.hid (HA2.out.below hb3)
      have HB3 := Lib.hid (HB2.out.trans (hb3.mono HB2.out.size))
      clear hb3
      obtain ⟨b0, off0, ra, rc, e0, hc0, _⟩ := HA3.out.at 0 HSA.out.1
      cases e0
      generalize (A.getD 0 []).length = l at *
      have hc0' : w3.cell? ⟨GA, 0, none⟩ = some (.slice ra l rc) := hc0
      have t0 : ((A.length : Int) != (l : Int)) = true := by have := HF.out; simp; omega
      have t1 : (0 : Int) < (A.length : Int) := by have := HSA.out.1; omega
      clear hc0
      go_wp2_with fail
      refine (awake_any _).mono ?_
      rintro e w4 ⟨rfl, hb4⟩
      go_wp2
      go_ret
      exact ⟨rfl, HB3.out.trans (hb4.mono HB3.out.size)⟩
  · have HSA := Lib.hid sa
    have HNO : Hid (¬ (Sd (ctM m0) ∧ (ctM m0).length = ((ctM m0).getD 0 []).length)) := fun h => sa h.1
    clear sa
    go_enter Try.func4, Try.ntmps4
    go_wp2_with fail
    refine (cut_at _ _ _ _ _ HG0.out HL0.out).mono ?_
    rintro e w1 ⟨_, GA, CA, ga, ca, rfl, hA1, hb1⟩
    have HA1 := Lib.hid hA1.gridAt
    have HB1 := Lib.hid hb1
    clear hA1 hb1
    generalize hA : ctM m0 = A at *
    clear hA
    go_wp2_with fail
    refine (inverse_no _ _ A _ HA1.out HNO.out).mono ?_
    rintro e w2 ⟨rfl, hb2⟩
    have HA2 := Lib.hid (HA1.out.below hb2)
    have HB2 := Lib.hid (HB1.out.trans (hb2.mono HB1.out.size))
    clear hb2
    go_wp2_with fail
    refine (rsound_no _ _ A _ HA2.out HSA.out).mono ?_
    rintro e w3 ⟨rfl, hb3⟩
    have HB3 := Lib.hid (HB2.out.trans (hb3.mono HB2.out.size))
    clear hb3
    go_wp2_with fail
    refine (awake_any _).mono ?_
    rintro e w4 ⟨rfl, hb4⟩
    go_wp2
    go_ret
    exact ⟨rfl, HB3.out.trans (hb4.mono HB3.out.size)⟩

end Go.Proofs.Ytfldocibbjgdkaa
