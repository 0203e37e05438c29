/-
  The walk of the law RsEncodes.
-/
import Derived.Test.YtnhledngeicekaaLaw31
import Derived.Test.YtnhledngeicekaaWalksT1
namespace Go.Proofs.Ytnhledngeicekaa
open Go.RowKit





theorem cell_via {a b c : World} {p : Addr} {v : Value} (k : Below b.heap.size b c) (h : a.cell? p = some v) (e : b.heap = a.heap) : c.cell? p = some v :=
  cell_later k (by rw [← h]; simp [World.cell?, e])

theorem SeenAt.via {a b c : World} {ad : Option Addr} {cap : Nat} {ps : List Nat} (k : Below b.heap.size b c) (h : SeenAt a ad cap ps) (e : b.heap = a.heap) : SeenAt c ad cap ps := (h.alike e).below k

theorem cutM_le (m : List (List Nat)) (k : Nat) : (cutM m k).length ≤ k := by rw [cutM_len]; omega

/-- The string of a row, wherever it lies. -/
theorem str_at {w : World} {a : Option Addr} {cap n : Nat} {ps : List Nat} (h : SeenAt w a cap ps) (hn : ps.length = n) : (convert 28 9 (.slice a n cap)).run Try.prog w = .ok (.string (strB ps)) w := by
  subst hn; exact str_of h

set_option maxRecDepth 100000 in
set_option maxHeartbeats 8000000 in
theorem rsEncodes_walk (a0 : Int) (a1 : Option Addr) (len1 cap1 : Nat) (m1 : List (List Nat)) (w : World) (w0 : (Lit.int .i64 a0).wf = true) (w1 : m1.length = len1 ∧ GridAt w a1 cap1 m1) :
    Calls Try.prog 4 #[.int .i64 a0, .slice a1 len1 cap1] w fun e w' => e = .returned (.bool true) ∧ Below w.heap.size w w' := by
  have HW0 := Lib.hid w0
  have HCT := Lib.hid (cut3_any a1 cap1 len1 6 m1 w w1.2 w1.1 (by omega))
  have hsl := cutM_le m1 6
  have HWD := Lib.hid (cutM_row m1 6 0)
  have HRW := Lib.hid (cutM_row m1 6)
  have b0 := wf64 w0
  clear w0 w1
  generalize cutM m1 6 = s at *
  obtain ⟨l, hl⟩ : ∃ l, s.length = l := ⟨_, rfl⟩
  rw [hl] at HCT hsl
  have HL := Lib.hid hl
  clear hl
  go_enter Try.func4, Try.ntmps4
  go_wp2_with fail
  refine HCT.out.mono ?_
  rintro e w1 ⟨_, a, cap, rfl, hS, hb1⟩
  have HS1 := Lib.hid hS
  have HB1 := Lib.hid hb1
  clear hS hb1
  go_upto_region 2 with fail
  go_cut [15] (fun s wx => (∃ b, s = .bool b) ∧ wx = w1)
  case first =>
    by_cases c1 : 6 < a0
    · have d1 : decide (6 < a0) = true := decide_eq_true c1
      by_cases c2 : a0 ≤ 249
      · have d2 : decide (a0 ≤ 249) = true := decide_eq_true c2
        go_wp2_with fail
        go_meet
        exact ⟨⟨_, rfl⟩, rfl⟩
      · have d2 : decide (a0 ≤ 249) = false := decide_eq_false c2
        go_wp2_with fail
        go_meet
        exact ⟨⟨_, rfl⟩, rfl⟩
    · have d1 : decide (6 < a0) = false := decide_eq_false c1
      go_wp2_with fail
      go_meet
      exact ⟨⟨_, rfl⟩, rfl⟩
  case rest =>
  obtain ⟨⟨b, rfl⟩, rfl⟩ := hcut
  go_upto_if 15 with fail
  go_cut [0] (fun s wx => (∃ x, s = .int .i64 x ∧ (Lit.int .i64 x).wf = true) ∧ wx = wc)
  case first =>
    cases b with
    | true => go_wp2_with fail; go_meet; exact ⟨⟨_, rfl, rfl⟩, rfl⟩
    | false => go_wp2_with fail; go_meet; exact ⟨⟨_, rfl, HW0.out⟩, rfl⟩
  case rest =>
  obtain ⟨⟨m, rfl, hmw⟩, rfl⟩ := hcut
  have bm := wf64 hmw
  clear hmw HW0 b0 a0
  by_cases hM : May l m
  · obtain ⟨m', rfl⟩ : ∃ m' : Nat, m = (m' : Int) := ⟨m.toNat, by have := hM.2.1; omega⟩
    obtain ⟨n, hn⟩ : ∃ n, l + m' = n := ⟨_, rfl⟩
    have hl1 : 1 ≤ l := by have := hM.1; omega
    have hn2 : n ≤ 255 := by have := hM.2.2; omega
    have HMY := Lib.hid (fun w => may_yes (l : Int) (m' : Int) w hM)
    have HEN := Lib.hid (fun w => fun h => enc_any m' a cap l n s w h HL.out hl1 hn hn2 (by have := HWD.out; omega))
    have t : ((n : Int) != (l : Int) + (m' : Int)) = false := by simp; omega
    have hna : n ≤ l + m' := by omega
    have hnb : l + m' ≤ n := by omega
    clear hn hM
    go_wp2_with fail
    refine (HEN.out _ HS1.out).mono ?_
    rintro e w2 (⟨hne, rfl, hb2⟩ | ⟨hev, hfl, aF, cF, rfl, hF, hb2⟩)
    · have HB2 := Lib.hid (HB1.out.trans (hb2.mono HB1.out.size))
      have HS2 := Lib.hid (HS1.out.below hb2)
      have HEV := Lib.hid (fun w => fun h => even_loop false a cap l s w h HL.out hl1 ⟨fun e => by simp at e, fun e => absurd e hne⟩)
      clear hne hb2
      go_wp2_with fail
      refine (HMY.out _).mono ?_
      rintro e w' ⟨rfl, rfl⟩
      go_wp2_with fail
      refine (HEV.out _ HS2.out).mono ?_
      rintro e w3 ⟨rfl, d, rfl⟩
      go_wp2_with fail
      refine (awake3 _).mono ?_
      rintro e w4 ⟨rfl, hb4⟩
      have HB4 := Lib.hid (HB2.out.trans (((below_drewN w2 d).trans (hb4.mono (Nat.le_refl _))).mono HB2.out.size))
      go_wp2
      go_ret
      exact ⟨rfl, HB4.out⟩
    · have HB2 := Lib.hid (HB1.out.trans (hb2.mono HB1.out.size))
      have HS2 := Lib.hid (HS1.out.below hb2)
      have HEV := Lib.hid (fun w => fun h => even_loop true a cap l s w h HL.out hl1 ⟨fun _ => hev, fun _ => rfl⟩)
      have HE := Lib.hid hev
      have HF := Lib.hid hF
      have HFL := Lib.hid hfl
      obtain ⟨bF, offF, _, _, e, _, _⟩ := hF.at 0 (by rw [hfl]; omega)
      subst e
      clear hev hF hfl hb2
      go_wp2_with fail
      refine (HMY.out _).mono ?_
      rintro e w' ⟨rfl, rfl⟩
      go_wp2_with fail
      refine (HEV.out _ HS2.out).mono ?_
      rintro e w3 ⟨rfl, d, rfl⟩
      have HF3 := Lib.hid (HF.out.below (below_drewN w2 d))
      have HS3 := Lib.hid (HS2.out.below (below_drewN w2 d))
      have HB3 := Lib.hid (HB2.out.trans ((below_drewN w2 d).mono HB2.out.size))
      generalize w2.drewN d = w3 at *
      clear HF HS2 HB2
      go_wp2
      clear t
      go_loopw [7] (fun i ws => ∃ j : Nat, j ≤ n ∧ i = .int .i64 j ∧ Hid (Below w3.heap.size w3 ws)) (fun i _ => n - (intOf i).toNat)
      case atStart => exact ⟨0, Nat.zero_le _, rfl, Below.refl _ _⟩
      case round =>
        obtain ⟨j, hj, rfl, hb⟩ := hrel
        have hbz := hb.out.size
        by_cases hlt : j < n
        · obtain ⟨b', off', ra, rc, e, hcj0, hSj0⟩ := HF3.out.at j (by rw [HFL.out]; exact hlt)
          cases e
          rw [frags_row s n j hlt] at hcj0 hSj0
          have hcj := cell_later hb.out hcj0
          have HSJ := Lib.hid (hSj0.below hb.out)
          have HSW := Lib.hid (HS3.out.below hb.out)
          have hst := str_of (hSj0.below hb.out)
          have HRR : Hid (∀ i, i < l → (s.getD i []).length = (s.getD 0 []).length) := fun i hi => HE.out i (by rw [HL.out]; exact hi)
          have HFG := Lib.hid (fun w' => fun h => fragment_any a cap l (s.getD 0 []).length j s w' h HL.out hl1 (by omega) HRR.out (by have := HWD.out; omega) (by omega))
          clear hcj0 hSj0
          have HCJ := Lib.hid hcj
          have HST := Lib.hid hst
          have j0 : (0 : Int) ≤ (j : Int) := by omega
          have j1 : (j : Int) < (n : Int) := by omega
          generalize hq : (frag s j).length = q at *
          generalize hsb : strB (frag s j) = st at *
          have HQ := Lib.hid hq
          have HSB := Lib.hid hsb
          clear hq hsb
          go_upto_region 14 with fail
          go_cut [76] (fun s wx => s = .bool false ∧ Hid (Below w3.heap.size w3 wx))
          case first =>
            have hcd : wr.drew.cell? ⟨bF, offF + j, none⟩ = some (.slice ra q rc) := HCJ.out
            have hsd : (convert 28 9 (.slice ra q rc)).run Try.prog wr.drew = .ok (.string st) wr.drew := by rw [← HSB.out]; exact str_at (HSJ.out.alike rfl) HQ.out
            clear hcj hst
            go_region_with ((go_at_call 17; refine (HFG.out _ ?_).mono ?_; (exact HSW.out.alike rfl); rintro e w5 ⟨g, y, rfl, hS5, hb5⟩; have hk1 := cell_via hb5 HCJ.out rfl; have hk2 := Lib.hid (SeenAt.via hb5 HSJ.out rfl); have HB5 := Lib.hid (below_via hb5 hb.out hbz rfl rfl rfl rfl); have hst5 := str_at hS5 rfl; rw [HSB.out, HQ.out] at hst5; have hst6 := str_at hk2.out HQ.out; rw [HSB.out] at hst6; rw [HQ.out]; clear hb5 hS5))
            all_goals (go_wp2_with fail; go_meet)
            all_goals exact ⟨rfl, below_same HB5.out rfl rfl rfl rfl⟩
          case rest =>
          obtain ⟨rfl, hb'⟩ := hcut
          go_wp2
          go_round
          case rel => exact ⟨j + 1, by omega, by go_num, hb'⟩
          case measure => simp [intOf]; omega
        · obtain rfl : j = n := by omega
          go_wp2_with fail
          refine (awake3 _).mono ?_
          rintro e w4 ⟨rfl, hb4⟩
          have HB4 := Lib.hid (HB3.out.trans ((hb.out.trans (hb4.mono hb.out.size)).mono HB3.out.size))
          go_wp2
          go_ret
          exact ⟨rfl, HB4.out⟩
  · have HMN := Lib.hid (fun w => may_no (l : Int) m w hM)
    have HEN := Lib.hid (fun w => enc_no m a cap l w (by omega) hM)
    clear hM
    go_wp2_with fail
    refine (HEN.out _).mono ?_
    rintro e w' ⟨rfl, rfl⟩
    go_wp2_with fail
    refine (HMN.out _).mono ?_
    rintro e w' ⟨rfl, rfl⟩
    go_wp2_with fail
    refine (awake3 _).mono ?_
    rintro e w2 ⟨rfl, hb2⟩
    have HB2 := Lib.hid (HB1.out.trans (hb2.mono HB1.out.size))
    go_wp2
    go_ret
    exact ⟨rfl, HB2.out⟩

end Go.Proofs.Ytnhledngeicekaa
