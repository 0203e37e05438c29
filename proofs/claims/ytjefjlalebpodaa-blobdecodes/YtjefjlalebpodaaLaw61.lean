/-
  The walk of the law BlobEncodes.
-/
import Derived.Test.YtjefjlalebpodaaAwake6
namespace Go.Proofs.Ytjefjlalebpodaa
open Go.RowKit




/-- A slice of at most M bytes at a. -/
def Clmp (w : World) (a : Option Addr) (cap M : Nat) (s : Value) : Prop := ∃ (l : Nat) (ps : List Nat), s = .slice a l cap ∧ l ≤ M ∧ ps.length = l ∧ SeenAt w a cap ps


set_option maxRecDepth 100000 in
set_option maxHeartbeats 8000000 in
theorem blobEncodes_walk (a0 a1 : Int) (a2 : Option Addr) (len2 cap2 : Nat) (m2 : List Nat) (w : World) (w0 : (Lit.int .i64 a0).wf = true) (w1 : (Lit.int .i64 a1).wf = true) (w2 : m2.length = len2 ∧ SeenAt w a2 cap2 m2) :
    Calls Try.prog 8 #[.int .i64 a0, .int .i64 a1, .slice a2 len2 cap2] w fun e w' => e = .returned (.bool true) ∧ Below w.heap.size w w' := by
  have HW0 := Lib.hid w0
  have HW1 := Lib.hid w1
  have b0 := wf64 w0
  have b1 := wf64 w1
  have h2 : len2 ≤ cap2 := by have := w2.1; have := w2.2.le; omega
  have hm2 : cap2 ≤ maxLen := w2.2.max
  unfold maxLen at hm2
  have H2 := Lib.hid w2.1
  have S2 := Lib.hid w2.2
  clear w0 w1 w2
  go_enter Try.func8, Try.ntmps8
  go_upto_region 1 with fail
  go_cut [26] (fun s wx => (∃ b, s = .bool b) ∧ wx = w)
  case first =>
    by_cases c1 : 6 < a0
    · have d1 : decide (6 < a0) = true := decide_eq_true c1
      by_cases c2 : a0 ≤ 255
      · have d2 : decide (a0 ≤ 255) = true := decide_eq_true c2
        by_cases c3 : 0 ≤ a1
        · have d3 : decide (0 ≤ a1) = true := decide_eq_true c3
          by_cases c4 : a1 ≤ 255 - a0
          · have d4 : decide (a1 ≤ 255 - a0) = true := decide_eq_true c4
            go_wp2_with fail
            go_meet
            exact ⟨⟨_, rfl⟩, rfl⟩
          · have d4 : decide (a1 ≤ 255 - a0) = false := decide_eq_false c4
            go_wp2_with fail
            go_meet
            exact ⟨⟨_, rfl⟩, rfl⟩
        · have d3 : decide (0 ≤ a1) = false := decide_eq_false c3
          go_wp2_with fail
          go_meet
          exact ⟨⟨_, rfl⟩, rfl⟩
      · have d2 : decide (a0 ≤ 255) = false := decide_eq_false c2
        go_wp2_with fail
        go_meet
        exact ⟨⟨_, rfl⟩, rfl⟩
    · have d1 : decide (6 < a0) = false := decide_eq_false c1
      go_wp2_with fail
      go_meet
      exact ⟨⟨_, rfl⟩, rfl⟩
  case rest =>
  obtain ⟨⟨b, rfl⟩, hw⟩ := hcut
  obtain rfl := hw.symm
  go_upto_if 26 with fail
  go_cut [0] (fun s wx => (∃ x, s = .int .i64 x ∧ (Lit.int .i64 x).wf = true) ∧ wx = w)
  case first =>
    cases b with
    | true => go_wp2_with fail; go_meet; exact ⟨⟨_, rfl, rfl⟩, rfl⟩
    | false => go_wp2_with fail; go_meet; exact ⟨⟨_, rfl, HW0.out⟩, rfl⟩
  case rest =>
  obtain ⟨⟨k, rfl, hkw⟩, hw⟩ := hcut
  obtain rfl := hw.symm
  have bk := wf64 hkw
  clear hkw HW0 b0 a0
  go_upto_region 3 with fail
  go_cut [32] (fun s wx => (∃ b, s = .bool b) ∧ wx = w)
  case first =>
    by_cases c1 : 5 < a1
    · have d1 : decide (5 < a1) = true := decide_eq_true c1
      by_cases c2 : a1 ≤ 249
      · have d2 : decide (a1 ≤ 249) = true := decide_eq_true c2
        go_wp2_with fail
        go_meet
        exact ⟨⟨_, rfl⟩, rfl⟩
      · have d2 : decide (a1 ≤ 249) = false := decide_eq_false c2
        go_wp2_with fail
        go_meet
        exact ⟨⟨_, rfl⟩, rfl⟩
    · have d1 : decide (5 < a1) = false := decide_eq_false c1
      go_wp2_with fail
      go_meet
      exact ⟨⟨_, rfl⟩, rfl⟩
  case rest =>
  obtain ⟨⟨b, rfl⟩, hw⟩ := hcut
  obtain rfl := hw.symm
  go_upto_if 32 with fail
  go_cut [1] (fun s wx => (∃ x, s = .int .i64 x ∧ (Lit.int .i64 x).wf = true) ∧ wx = w)
  case first =>
    cases b with
    | true => go_wp2_with fail; go_meet; exact ⟨⟨_, rfl, rfl⟩, rfl⟩
    | false => go_wp2_with fail; go_meet; exact ⟨⟨_, rfl, HW1.out⟩, rfl⟩
  case rest =>
  obtain ⟨⟨m, rfl, hmw⟩, hw⟩ := hcut
  obtain rfl := hw.symm
  have bm := wf64 hmw
  clear hmw HW1 b1 a1
  go_upto_if 35 with fail
  go_cut [2, 35] (fun s _ wx => Clmp w a2 cap2 300 s ∧ wx = w)
  case first =>
    by_cases hM : 300 < len2
    · have d1 : decide ((300 : Int) < (len2 : Int)) = true := by simp; omega
      obtain ⟨b, off, e, _⟩ := (S2.out).cell 0 (by rw [H2.out]; omega)
      subst e
      have hcc : 300 ≤ cap2 := by omega
      have HTK := Lib.hid ((S2.out).take 300)
      have HTL : Hid ((List.take 300 m2).length = 300) := by show _ = _; rw [List.length_take, H2.out]; omega
      go_wp2_with fail
      go_meet
      exact ⟨⟨300, List.take 300 m2, rfl, by omega, HTL.out, HTK.out⟩, rfl⟩
    · have d1 : decide ((300 : Int) < (len2 : Int)) = false := by simp; omega
      go_wp2_with fail
      go_meet
      exact ⟨⟨len2, m2, rfl, by omega, H2.out, S2.out⟩, rfl⟩
  case rest =>
  obtain ⟨⟨l, ps, rfl, hl3, hl, hs⟩, hw⟩ := hcut
  obtain rfl := hw.symm
  have HL := Lib.hid hl
  have HS := Lib.hid hs
  clear hl hs H2 S2
  by_cases h256 : 256 < l
  · have d1 : decide ((256 : Int) < (l : Int)) = true := by simp; omega
    go_wp2_with fail
    refine (encB_large k m _ _ l _ h256).mono ?_
    rintro e w' ⟨rfl, rfl⟩
    go_wp2_with fail
    refine (awake6 _).mono ?_
    rintro e w2 ⟨rfl, hb2⟩
    go_wp2
    go_ret
    exact ⟨rfl, hb2⟩
  · have d1 : decide ((256 : Int) < (l : Int)) = false := by simp; omega
    by_cases hM : May k m
    · obtain ⟨k', rfl⟩ : ∃ k' : Nat, k = (k' : Int) := ⟨k.toNat, by have := hM.1; omega⟩
      obtain ⟨m', rfl⟩ : ∃ m' : Nat, m = (m' : Int) := ⟨m.toNat, by have := hM.2.1; omega⟩
      obtain ⟨n, hn⟩ : ∃ n, k' + m' = n := ⟨_, rfl⟩
      have hk1 : 1 ≤ k' := by have := hM.1; omega
      have hn2 : n ≤ 255 := by have := hM.2.2; omega
      have HMY := Lib.hid (fun w => may_yes (k' : Int) (m' : Int) w hM)
      have HEN := Lib.hid (fun w => fun h => encB_any k' m' n a2 cap2 l ps w HL.out h (by omega) hk1 hn hn2)
      have HSD := Lib.hid (fun w => fun h => shards_any a2 cap2 l k' ps w HL.out h hk1 (by omega) (by omega))
      have HSL := Lib.hid (shds_len ps k')
      have HRW : Hid (∀ i, i < k' → ((shds ps k').getD i []).length = wd l k') := fun i hi => by rw [shds_row ps k' i hi, shd_len, HL.out]
      have hvl := wd_le l k' hk1
      have t : ((n : Int) != (k' : Int) + (m' : Int)) = false := by simp; omega
      have hna : n ≤ k' + m' := by omega
      have hnb : k' + m' ≤ n := by omega
      clear hn hM
      generalize wd l k' = v at *
      generalize shds ps k' = s at *
      go_wp2_with fail
      refine (HEN.out _ HS.out).mono ?_
      rintro e w2 ⟨hfl, aF, cF, rfl, hF, hb2⟩
      have HB2 := Lib.hid hb2
      have HF := Lib.hid hF
      have HFL := Lib.hid hfl
      have HS2 := Lib.hid (HS.out.below hb2)
      obtain ⟨bF, offF, _, _, e, _, _⟩ := hF.at 0 (by rw [hfl]; omega)
      subst e
      clear hF hfl hb2
      go_wp2_with fail
      refine (HMY.out _).mono ?_
      rintro e w' ⟨rfl, rfl⟩
      go_wp2_with fail
      refine (HSD.out _ HS2.out).mono ?_
      rintro e w3 ⟨_, G, C, g, c, rfl, hO, hb3⟩
      have HG3 := Lib.hid hO.gridAt
      have HF3 := Lib.hid (HF.out.below hb3)
      have HB3 := Lib.hid (HB2.out.trans (hb3.mono HB2.out.size))
      clear hO hb3 HF HS2 HB2 t
      go_wp2
      go_loopw [10] (fun i ws => ∃ j : Nat, j ≤ n ∧ i = .int .i64 j ∧ Hid (Below w3.heap.size w3 ws)) (fun i _ => n - (intOf i).toNat)
      case atStart => exact ⟨0, Nat.zero_le _, rfl, Below.refl _ _⟩
      case round =>
        obtain ⟨j, hj, rfl, hb⟩ := hrel
        have hbz := hb.out.size
        by_cases hlt : j < n
        · have hlt' : (j : Int) < (k' : Int) + (m' : Int) := by omega
          obtain ⟨b', off', ra, rc, e, hcj0, hSj0⟩ := HF3.out.at j (by rw [HFL.out]; exact hlt)
          cases e
          rw [frags_row s n j hlt] at hcj0 hSj0
          have hcj := cell_later hb.out hcj0
          have HSJ := Lib.hid (hSj0.below hb.out)
          have HSW := Lib.hid (HG3.out.below hb.out)
          have hst := str_of (hSj0.below hb.out)
          have HFG := Lib.hid (fun w' => fun h => fragment_any (some ⟨G, 0, none⟩) C k' v j s w' h HSL.out hk1 (by omega) HRW.out (by omega) (by omega))
          clear hcj0 hSj0
          have HCJ := Lib.hid hcj
          have HST := Lib.hid hst
          have j0 : (0 : Int) ≤ (j : Int) := by omega
          have j1 : (j : Int) < (n : Int) := by omega
          generalize hq : (frag s j).length = q at *
          generalize hsb : strB (frag s j) = st at *
          have HQ := Lib.hid hq
          have HSB := Lib.hid hsb
          clear hq hsb
          go_upto_region 18 with fail
          go_cut [101] (fun s wx => s = .bool false ∧ Hid (Below w3.heap.size w3 wx))
          case first =>
            have hcd : wr.drew.cell? ⟨bF, offF + j, none⟩ = some (.slice ra q rc) := HCJ.out
            have hsd : (convert 22 9 (.slice ra q rc)).run Try.prog wr.drew = .ok (.string st) wr.drew := by rw [← HSB.out]; exact str_at (HSJ.out.alike rfl) HQ.out
            clear hcj hst
            go_region_with ((go_at_call 28; refine (HFG.out _ ?_).mono ?_; (exact HSW.out.alike rfl); rintro e w5 ⟨g, y, rfl, hS5, hb5⟩; have hk1 := cell_via hb5 HCJ.out rfl; have hk2 := Lib.hid (SeenAt.via hb5 HSJ.out rfl); have HB5 := Lib.hid (below_via hb5 hb.out hbz rfl rfl rfl rfl); have hst5 := str_at hS5 rfl; rw [HSB.out, HQ.out] at hst5; have hst6 := str_at hk2.out HQ.out; rw [HSB.out] at hst6; rw [HQ.out]; clear hb5 hS5))
            all_goals (go_wp2_with fail; go_meet)
            all_goals exact ⟨rfl, below_same HB5.out rfl rfl rfl rfl⟩
          case rest =>
          obtain ⟨rfl, hb'⟩ := hcut
          go_wp2
          go_round
          case rel => exact ⟨j + 1, by omega, by go_num, hb'⟩
          case measure => simp [intOf]; omega
        · obtain rfl : j = n := by omega
          have hlt' : ¬ (j : Int) < (k' : Int) + (m' : Int) := by omega
          go_wp2_with fail
          refine (awake6 _).mono ?_
          rintro e w4 ⟨rfl, hb4⟩
          have HB4 := Lib.hid (HB3.out.trans ((hb.out.trans (hb4.mono hb.out.size)).mono HB3.out.size))
          go_wp2
          go_ret
          exact ⟨rfl, HB4.out⟩
    · have HMN := Lib.hid (fun w => may_no k m w hM)
      have HEN := Lib.hid (fun w => fun h => encB_no k m a2 cap2 l ps w HL.out h (by omega) hM)
      clear hM
      go_wp2_with fail
      refine (HEN.out _ HS.out).mono ?_
      rintro e w2 ⟨rfl, hb2⟩
      have HB2 := Lib.hid hb2
      clear hb2
      go_wp2_with fail
      refine (HMN.out _).mono ?_
      rintro e w' ⟨rfl, rfl⟩
      go_wp2_with fail
      refine (awake6 _).mono ?_
      rintro e w3 ⟨rfl, hb3⟩
      have HB3 := Lib.hid (HB2.out.trans (hb3.mono HB2.out.size))
      go_wp2
      go_ret
      exact ⟨rfl, HB3.out⟩

end Go.Proofs.Ytjefjlalebpodaa
