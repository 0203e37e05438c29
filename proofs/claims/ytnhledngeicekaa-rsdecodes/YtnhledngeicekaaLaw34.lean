/-
  The walk of the law RsDecodes.
-/
import Derived.Test.YtnhledngeicekaaLaw32
import Derived.Test.YtnhledngeicekaaWalksT2
import Derived.Test.YtnhledngeicekaaWalksT3
import Derived.Test.YtnhledngeicekaaFrsArg
namespace Go.Proofs.Ytnhledngeicekaa
open Go.RowKit

/-- Every fragment has at most twenty bytes. -/
def Short (fs : List Fr) (j : Nat) : Prop := ∀ q, q < j → (fs.getD q fr0).data.length ≤ 20

theorem Short.head {fs : List Fr} {l : Nat} (h : Short fs l) (hl : fs.length = l) : (fs.getD 0 fr0).data.length ≤ 20 := by
  by_cases h0 : 0 < l
  · exact h 0 h0
  · rw [List.getD_eq_getElem?_getD, List.getElem?_eq_none (by omega)]; simp [fr0]

theorem even_at (b : Bool) (va : Option Addr) (vc l : Nat) (m : List (List Nat)) (hl : m.length = l) (h1 : 0 < l) (hb : b = true ↔ Ev m) (w : World) (hG : GridAt w va vc m) :
    Calls Try.prog 16 #[.slice va l vc] w fun e w' => e = .returned (.bool b) ∧ ∃ n, w' = w.drewN n := even_loop b va vc l m w hG hl h1 hb







set_option maxRecDepth 100000 in
set_option maxHeartbeats 16000000 in
theorem rsDecodes_walk (a0 a1 : Int) (a2 : Option Addr) (len2 cap2 : Nat) (m2 : List Fr) (w : World) (w0 : (Lit.int .i64 a0).wf = true) (w1 : (Lit.int .i64 a1).wf = true) (w2 : m2.length = len2 ∧ FrsAt w a2 cap2 m2) :
    Calls Try.prog 6 #[.int .i64 a0, .int .i64 a1, .slice a2 len2 cap2] w fun e w' => e = .returned (.bool true) ∧ Below w.heap.size w w' := by
  have HW0 := Lib.hid w0
  have HW1 := Lib.hid w1
  have b0 := wf64 w0
  have b1 := wf64 w1
  have HL2 := Lib.hid w2.1
  have HF0 := Lib.hid w2.2
  have hlc := w2.2.le
  have hcm := w2.2.max
  rw [w2.1] at hlc
  unfold maxLen at hcm
  clear w0 w1 w2
  go_enter Try.func6, Try.ntmps6
  go_upto_region 1 with fail
  go_cut [34] (fun s wx => (∃ b, s = .bool b) ∧ wx = w)
  case first =>
    by_cases c1 : 5 < a0
    · have d1 : decide (5 < a0) = true := decide_eq_true c1
      by_cases c2 : a0 ≤ 255
      · have d2 : decide (a0 ≤ 255) = true := decide_eq_true c2
        by_cases c3 : 0 ≤ a1
        · have d3 : decide (0 ≤ a1) = true := decide_eq_true c3
          by_cases c4 : a1 ≤ 255 - a0
          · have d4 : decide (a1 ≤ 255 - a0) = true := decide_eq_true c4
            go_wp2_with fail
            go_meet
            exact ⟨⟨_, rfl⟩, rfl⟩
          · have d4 : decide (a1 ≤ 255 - a0) = false := decide_eq_false c4
            go_wp2_with fail
            go_meet
            exact ⟨⟨_, rfl⟩, rfl⟩
        · have d3 : decide (0 ≤ a1) = false := decide_eq_false c3
          go_wp2_with fail
          go_meet
          exact ⟨⟨_, rfl⟩, rfl⟩
      · have d2 : decide (a0 ≤ 255) = false := decide_eq_false c2
        go_wp2_with fail
        go_meet
        exact ⟨⟨_, rfl⟩, rfl⟩
    · have d1 : decide (5 < a0) = false := decide_eq_false c1
      go_wp2_with fail
      go_meet
      exact ⟨⟨_, rfl⟩, rfl⟩
  case rest =>
  obtain ⟨⟨b, rfl⟩, rfl⟩ := hcut
  go_upto_if 34 with fail
  go_cut [0] (fun s wx => (∃ x, s = .int .i64 x ∧ (Lit.int .i64 x).wf = true) ∧ wx = wc)
  case first =>
    cases b with
    | true => go_wp2_with fail; go_meet; exact ⟨⟨_, rfl, rfl⟩, rfl⟩
    | false => go_wp2_with fail; go_meet; exact ⟨⟨_, rfl, HW0.out⟩, rfl⟩
  case rest =>
  obtain ⟨⟨k, rfl, hkw⟩, rfl⟩ := hcut
  have HKW := Lib.hid hkw
  have bk := wf64 hkw
  clear hkw HW0 b0 a0
  go_upto_region 3 with fail
  go_cut [44] (fun s wx => (∃ b, s = .bool b) ∧ wx = wc)
  case first =>
    by_cases c1 : 5 < a1
    · have d1 : decide (5 < a1) = true := decide_eq_true c1
      by_cases c2 : a1 ≤ 250
      · have d2 : decide (a1 ≤ 250) = true := decide_eq_true c2
        by_cases c3 : k ≤ 5
        · have d3 : decide (k ≤ 5) = true := decide_eq_true c3
          go_wp2_with fail
          go_meet
          exact ⟨⟨_, rfl⟩, rfl⟩
        · have d3 : decide (k ≤ 5) = false := decide_eq_false c3
          go_wp2_with fail
          go_meet
          exact ⟨⟨_, rfl⟩, rfl⟩
      · have d2 : decide (a1 ≤ 250) = false := decide_eq_false c2
        go_wp2_with fail
        go_meet
        exact ⟨⟨_, rfl⟩, rfl⟩
    · have d1 : decide (5 < a1) = false := decide_eq_false c1
      go_wp2_with fail
      go_meet
      exact ⟨⟨_, rfl⟩, rfl⟩
  case rest =>
  obtain ⟨⟨b', rfl⟩, rfl⟩ := hcut
  go_upto_if 44 with fail
  go_cut [1] (fun s wx => (∃ x, s = .int .i64 x ∧ (Lit.int .i64 x).wf = true) ∧ wx = wc)
  case first =>
    cases b' with
    | true => go_wp2_with fail; go_meet; exact ⟨⟨_, rfl, rfl⟩, rfl⟩
    | false => go_wp2_with fail; go_meet; exact ⟨⟨_, rfl, HW1.out⟩, rfl⟩
  case rest =>
  obtain ⟨⟨m, rfl, hmw⟩, rfl⟩ := hcut
  have bm := wf64 hmw
  clear hmw HW1 b1 a1
  go_upto_region 5 with fail
  go_cut [47] (fun s wx => s = .bool (decide (20 < len2)) ∧ wx = wc)
  case first =>
    go_wp2_with fail
    go_meet
    exact ⟨by simp; omega, rfl⟩
  case rest =>
  obtain ⟨rfl, rfl⟩ := hcut
  go_upto_if 47 with fail
  go_cut [2] (fun s wx => (∃ (l : Nat) (fs : List Fr), s = .slice a2 l cap2 ∧ fs.length = l ∧ l ≤ 20 ∧ FrsAt wc a2 cap2 fs) ∧ wx = wc)
  case first =>
    by_cases h20 : 20 < len2
    · have d20 : decide (20 < len2) = true := decide_eq_true h20
      obtain ⟨b9, off9, e, _, _, _⟩ := HF0.out.el 0 (by rw [HL2.out]; omega)
      subst e
      have HTK := Lib.hid (HF0.out.take 20)
      go_wp2_with fail
      go_meet
      exact ⟨⟨20, m2.take 20, rfl, by rw [List.length_take, HL2.out]; omega, by omega, HTK.out⟩, rfl⟩
    · have d20 : decide (20 < len2) = false := decide_eq_false h20
      go_wp2_with fail
      go_meet
      exact ⟨⟨len2, m2, rfl, HL2.out, by omega, HF0.out⟩, rfl⟩
  case rest =>
  obtain ⟨⟨l, fs, rfl, hl, hl2, hF⟩, rfl⟩ := hcut
  have HL := Lib.hid hl
  have HF := Lib.hid hF
  clear hl hF HF0 HL2 hlc hcm
  go_wp2
  go_loop [7] (fun i => ∃ j : Nat, j ≤ l ∧ i = .int .i64 j ∧ Hid (Short fs j)) (fun i => l - (intOf i).toNat)
  case atStart => exact ⟨0, Nat.zero_le _, rfl, fun q hq => by omega⟩
  case round =>
    obtain ⟨j, hj, rfl, hS⟩ := hrel
    by_cases hlt : j < l
    · obtain ⟨b2, off2, e, _, hc1, hSj⟩ := HF.out.el j (by rw [HL.out]; exact hlt)
      subst e
      have hle := Nat.le_trans hSj.le hSj.max
      unfold maxLen at hle
      clear hSj
      have j0 : (0 : Int) ≤ (j : Int) := by omega
      have j1 : (j : Int) < (l : Int) := by omega
      by_cases h20 : (fs.getD j fr0).data.length ≤ 20
      · have HS1 : Hid (Short fs (j + 1)) := fun q hq => by
          by_cases e : q = j
          · subst e; exact h20
          · exact hS.out q (by omega)
        generalize (fs.getD j fr0).data.length = q at *
        have t : decide ((20 : Int) < (q : Int)) = false := decide_eq_false (by omega)
        have t2 : decide (20 < q) = false := decide_eq_false (by omega)
        go_wp2
        go_round
        case rel => exact ⟨j + 1, by omega, by go_num, HS1⟩
        case measure => simp [intOf]; omega
      · generalize (fs.getD j fr0).data.length = q at *
        have t : decide ((20 : Int) < (q : Int)) = true := decide_eq_true (by omega)
        have t2 : decide (20 < q) = true := decide_eq_true (by omega)
        go_wp2_with fail
        refine (awake3 _).mono ?_
        rintro e w5 ⟨rfl, hb5⟩
        go_wp2
        go_ret
        exact ⟨rfl, hb5⟩
    · obtain rfl : j = l := by omega
      have HSH := Lib.hid (hS.out.head HL.out)
      have HSA := hS
      clear hS
      by_cases hM : May k m
      · obtain ⟨k', rfl⟩ : ∃ k' : Nat, k = (k' : Int) := ⟨k.toNat, by have := hM.1; omega⟩
        obtain ⟨m', rfl⟩ : ∃ m' : Nat, m = (m' : Int) := ⟨m.toNat, by have := hM.2.1; omega⟩
        obtain ⟨n, hn⟩ : ∃ n, k' + m' = n := ⟨_, rfl⟩
        have hk1 : 1 ≤ k' := by have := hM.1; omega
        have hn2 : n ≤ 255 := by have := hM.2.2; omega
        have HDE := Lib.hid (fun w => fun (h : FrsAt w a2 cap2 fs) => dec_any a2 cap2 j k' m' n fs w h HL.out (by omega) hk1 hn hn2 (by have := HSH.out; omega))
        have HCK := Lib.hid (fun w => fun (h : FrsAt w a2 cap2 fs) => check_any a2 cap2 j k' m' n fs w h HL.out (by omega) hk1 hn hn2)
        have HRB := Lib.hid (fun w => fun (h : FrsAt w a2 cap2 fs) => reb_any 0 a2 cap2 j k' m' n fs w h HL.out (by omega) hk1 hn hn2 (by omega) (by have := HSH.out; omega))
        have HRN := Lib.hid (fun (p : Int) => fun (hp : ¬ (0 ≤ p ∧ p < (n : Int))) => fun w => fun (h : FrsAt w a2 cap2 fs) => reb_none p a2 cap2 j k' m' n fs w h HL.out (by omega) hk1 hn hn2 hp)
        have HZ : Hid ((k' : Int) + (m' : Int) = (n : Int)) := by show _ = _; omega
        have HFI := Lib.hid (fun w => fun (h : FrsAt w a2 cap2 fs) => first_any a2 cap2 j k' fs w h HL.out (by omega) (by omega))
        have hk255 : k' ≤ 255 := by omega
        have hm255 : m' ≤ 255 := by omega
        clear hn hM HKW
        go_wp2_with fail
        refine (HDE.out _ HF.out).mono ?_
        rintro e w2 ⟨hb2, ⟨hg, rfl⟩ | ⟨hg, hf, rfl⟩ | ⟨hg, hf, T, aT, cT, rfl, hT, hTl, hBe⟩⟩
        · have HB2 := Lib.hid hb2
          have HF2 := Lib.hid (HF.out.below hb2)
          have HG := Lib.hid hg
          clear hb2 hg
          go_wp2_with fail
          refine (HCK.out _ HF2.out).mono ?_
          rintro e w3 ⟨hb3, ⟨_, rfl⟩ | ⟨g1, _, _⟩ | ⟨g1, _, _⟩⟩
          rotate_left
          · exact absurd g1 HG.out
          · exact absurd g1 HG.out
          have HB3 := Lib.hid (HB2.out.trans (hb3.mono HB2.out.size))
          have HF3 := Lib.hid (HF2.out.below hb3)
          clear hb3
          go_wp2_with fail
          refine (HRB.out _ HF3.out).mono ?_
          rintro e w4 ⟨hb4, ⟨_, rfl⟩ | ⟨g1, _, _⟩ | ⟨g1, _, _⟩⟩
          rotate_left
          · exact absurd g1 HG.out
          · exact absurd g1 HG.out
          have HB4 := Lib.hid (HB3.out.trans (hb4.mono HB3.out.size))
          clear hb4
          go_wp2_with fail
          refine (awake3 _).mono ?_
          rintro e w5 ⟨rfl, hb5⟩
          have HB5 := Lib.hid (HB4.out.trans (hb5.mono HB4.out.size))
          go_wp2
          go_ret
          exact ⟨rfl, HB5.out⟩
        · have HB2 := Lib.hid hb2
          have HF2 := Lib.hid (HF.out.below hb2)
          have HG := Lib.hid hg
          have HFW := Lib.hid hf
          clear hb2 hg hf
          go_wp2_with fail
          refine (HCK.out _ HF2.out).mono ?_
          rintro e w3 ⟨hb3, ⟨g1, _⟩ | ⟨_, _, rfl⟩ | ⟨_, g2, _⟩⟩
          · exact absurd HG.out g1
          rotate_left
          · have := HFW.out; omega
          have HB3 := Lib.hid (HB2.out.trans (hb3.mono HB2.out.size))
          have HF3 := Lib.hid (HF2.out.below hb3)
          clear hb3
          go_wp2_with fail
          refine (HRB.out _ HF3.out).mono ?_
          rintro e w4 ⟨hb4, ⟨g1, _⟩ | ⟨_, _, rfl⟩ | ⟨_, g2, _⟩⟩
          · exact absurd HG.out g1
          rotate_left
          · have := HFW.out; omega
          have HB4 := Lib.hid (HB3.out.trans (hb4.mono HB3.out.size))
          clear hb4
          go_wp2_with fail
          refine (awake3 _).mono ?_
          rintro e w5 ⟨rfl, hb5⟩
          have HB5 := Lib.hid (HB4.out.trans (hb5.mono HB4.out.size))
          go_wp2
          go_ret
          exact ⟨rfl, HB5.out⟩
        · have HB2 := Lib.hid hb2
          have HF2 := Lib.hid (HF.out.below hb2)
          have HG := Lib.hid hg
          have HFW := Lib.hid hf
          have HT := Lib.hid hT
          have HTL := Lib.hid hTl
          have HCO := Lib.hid (chosen_of hg hf)
          have HBE := Lib.hid hBe
          have HTE := Lib.hid (hBe.ev (chosen_of hg hf) (by omega))
          have HTR := Lib.hid ((hBe.shape (chosen_of hg hf) (by omega)).2)
          clear hb2 hg hf hT hTl hBe
          go_wp2_with fail
          refine (HCK.out _ HF2.out).mono ?_
          rintro e w3 ⟨hb3, ⟨g1, _⟩ | ⟨_, g2, _⟩ | ⟨_, _, rfl⟩⟩
          · exact absurd HG.out g1
          · have := HFW.out; omega
          have HB3 := Lib.hid (HB2.out.trans (hb3.mono HB2.out.size))
          have HF3 := Lib.hid (HF2.out.below hb3)
          have HT3 := Lib.hid (HT.out.below hb3)
          clear hb3
          have t1 : ((k' : Int) != (k' : Int)) = false := by simp
          go_wp2_with fail
          refine (even_at true aT cT k' T HTL.out (by omega) ⟨fun _ => HTE.out, fun _ => rfl⟩ _ HT3.out).mono ?_
          rintro e w4 ⟨rfl, d, rfl⟩
          have HB4 := Lib.hid (HB3.out.trans ((below_drewN w3 d).mono HB3.out.size))
          have HF4 := Lib.hid (HF3.out.below (below_drewN w3 d))
          have HT4 := Lib.hid (HT3.out.below (below_drewN w3 d))
          generalize w3.drewN d = w4 at *
          clear t1 HB3 HF3 HT3 HT HF2 HB2
          go_wp2_with fail
          refine (HFI.out _ HF4.out).mono ?_
          rintro e w5 ⟨aI, nI, cI, rfl, hnI, hI, hb5⟩
          have HCL := Lib.hid HCO.out.len
          have hnk : k' ≤ nI := by rw [← hnI, HCL.out]; exact Nat.le_refl _
          have hnk2 : nI ≤ k' := by rw [← hnI, HCL.out]; exact Nat.le_refl _
          obtain ⟨bI, offI, e, _, _, _⟩ := hI.el 0 (by rw [HCL.out]; omega)
          subst e
          have HI := Lib.hid hI
          have HB5 := Lib.hid (HB4.out.trans (hb5.mono HB4.out.size))
          have HF5 := Lib.hid (HF4.out.below hb5)
          have HT5 := Lib.hid (HT4.out.below hb5)
          have HBD := Lib.hid (HCO.out.by hI HCO.out.len)
          clear hnI hI hb5 HB4 HF4 HT4
          go_wp2
          go_loopw [14] (fun i ws => ∃ q : Nat, q ≤ nI ∧ i = .int .i64 q ∧ Hid (Below w5.heap.size w5 ws)) (fun i _ => nI - (intOf i).toNat)
          case atStart => exact ⟨0, Nat.zero_le _, rfl, Below.refl _ _⟩
          case round =>
            obtain ⟨q, hq, rfl, hb⟩ := hrel
            have hbz := hb.out.size
            by_cases hlq : q < nI
            · obtain ⟨b', off', e, hc0, hc1, hSq⟩ := HI.out.el q (by rw [HCL.out]; omega)
              cases e
              have hqc : q < ((firsts fs).take k').length := by rw [HCL.out]; omega
              have hpp := HCO.out.pos (((firsts fs).take k').getD q fr0) (getD_mem _ q fr0 hqc)
              have HFG := Lib.hid (HBE.out.frag HCO.out (by omega) HBD.out q (by omega))
              obtain ⟨p, hpn⟩ : ∃ p : Nat, (((firsts fs).take k').getD q fr0).pos = (p : Int) := Int.eq_ofNat_of_zero_le hpp.1
              rw [hpn] at hc0 hpp
              have HFG2 : Hid (frag T p = (((firsts fs).take k').getD q fr0).data) := by show _ = _; rw [← HFG.out, hpn]; rfl
              clear hpn HFG hqc
              have HQ0 := Lib.hid (cell_later hb.out hc0)
              have HQ1 := Lib.hid (cell_later hb.out hc1)
              have HSQ := Lib.hid (hSq.below hb.out)
              have HTW := Lib.hid (HT5.out.below hb.out)
              have HTRR : Hid (∀ i, i < k' → (T.getD i []).length = (fs.getD 0 fr0).data.length) := HTR.out
              have HFM := Lib.hid (fun w' => fun h => fragment_any aT cT k' (fs.getD 0 fr0).data.length p T w' h HTL.out (by omega) (by omega) HTRR.out (by have := HSH.out; omega) (by omega))
              clear hc0 hc1 hSq
              generalize ((firsts fs).take k').getD q fr0 = f at *
              have HQL : Hid (f.data.length = f.data.length) := rfl
              obtain ⟨r, hr⟩ : ∃ r, f.data.length = r := ⟨_, rfl⟩
              have HR := Lib.hid hr
              rw [hr] at HQ1
              clear hr
              have q0 : (0 : Int) ≤ (q : Int) := by omega
              have q1 : (q : Int) < (nI : Int) := by omega
              go_upto_region 23 with fail
              go_cut [136] (fun s wx => s = .bool false ∧ Hid (Below w5.heap.size w5 wx))
              case first =>
                have hcd0 : wr.drew.cell? ⟨bI, offI + q * 2, none⟩ = some (.int .i64 (p : Int)) := HQ0.out
                have hcd1 : wr.drew.cell? ⟨bI, offI + q * 2 + 1, none⟩ = some (.slice f.loc r f.cap) := HQ1.out
                have hsd : (convert 28 9 (.slice f.loc r f.cap)).run Try.prog wr.drew = .ok (.string (strB f.data)) wr.drew := str_at (HSQ.out.alike rfl) HR.out
                generalize hsb : strB f.data = st at *
                have HSB := Lib.hid hsb
                clear hsb
                go_region_with ((go_at_call 17; refine (HFM.out _ ?_).mono ?_; (exact HTW.out.alike rfl); rintro e w6 ⟨g, y, rfl, hS6, hb6⟩; have hk0 := cell_via hb6 HQ0.out rfl; have hk1 := cell_via hb6 HQ1.out rfl; have HK2 := Lib.hid (SeenAt.via hb6 HSQ.out rfl); have HB6 := Lib.hid (below_via hb6 hb.out hbz rfl rfl rfl rfl); rw [HFG2.out] at hS6 ⊢; have hst5 := str_at hS6 HR.out; rw [HSB.out] at hst5; have hst6 := str_at HK2.out HR.out; rw [HSB.out] at hst6; rw [HR.out]; clear hb6 hS6))
                all_goals (go_wp2_with fail; go_meet)
                all_goals exact ⟨rfl, below_same HB6.out rfl rfl rfl rfl⟩
              case rest =>
              obtain ⟨rfl, hb'⟩ := hcut
              go_wp2
              go_round
              case rel => exact ⟨q + 1, by omega, by go_num, hb'⟩
              case measure => simp [intOf]; omega
            · have hqn : nI ≤ q := by omega
              have HF6 := Lib.hid (HF5.out.below hb.out)
              have HB6 := Lib.hid (HB5.out.trans (hb.out.mono HB5.out.size))
              clear hb HI HT5
              go_wp2_with fail
              rw [HZ.out]
              refine (HRN.out (n : Int) (by omega) _ HF6.out).mono ?_
              rintro e w7 ⟨hb7, ⟨g1, _⟩ | ⟨_, g2, _⟩ | ⟨_, _, rfl⟩⟩
              · exact absurd HG.out g1
              · have := HFW.out; omega
              have HF7 := Lib.hid (HF6.out.below hb7)
              have HB7 := Lib.hid (HB6.out.trans (hb7.mono HB6.out.size))
              clear hb7
              go_wp2_with fail
              refine (HRN.out (-1) (by omega) _ HF7.out).mono ?_
              rintro e w8 ⟨hb8, ⟨g1, _⟩ | ⟨_, g2, _⟩ | ⟨_, _, rfl⟩⟩
              · exact absurd HG.out g1
              · have := HFW.out; omega
              have HB8 := Lib.hid (HB7.out.trans (hb8.mono HB7.out.size))
              clear hb8
              go_wp2_with fail
              refine (awake3 _).mono ?_
              rintro e w9 ⟨rfl, hb9⟩
              have HB9 := Lib.hid (HB8.out.trans (hb9.mono HB8.out.size))
              go_wp2
              go_ret
              exact ⟨rfl, HB9.out⟩
      · have HDN := Lib.hid (fun w => dec_no k m (.slice a2 j cap2) w HKW.out hM)
        have HCN := Lib.hid (fun w => check_no k m (.slice a2 j cap2) w hM)
        have HRN := Lib.hid (fun w => reb_no k m 0 (.slice a2 j cap2) w HKW.out hM)
        clear hM HKW
        go_wp2_with fail
        refine (HDN.out _).mono ?_
        rintro e w' ⟨rfl, rfl⟩
        go_wp2_with fail
        refine (HCN.out _).mono ?_
        rintro e w' ⟨rfl, rfl⟩
        go_wp2_with fail
        refine (HRN.out _).mono ?_
        rintro e w' ⟨rfl, rfl⟩
        go_wp2_with fail
        refine (awake3 _).mono ?_
        rintro e w5 ⟨rfl, hb5⟩
        go_wp2
        go_ret
        exact ⟨rfl, hb5⟩

end Go.Proofs.Ytnhledngeicekaa
